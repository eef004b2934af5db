/-
  Whether a piece may be, how many pieces so many bytes are, the next number of a body, bytes that are all 0: the program's calls and the document's.
-/
import Derived.Test.YtdjfahnnfhediaaGreatBase
import Derived.Test.YtdjfahnnfhediaaGreatSealA
import Derived.Test.YtdjfahnnfhediaaGreatWireA
import Derived.RegionTactic
import Derived.LoopTactic
namespace Go.Proofs.YtdjfahnnfhediaaGreat
set_option maxRecDepth 100000
open Go.RowKit Crc Wm


/-- a piece as Go has it: its numbers, and where its data lie -/
structure Pv where
  E : Int
  A : Int
  I : Int
  C : Int
  ad : Option Addr
  n : Nat
  c : Nat
abbrev pvC (p : Pv) : Array Value := #[.int .i64 p.E, .int .i64 p.A, .int .i64 p.I, .int .i64 p.C, .slice p.ad p.n p.c]
abbrev pvV (p : Pv) : Value := .agg (pvC p)

/-- a piece lies in block g -/
def Bp (w : World) (g : Nat) (p : Pv) (t : TypeId) : Prop := w.heap[g]? = some (.cells (pvC p) t (0, 0))
section
variable {w w' : World} {g : Nat} {p : Pv} {t : TypeId}
theorem Bp.c0 (h : Bp w g p t) : w.cell? ⟨g, 0, none⟩ = some (.int .i64 p.E) := by rw [cell_of_row _ _ _ _ _ _ h]; rfl
theorem Bp.c1 (h : Bp w g p t) : w.cell? ⟨g, 1, none⟩ = some (.int .i64 p.A) := by rw [cell_of_row _ _ _ _ _ _ h]; rfl
theorem Bp.c2 (h : Bp w g p t) : w.cell? ⟨g, 2, none⟩ = some (.int .i64 p.I) := by rw [cell_of_row _ _ _ _ _ _ h]; rfl
theorem Bp.c3 (h : Bp w g p t) : w.cell? ⟨g, 3, none⟩ = some (.int .i64 p.C) := by rw [cell_of_row _ _ _ _ _ _ h]; rfl
theorem Bp.c4 (h : Bp w g p t) : w.cell? ⟨g, 4, none⟩ = some (.slice p.ad p.n p.c) := by rw [cell_of_row _ _ _ _ _ _ h]; rfl
theorem Bp.lt (h : Bp w g p t) : g < w.heap.size := lt_of_block h
theorem Bp.fr (h : Bp w g p t) (i : Nat) : w.frozen? ⟨g, i, none⟩ = false := frozen_of_row _ _ _ _ _ h
theorem Bp.below (h : Bp w g p t) (hb : Below w.heap.size w w') : Bp w' g p t := (hb.block g h.lt).trans h
theorem Bp.new (w : World) (p : Pv) (t : TypeId) : Bp (w.alloc (.cells (pvC p) t)) w.heap.size p t := heap_alloc_new w _
end

theorem within_any (x a b : Int) : Says 92 #[.int .i64 x, .int .i64 a, .int .i64 b] (.bool (decide (a ≤ x) && decide (x ≤ b))) := by
  intro w
  rcases Int.lt_or_le x a with h | h
  · have h1 : decide (a ≤ x) = false := decide_eq_false (by omega)
    go_enter Tryz.func92, Tryz.ntmps92
    go_wp2_with fail
    go_ret
    exact ⟨by rw [h1]; rfl, rfl⟩
  · have h1 : decide (a ≤ x) = true := decide_eq_true h
    go_enter Tryz.func92, Tryz.ntmps92
    go_wp2_with fail
    go_ret
    exact ⟨by rw [h1]; rfl, rfl⟩

def MayN (E A I C : Int) (n : Nat) : Prop := (0 ≤ E ∧ E ≤ 4294967295) ∧ (0 ≤ A ∧ A ≤ 2199023255552) ∧ (1 ≤ C ∧ C ≤ 1024) ∧ (0 ≤ I ∧ I ≤ C - 1) ∧ (n = 44 ∨ (I = C - 1 ∧ n < 44))
instance (E A I C : Int) (n : Nat) : Decidable (MayN E A I C n) := by unfold MayN; infer_instance
theorem may_iff (p : Pc) : p.May ↔ MayN p.E p.A p.I p.C p.D.length := Iff.rfl

theorem may_chain (E A I C D : Int) (n : Nat) (hD : D = IntKind.i64.wrap (C - 1)) (L : Int) (hL : L = if I = D then 0 else 44) :
    decide (MayN E A I C n) = ((decide (0 ≤ E) && decide (E ≤ 4294967295)) && ((decide (0 ≤ A) && decide (A ≤ 2199023255552)) && ((decide (1 ≤ C) && decide (C ≤ 1024)) && ((decide (0 ≤ I) && decide (I ≤ D)) && (decide (L ≤ (n : Int)) && decide ((n : Int) ≤ 44)))))) := by
  rw [Bool.eq_iff_iff]
  simp only [Bool.and_eq_true, decide_eq_true_eq]
  unfold MayN
  rw [IntKind.wrap_i64] at hD
  constructor
  · rintro ⟨h1, h2, h3, h4, h5⟩
    refine ⟨h1, h2, h3, by omega, ?_⟩
    rw [hL]
    split <;> omega
  · rintro ⟨h1, h2, h3, h4, h5⟩
    rw [hL] at h5
    refine ⟨h1, h2, h3, by omega, ?_⟩
    split at h5 <;> omega

set_option maxHeartbeats 2000000 in
set_option maxRecDepth 100000 in
theorem may_any (p : Pv) (hn : p.n ≤ 4611686018427387904) (w : World) : Calls Tryz.prog 78 #[pvV p] w fun e w' => e = .returned (.bool (decide (MayN p.E p.A p.I p.C p.n))) ∧ Below w.heap.size w w' := by
  have HX := Lib.hid (Bp.new w p 105)
  have HB := Lib.hid (below_new w (.cells (pvC p) 105))
  obtain ⟨E, A, I, C, ad, n, c⟩ := p
  obtain ⟨D, hD⟩ : ∃ D, D = IntKind.i64.wrap (C - 1) := ⟨_, rfl⟩
  obtain ⟨L, hL⟩ : ∃ L : Int, L = if I = D then 0 else 44 := ⟨_, rfl⟩
  have HE := Lib.hid (may_chain E A I C D n hD L hL)
  have k1 := within_any E 0 4294967295
  have k2 := within_any A 0 2199023255552
  have k3 := within_any C 1 1024
  have k4 := within_any I 0 D
  have k5 := within_any n L 44
  generalize (decide (0 ≤ E) && decide (E ≤ 4294967295)) = x1 at *
  generalize (decide (0 ≤ A) && decide (A ≤ 2199023255552)) = x2 at *
  generalize (decide (1 ≤ C) && decide (C ≤ 1024)) = x3 at *
  generalize (decide (0 ≤ I) && decide (I ≤ D)) = x4 at *
  generalize (decide (L ≤ (n : Int)) && decide ((n : Int) ≤ 44)) = x5 at *
  replace hn : n ≤ 4611686018427387904 := hn
  replace hD := hD.symm
  have c0 := HX.out.c0
  have c1 := HX.out.c1
  have c2 := HX.out.c2
  have c3 := HX.out.c3
  have c4 := HX.out.c4
  have HK := Lib.hid (show _ ∧ _ ∧ _ ∧ _ ∧ _ from ⟨k1, k2, k3, k4, k5⟩)
  clear k1 k2 k3 k4 k5
  show Calls _ _ _ _ fun e w' => e = .returned (.bool (decide (MayN E A I C n))) ∧ _
  generalize decide (MayN E A I C n) = r at *
  by_cases hI : I = D
  · have ht : (I == D) = true := by rw [hI]; simp
    rw [if_pos hI] at hL
    subst hL
    clear hI
    go_enter Tryz.func78, Tryz.ntmps78
    go_wp2_with fail
    refine (HK.out.1 _).mono ?_
    rintro e w1 ⟨rfl, rfl⟩
    cases x1 with
    | false => go_wp2_with fail; go_ret; exact ⟨by rw [HE.out]; rfl, HB.out⟩
    | true =>
    go_wp2_with fail
    refine (HK.out.2.1 _).mono ?_
    rintro e w1 ⟨rfl, rfl⟩
    cases x2 with
    | false => go_wp2_with fail; go_ret; exact ⟨by rw [HE.out]; rfl, HB.out⟩
    | true =>
    go_wp2_with fail
    refine (HK.out.2.2.1 _).mono ?_
    rintro e w1 ⟨rfl, rfl⟩
    cases x3 with
    | false => go_wp2_with fail; go_ret; exact ⟨by rw [HE.out]; rfl, HB.out⟩
    | true =>
    go_wp2_with fail
    refine (HK.out.2.2.2.1 _).mono ?_
    rintro e w1 ⟨rfl, rfl⟩
    cases x4 with
    | false => go_wp2_with fail; go_ret; exact ⟨by rw [HE.out]; rfl, HB.out⟩
    | true =>
    go_wp2_with fail
    refine (HK.out.2.2.2.2 _).mono ?_
    rintro e w1 ⟨rfl, rfl⟩
    go_wp2_with fail
    go_ret
    exact ⟨by rw [HE.out]; rfl, HB.out⟩
  · have ht : (I == D) = false := by simp [hI]
    rw [if_neg hI] at hL
    subst hL
    clear hI
    go_enter Tryz.func78, Tryz.ntmps78
    go_wp2_with fail
    refine (HK.out.1 _).mono ?_
    rintro e w1 ⟨rfl, rfl⟩
    cases x1 with
    | false => go_wp2_with fail; go_ret; exact ⟨by rw [HE.out]; rfl, HB.out⟩
    | true =>
    go_wp2_with fail
    refine (HK.out.2.1 _).mono ?_
    rintro e w1 ⟨rfl, rfl⟩
    cases x2 with
    | false => go_wp2_with fail; go_ret; exact ⟨by rw [HE.out]; rfl, HB.out⟩
    | true =>
    go_wp2_with fail
    refine (HK.out.2.2.1 _).mono ?_
    rintro e w1 ⟨rfl, rfl⟩
    cases x3 with
    | false => go_wp2_with fail; go_ret; exact ⟨by rw [HE.out]; rfl, HB.out⟩
    | true =>
    go_wp2_with fail
    refine (HK.out.2.2.2.1 _).mono ?_
    rintro e w1 ⟨rfl, rfl⟩
    cases x4 with
    | false => go_wp2_with fail; go_ret; exact ⟨by rw [HE.out]; rfl, HB.out⟩
    | true =>
    go_wp2_with fail
    refine (HK.out.2.2.2.2 _).mono ?_
    rintro e w1 ⟨rfl, rfl⟩
    go_wp2_with fail
    go_ret
    exact ⟨by rw [HE.out]; rfl, HB.out⟩

set_option maxHeartbeats 400000 in
theorem need_any (n : Int) (h0 : -9223372036854775808 ≤ n) (h1 : n ≤ 9223372036854775807) : Says 62 #[.int .i64 n] (.int .i64 (need n)) := by
  intro w
  unfold need
  rcases Int.lt_or_le 0 n with h | h
  · rw [if_neg (by omega)]
    go_enter Tryz.func62, Tryz.ntmps62
    go_wp2_with fail
    go_ret
    exact ⟨rfl, rfl⟩
  · rw [if_pos h]
    go_enter Tryz.func62, Tryz.ntmps62
    go_wp2_with fail
    go_ret
    exact ⟨rfl, rfl⟩

end Go.Proofs.YtdjfahnnfhediaaGreat
