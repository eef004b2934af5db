/-
  A ring by its four numbers: whether it may be, and what each call answers of it. No program.
-/
import Derived.Test.YtdjfahnnfhediaaGreatChecked
import Derived.WalkKit
import Derived.WalkLawsBesides
import Derived.Below
import Derived.Lib.Hide
import Derived.Outline
import Derived.RegionTactic
import Derived.Deep.QuietTactic
import Derived.BigQuiet
import Derived.Deep.LoopGhost
import Derived.LoopTactic
import Derived.Deep.Draws
import Derived.Test.YtdjfahnnfhediaaGreatBase
import Derived.Test.YtdjfahnnfhediaaGreatSince
import Derived.Laws.ResultCell
namespace Go.Proofs.YtdjfahnnfhediaaGreat
set_option maxRecDepth 100000

/-- a ring's numbers -/
structure Rg where
  F : Int
  S : Int
  H : Int
  T : Int
deriving DecidableEq

namespace Rg
def zero : Rg := ⟨0, 0, 0, 0⟩
def sane (r : Rg) : Bool := decide (0 ≤ r.F) && (decide (r.F ≤ 4096) && (decide (1 ≤ r.S) && (decide (r.S ≤ 4096) && (decide (0 ≤ r.H) && (decide (r.H ≤ r.T) && (decide (r.T ≤ 1099511627776) && decide (r.T - r.H ≤ r.S)))))))

/-- of what may be: its bounds -/
structure Ok (r : Rg) : Prop where
  f0 : 0 ≤ r.F
  f1 : r.F ≤ 4096
  s0 : 1 ≤ r.S
  s1 : r.S ≤ 4096
  h0 : 0 ≤ r.H
  ht : r.H ≤ r.T
  t1 : r.T ≤ 1099511627776
  u1 : r.T - r.H ≤ r.S

theorem sane_iff {r : Rg} : r.sane = true ↔ r.Ok := by
  unfold sane
  simp only [Bool.and_eq_true, decide_eq_true_eq]
  constructor
  · rintro ⟨h1, h2, h3, h4, h5, h6, h7, h8⟩
    exact ⟨h1, h2, h3, h4, h5, h6, h7, h8⟩
  · rintro ⟨h1, h2, h3, h4, h5, h6, h7, h8⟩
    exact ⟨h1, h2, h3, h4, h5, h6, h7, h8⟩
theorem ok {r : Rg} (h : r.sane = true) : r.Ok := sane_iff.1 h

/-- ints as Go has them -/
structure Wf (r : Rg) : Prop where
  f : -9223372036854775808 ≤ r.F ∧ r.F < 9223372036854775808
  s : -9223372036854775808 ≤ r.S ∧ r.S < 9223372036854775808
  h : -9223372036854775808 ≤ r.H ∧ r.H < 9223372036854775808
  t : -9223372036854775808 ≤ r.T ∧ r.T < 9223372036854775808

def used (r : Rg) : Int := if r.sane = true then r.T - r.H else 0
def free (r : Rg) : Int := if r.sane = true then r.S - (r.T - r.H) else 0
def asked (r : Rg) (at_ : Int) : Bool := r.sane && (decide (0 ≤ at_) && decide (at_ ≤ 2199023255552))
def sector (r : Rg) (at_ : Int) : Int := if r.asked at_ = true then r.F + at_ % r.S else -1
def holds (r : Rg) (at_ : Int) : Bool := r.sane && (decide (r.H ≤ at_) && decide (at_ < r.T))
def takeE (r : Rg) (n : Int) : Int := if (r.sane && decide (0 ≤ n)) = true then (if r.S - (r.T - r.H) < n ∨ 1099511627776 < r.T + n then 5 else 0) else 1
def take (r : Rg) (n : Int) : Rg := if r.takeE n = 0 then ⟨r.F, r.S, r.H, r.T + n⟩ else zero
def dropE (r : Rg) (to_ : Int) : Int := if (r.sane && (decide (r.H ≤ to_) && decide (to_ ≤ r.T))) = true then 0 else 1
def drop (r : Rg) (to_ : Int) : Rg := if r.dropE to_ = 0 then ⟨r.F, r.S, to_, r.T⟩ else zero

/-- how many of n places from at on lie ahead of the ring's end -/
def ahead (r : Rg) (at_ n : Int) : Int := min n (r.S - at_ % r.S)
def may (r : Rg) (at_ n : Int) : Bool := r.asked at_ && (decide (0 ≤ n) && decide (n ≤ r.S))
def spans (r : Rg) (at_ n : Int) : List (Int × Int) :=
  if r.may at_ n = true then
    if n = 0 then [] else if n ≤ r.S - at_ % r.S then [(r.F + at_ % r.S, n)] else [(r.F + at_ % r.S, r.S - at_ % r.S), (r.F, n - (r.S - at_ % r.S))]
  else []
end Rg

end Go.Proofs.YtdjfahnnfhediaaGreat

namespace Go.Proofs.YtdjfahnnfhediaaGreat
set_option maxRecDepth 100000
open Go.RowKit

/-- a call that answers one thing, and turns nothing that was there -/
def Tells (f : FuncId) (args : Array Value) (v : Value) : Prop := ∀ w : World, Calls Tryz.prog f args w fun e w' => e = .returned v ∧ Below w.heap.size w w'

theorem isnan_any (x : Int) (w : World) : Calls Tryz.prog 118 #[.int .i64 x] w fun e w' => e = .returned (.bool false) ∧ w' = w := by
  have h : (x != x) = false := by simp
  go_enter Tryz.func118, Tryz.ntmps118
  go_wp2_with fail
  go_ret
  exact ⟨rfl, rfl⟩

theorem less_any (x y : Int) (w : World) : Calls Tryz.prog 102 #[.int .i64 x, .int .i64 y] w fun e w' => e = .returned (.bool (decide (x < y))) ∧ w' = w := by
  go_enter Tryz.func102, Tryz.ntmps102
  go_wp2_with (go_at_call 118; refine (isnan_any x w).mono ?_; rintro e w' ⟨rfl, hw⟩; replace hw := hw.symm; subst hw)
  go_ret
  exact ⟨rfl, rfl⟩

/-- does each number rise on the one ahead of it, or stay? -/
def rises : List Int → Bool
  | x :: y :: l => decide (x ≤ y) && rises (y :: l)
  | _ => true

theorem rises_tail {x : Int} {l : List Int} (h : rises (x :: l) = true) : rises l = true := by
  rcases l with _ | ⟨y, l⟩
  · rfl
  · simp only [rises, Bool.and_eq_true] at h
    exact h.2
theorem rises_drop {l : List Int} (h : rises l = true) : ∀ k, rises (l.drop k) = true
  | 0 => by simpa using h
  | k + 1 => by
    have := rises_drop h k
    rw [← List.drop_drop]
    generalize l.drop k = m at this
    rcases m with _ | ⟨x, m⟩
    · rfl
    · exact rises_tail this
theorem rises_step {l : List Int} {k : Nat} {x y : Int} (hx : l[k]? = some x) (hy : l[k + 1]? = some y) : rises (l.drop k) = (decide (x ≤ y) && rises (l.drop (k + 1))) := by
  have h1 : k < l.length := (List.getElem?_eq_some_iff.1 hx).1
  have h2 : k + 1 < l.length := (List.getElem?_eq_some_iff.1 hy).1
  have e1 : l[k] = x := (List.getElem?_eq_some_iff.1 hx).2
  have e2 : l[k + 1] = y := (List.getElem?_eq_some_iff.1 hy).2
  rw [List.drop_eq_getElem_cons h1, List.drop_eq_getElem_cons h2, e1, e2]
  rfl
theorem rises_last {l : List Int} {k : Nat} (h : l.length = k + 1) : rises (l.drop k) = true := by
  have h1 : k < l.length := by omega
  rw [List.drop_eq_getElem_cons h1, List.drop_eq_nil_of_le (by omega)]
  rfl

/-- ints lie in a row, in a block below B -/
def Row (w : World) (B : Nat) (b o : Nat) (zs : List Int) : Prop := b < B ∧ ∀ j x, zs[j]? = some x → w.cell? ⟨b, o + j, none⟩ = some (.int .i64 x)
theorem Row.below {w w' : World} {B B' b o : Nat} {zs : List Int} (h : Row w B b o zs) (hb : Below B' w w') (hB : B ≤ B') : Row w' B b o zs :=
  ⟨h.1, fun j x hx => (hb.cell (Nat.lt_of_lt_of_le h.1 hB)).trans (h.2 j x hx)⟩

set_option maxHeartbeats 1000000 in
theorem sorted_any (b o c n : Nat) (zs : List Int) (HL : Hid (zs.length = n + 1)) (hn : n ≤ 1000) (w : World) (hr : Row w w.heap.size b o zs) :
    Calls Tryz.prog 89 #[.slice (some ⟨b, o, none⟩) (n + 1) c] w fun e w' => e = .returned (.bool (rises zs)) ∧ Below w.heap.size w w' := by
  have HR := Lib.hid hr
  clear hr
  go_enter Tryz.func89, Tryz.ntmps89
  go_wp2_with fail
  go_loopw [3] (fun u wr => ∃ k : Nat, u = .int .i64 (k : Int) ∧ k ≤ n ∧ Hid (rises (zs.drop k) = true) ∧ Hid (Below w.heap.size w wr)) (fun u _ => (intOf u).toNat)
  case atStart => exact ⟨n, by simp, Nat.le_refl _, rises_last HL.out, Below.refl _ _⟩
  case round =>
    obtain ⟨k, rfl, hk, HS, HB⟩ := hrel
    rcases k with _ | k
    · have h0 : decide (((0 : Nat) : Int) > 0) = false := by decide
      go_wp2_with fail
      go_ret
      have hs := HS.out
      rw [List.drop_zero] at hs
      exact ⟨by rw [hs]; rfl, HB.out⟩
    · have hx : k < zs.length := by have := HL.out; omega
      have hy : k + 1 < zs.length := by have := HL.out; omega
      have HST := Lib.hid (rises_step (List.getElem?_eq_getElem hx) (List.getElem?_eq_getElem hy))
      have kx := (HB.out.cell (p := ⟨b, o + k, none⟩) HR.out.1).trans (HR.out.2 k _ (List.getElem?_eq_getElem hx))
      have ky := (HB.out.cell (p := ⟨b, o + (k + 1), none⟩) HR.out.1).trans (HR.out.2 (k + 1) _ (List.getElem?_eq_getElem hy))
      generalize zs[k] = x at kx HST
      generalize zs[k + 1] = y at ky HST
      clear hx hy
      have h0 : decide (((k + 1 : Nat) : Int) > 0) = true := decide_eq_true (by omega)
      have hw1 : IntKind.i64.wrap (((k + 1 : Nat) : Int) - 1) = (k : Int) := by rw [IntKind.wrap_i64]; omega
      have hi1 : ((k + 1 : Nat) : Int) < ((n + 1 : Nat) : Int) := by omega
      have hi2 : ((k : Nat) : Int) < ((n + 1 : Nat) : Int) := by omega
      go_wp2_with fail
      go_quiet ((go_at_call 102; refine Calls.quiet_of_same (less_any _ _ _)))
      rcases Int.lt_or_le y x with hlt | hge
      · have hd : decide (y < x) = true := decide_eq_true hlt
        have hf : rises zs = false := by
          rw [Bool.eq_false_iff]
          intro h
          have h2 := rises_drop h k
          rw [HST.out, Bool.and_eq_true, decide_eq_true_eq] at h2
          omega
        go_wp2_with fail
        go_ret
        exact ⟨by rw [hf]; rfl, below_drewN HB.out _⟩
      · have hd : decide (y < x) = false := decide_eq_false (by omega)
        have hr : rises (zs.drop k) = true := by rw [HST.out, HS.out, decide_eq_true hge]; rfl
        have HS2 := Lib.hid hr
        clear hr
        go_wp2_with fail
        refine ⟨⟨k, rfl, by omega, HS2, below_drewN HB.out _⟩, by simp [intOf]⟩

/-- 'rising': the numbers lie in a row -/
theorem rising_any (b o c n : Nat) (zs : List Int) (HL : Hid (zs.length = n + 1)) (hn : n ≤ 1000) (w : World) (hr : Row w w.heap.size b o zs) :
    Calls Tryz.prog 73 #[.slice (some ⟨b, o, none⟩) (n + 1) c] w fun e w' => e = .returned (.bool (rises zs)) ∧ Below w.heap.size w w' := by
  have h := sorted_any b o c n zs HL hn w hr
  clear hr
  go_enter Tryz.func73, Tryz.ntmps73
  go_wp2_with fail
  refine h.mono ?_
  rintro e w' ⟨rfl, hb⟩
  go_wp2_with fail
  go_ret
  exact ⟨rfl, hb⟩

theorem row_new (w : World) (zs : List Int) (fr : Nat × Nat) : Row (w.alloc (.cells (zs.map (Value.int .i64)).toArray 3 fr)) (w.heap.size + 1) w.heap.size 0 zs := by
  refine ⟨by omega, fun j x hx => ?_⟩
  rw [Nat.zero_add, cell_of_row _ _ _ _ _ _ (heap_alloc_new w _)]
  simp [hx]

/-- 'rising(x, y, z)': the three lie in a block that is made for them -/
theorem rising3 (x y z : Int) (w : World) (g : Nat) (hg : w.heap.size = g) : Calls Tryz.prog 73 #[.slice (some ⟨g, 0, none⟩) 3 3] (w.alloc (.cells #[.int .i64 x, .int .i64 y, .int .i64 z] 3)) fun e w' =>
    e = .returned (.bool (rises [x, y, z])) ∧ Below w.heap.size w w' := by
  subst hg
  refine (rising_any w.heap.size 0 3 2 [x, y, z] (Lib.hid rfl) (by omega) _ ?_).mono ?_
  · have := row_new w [x, y, z] (0, 0)
    exact ⟨by simp, this.2⟩
  · rintro e w' ⟨rfl, hb⟩
    exact ⟨rfl, ((Below.refl _ _).alloc (Nat.le_refl _) _).trans (hb.mono (by simp))⟩
theorem rising4 (x y z u : Int) (w : World) (g : Nat) (hg : w.heap.size = g) : Calls Tryz.prog 73 #[.slice (some ⟨g, 0, none⟩) 4 4] (w.alloc (.cells #[.int .i64 x, .int .i64 y, .int .i64 z, .int .i64 u] 3)) fun e w' =>
    e = .returned (.bool (rises [x, y, z, u])) ∧ Below w.heap.size w w' := by
  subst hg
  refine (rising_any w.heap.size 0 4 3 [x, y, z, u] (Lib.hid rfl) (by omega) _ ?_).mono ?_
  · have := row_new w [x, y, z, u] (0, 0)
    exact ⟨by simp, this.2⟩
  · rintro e w' ⟨rfl, hb⟩
    exact ⟨rfl, ((Below.refl _ _).alloc (Nat.le_refl _) _).trans (hb.mono (by simp))⟩

end Go.Proofs.YtdjfahnnfhediaaGreat

namespace Go.Proofs.YtdjfahnnfhediaaGreat
set_option maxRecDepth 100000
open Go.RowKit

/-- a ring as Go has it -/
abbrev rgC (r : Rg) : Array Value := #[.int .i64 r.F, .int .i64 r.S, .int .i64 r.H, .int .i64 r.T]
abbrev rgV (r : Rg) : Value := .agg (rgC r)

theorem rises3 (x y z : Int) : rises [x, y, z] = (decide (x ≤ y) && decide (y ≤ z)) := by simp [rises]
theorem rises4 (x y z u : Int) : rises [x, y, z, u] = (decide (x ≤ y) && (decide (y ≤ z) && decide (z ≤ u))) := by simp [rises]

/-- a ring lies in block g -/
def Bx (w : World) (g : Nat) (r : Rg) (t : TypeId) : Prop := w.heap[g]? = some (.cells (rgC r) t (0, 0))
section
variable {w w' : World} {g : Nat} {r : Rg} {t : TypeId}
theorem Bx.c0 (h : Bx w g r t) : w.cell? ⟨g, 0, none⟩ = some (.int .i64 r.F) := by rw [cell_of_row _ _ _ _ _ _ h]; rfl
theorem Bx.c1 (h : Bx w g r t) : w.cell? ⟨g, 1, none⟩ = some (.int .i64 r.S) := by rw [cell_of_row _ _ _ _ _ _ h]; rfl
theorem Bx.c2 (h : Bx w g r t) : w.cell? ⟨g, 2, none⟩ = some (.int .i64 r.H) := by rw [cell_of_row _ _ _ _ _ _ h]; rfl
theorem Bx.c3 (h : Bx w g r t) : w.cell? ⟨g, 3, none⟩ = some (.int .i64 r.T) := by rw [cell_of_row _ _ _ _ _ _ h]; rfl
theorem Bx.lt (h : Bx w g r t) : g < w.heap.size := lt_of_block h
theorem Bx.fr (h : Bx w g r t) (i : Nat) : w.frozen? ⟨g, i, none⟩ = false := frozen_of_row _ _ _ _ _ h
theorem Bx.below (h : Bx w g r t) (hb : Below w.heap.size w w') : Bx w' g r t := (hb.block g h.lt).trans h
theorem Bx.new (w : World) (r : Rg) (t : TypeId) : Bx (w.alloc (.cells (rgC r) t)) w.heap.size r t := heap_alloc_new w _
end

set_option maxHeartbeats 1000000 in
set_option maxRecDepth 100000 in
theorem sane_any (r : Rg) : Tells 58 #[rgV r] (.bool r.sane) := by
  intro w
  have hE : r.sane = (rises [0, r.F, 4096] && (rises [1, r.S, 4096] && (rises [0, r.H, r.T, 1099511627776] && decide (r.T - r.H ≤ r.S)))) := by
    rw [rises3, rises3, rises4]
    unfold Rg.sane
    simp only [Bool.and_assoc]
  have hw : rises [0, r.H, r.T, 1099511627776] = true → IntKind.i64.wrap (r.T - r.H) = r.T - r.H := by
    rw [rises4]
    simp only [Bool.and_eq_true, decide_eq_true_eq]
    intro h
    rw [IntKind.wrap_i64]
    omega
  have HX := Lib.hid (Bx.new w r 74)
  have HB := Lib.hid (below_new w (.cells (rgC r) 74))
  have HE := Lib.hid hE
  have HW := Lib.hid hw
  clear hE hw
  obtain ⟨F, S, H, T⟩ := r
  go_enter Tryz.func58, Tryz.ntmps58
  go_wp2_with fail
  refine (rising3 0 F 4096 _ _ (by simp)).mono ?_
  rintro e w1 ⟨rfl, hb1⟩
  have HX1 := Lib.hid (HX.out.below hb1)
  have HB1 := Lib.hid (below_two HB.out hb1)
  clear hb1 HX HB
  have c1 := HX1.out.c1
  generalize rises [0, F, 4096] = r1 at *
  cases r1 with
  | false =>
    go_wp2_with fail
    go_ret
    exact ⟨by rw [HE.out]; rfl, HB1.out⟩
  | true =>
    go_wp2_with fail
    refine (rising3 1 S 4096 _ _ (by simp)).mono ?_
    rintro e w2 ⟨rfl, hb2⟩
    have HX2 := Lib.hid (HX1.out.below hb2)
    have HB2 := Lib.hid (below_two HB1.out hb2)
    clear hb2 HX1 HB1 c1
    have c2 := HX2.out.c2
    have c3 := HX2.out.c3
    generalize rises [1, S, 4096] = r2 at *
    cases r2 with
    | false =>
      go_wp2_with fail
      go_ret
      exact ⟨by rw [HE.out]; rfl, HB2.out⟩
    | true =>
      go_wp2_with fail
      refine (rising4 0 H T 1099511627776 _ _ (by simp)).mono ?_
      rintro e w3 ⟨rfl, hb3⟩
      have HX3 := Lib.hid (HX2.out.below hb3)
      have HB3 := Lib.hid (below_two HB2.out hb3)
      clear hb3 HX2 HB2 c2 c3
      have c1 := HX3.out.c1
      have c2 := HX3.out.c2
      have c3 := HX3.out.c3
      replace HW : Hid (rises [0, H, T, 1099511627776] = true → IntKind.i64.wrap (T - H) = T - H) := HW
      generalize rises [0, H, T, 1099511627776] = r3 at *
      cases r3 with
      | false =>
        go_wp2_with fail
        go_ret
        exact ⟨by rw [HE.out]; rfl, HB3.out⟩
      | true =>
        have hw := HW.out rfl
        go_wp2_with fail
        go_ret
        exact ⟨by rw [HE.out]; rfl, HB3.out⟩

set_option maxHeartbeats 1000000 in
set_option maxRecDepth 100000 in
theorem refsane_any (r : Rg) : Tells 71 #[rgV r] (.bool r.sane) := by
  intro w
  have HX := Lib.hid (Bx.new w r 69)
  have HB := Lib.hid (below_new w (.cells (rgC r) 69))
  have c0 := HX.out.c0
  have c1 := HX.out.c1
  have c2 := HX.out.c2
  have c3 := HX.out.c3
  obtain ⟨F, S, H, T⟩ := r
  go_enter Tryz.func71, Tryz.ntmps71
  go_wp2_with fail
  all_goals
    go_ret
    refine ⟨congrArg (fun b => Ending.returned (.bool b)) ?_, HB.out⟩
    clear c0 c1 c2 c3 HX HB
    unfold Rg.sane
    simp only []
    first
      | (rw [decide_eq_true (p := 0 ≤ F) (by omega), decide_eq_true (p := F ≤ 4096) (by omega), decide_eq_true (p := 1 ≤ S) (by omega), decide_eq_true (p := S ≤ 4096) (by omega), decide_eq_true (p := 0 ≤ H) (by omega), decide_eq_true (p := H ≤ T) (by omega), decide_eq_true (p := T ≤ 1099511627776) (by omega)]; rfl)
      | (symm; simp; intros; omega)

end Go.Proofs.YtdjfahnnfhediaaGreat

namespace Go.Proofs.YtdjfahnnfhediaaGreat
set_option maxRecDepth 100000
open Go.RowKit

section
variable {w V : World} {g : Nat} {r : Rg} {t : TypeId}
/-- what lies in the ring's block, from now on -/
theorem Bx.from (h : Bx w g r t) : ∀ V, Since w V → Bx V g r t := fun _ hV => h.below hV
end

theorem used_any (r : Rg) : Tells 74 #[rgV r] (.int .i64 r.used) := by
  intro w
  have hs := sane_any r
  have hu : r.used = if r.sane = true then r.T - r.H else 0 := rfl
  have hw : r.sane = true → IntKind.i64.wrap (r.T - r.H) = r.T - r.H := fun h => by
    have ok := Rg.ok h
    have := ok.h0
    have := ok.ht
    have := ok.t1
    rw [IntKind.wrap_i64]
    omega
  have HX := Lib.hid (Bx.new w r 74)
  have HB := Lib.hid (below_new w (.cells (rgC r) 74))
  have HW := Lib.hid hw
  have HU := Lib.hid hu
  clear hw hu
  obtain ⟨F, S, H, T⟩ := r
  go_enter Tryz.func74, Tryz.ntmps74
  go_wp2_with fail
  refine (hs _).mono ?_
  rintro e w1 ⟨rfl, hb1⟩
  have HX1 := Lib.hid (HX.out.below hb1)
  have HB1 := Lib.hid (below_two HB.out hb1)
  clear hb1 HX HB hs
  have c2 := HX1.out.c2
  have c3 := HX1.out.c3
  generalize (Rg.mk F S H T).sane = b at *
  cases b with
  | false =>
    go_wp2_with fail
    go_ret
    exact ⟨by rw [HU.out]; rfl, HB1.out⟩
  | true =>
    have hw := HW.out rfl
    go_wp2_with fail
    go_ret
    exact ⟨by rw [HU.out]; rfl, HB1.out⟩

theorem asked_any (r : Rg) (at_ : Int) : Tells 64 #[rgV r, .int .i64 at_] (.bool (r.asked at_)) := by
  intro w
  have hs := sane_any r
  have HU : Hid (r.asked at_ = (r.sane && rises [0, at_, 2199023255552])) := by
    show _ = _
    rw [rises3]
    rfl
  have HX := Lib.hid (Bx.new w r 74)
  have HB := Lib.hid (below_new w (.cells (rgC r) 74))
  obtain ⟨F, S, H, T⟩ := r
  go_enter Tryz.func64, Tryz.ntmps64
  go_wp2_with fail
  refine (hs _).mono ?_
  rintro e w1 ⟨rfl, hb1⟩
  have HB1 := Lib.hid (below_two HB.out hb1)
  clear hb1 HX HB hs
  generalize (Rg.mk F S H T).sane = b at *
  cases b with
  | false =>
    go_wp2_with fail
    go_ret
    exact ⟨by rw [HU.out]; rfl, HB1.out⟩
  | true =>
    go_wp2_with fail
    refine (rising3 0 at_ 2199023255552 _ _ (by simp)).mono ?_
    rintro e w2 ⟨rfl, hb2⟩
    have HB2 := Lib.hid (below_two HB1.out hb2)
    clear hb2 HB1
    go_wp2_with fail
    go_ret
    exact ⟨by rw [HU.out]; rfl, HB2.out⟩

theorem Rg.asked_iff {r : Rg} {at_ : Int} : r.asked at_ = true ↔ r.Ok ∧ 0 ≤ at_ ∧ at_ ≤ 2199023255552 := by
  unfold Rg.asked
  simp only [Bool.and_eq_true, decide_eq_true_eq, Rg.sane_iff]

theorem sector_any (r : Rg) (at_ : Int) : Tells 42 #[rgV r, .int .i64 at_] (.int .i64 (r.sector at_)) := by
  intro w
  have hs := asked_any r at_
  have HU : Hid (r.sector at_ = if r.asked at_ = true then r.F + at_ % r.S else -1) := rfl
  have HW : Hid (r.asked at_ = true → (0 ≤ at_ ∧ 0 < r.S) ∧ IntKind.i64.wrap (r.F + at_ % r.S) = r.F + at_ % r.S) := fun h => by
    obtain ⟨ok, h1, h2⟩ := Rg.asked_iff.1 h
    have := ok.f0
    have := ok.f1
    have := ok.s0
    have := ok.s1
    have := Int.emod_nonneg at_ (b := r.S) (by omega)
    have := Int.emod_lt_of_pos at_ (b := r.S) (by omega)
    refine ⟨by omega, ?_⟩
    rw [IntKind.wrap_i64]
    omega
  have HX := Lib.hid (Bx.new w r 74)
  have HB := Lib.hid (below_new w (.cells (rgC r) 74))
  obtain ⟨F, S, H, T⟩ := r
  go_enter Tryz.func42, Tryz.ntmps42
  go_wp2_with fail
  refine (hs _).mono ?_
  rintro e w1 ⟨rfl, hb1⟩
  have HX1 := Lib.hid (HX.out.below hb1)
  have HB1 := Lib.hid (below_two HB.out hb1)
  clear hb1 HX HB hs
  have c0 := HX1.out.c0
  have c1 := HX1.out.c1
  generalize (Rg.mk F S H T).asked at_ = b at *
  cases b with
  | false =>
    go_wp2_with fail
    go_ret
    exact ⟨by rw [HU.out]; rfl, HB1.out⟩
  | true =>
    obtain ⟨⟨h1, h2⟩, h3⟩ := HW.out rfl
    go_wp2_with fail
    go_quiet (fail)
    go_wp2_with fail
    go_ret
    exact ⟨by rw [HU.out, if_pos trivial]; rfl, below_drewN HB1.out _⟩

set_option maxHeartbeats 1000000 in
theorem free_any (r : Rg) : Tells 57 #[rgV r] (.int .i64 r.free) := by
  intro w
  have hs := sane_any r
  have HU : Hid (r.free = if r.sane = true then r.S - (r.T - r.H) else 0) := rfl
  have HW : Hid (r.sane = true → r.used = r.T - r.H ∧ IntKind.i64.wrap (r.S - (r.T - r.H)) = r.S - (r.T - r.H)) := fun h => by
    have ok := Rg.ok h
    have := ok.s0
    have := ok.s1
    have := ok.ht
    have := ok.u1
    refine ⟨by unfold Rg.used; rw [if_pos h], ?_⟩
    rw [IntKind.wrap_i64]
    omega
  have HX := Lib.hid (Bx.new w r 74)
  have HB := Lib.hid (below_new w (.cells (rgC r) 74))
  obtain ⟨F, S, H, T⟩ := r
  go_enter Tryz.func57, Tryz.ntmps57
  go_wp2_with fail
  refine (hs _).mono ?_
  rintro e w1 ⟨rfl, hb1⟩
  have HX1 := Lib.hid (HX.out.below hb1)
  have HB1 := Lib.hid (below_two HB.out hb1)
  clear hb1 HX HB hs
  have c0 : ∀ V, Since w1 V → V.cell? ⟨w.heap.size, 0, none⟩ = some (.int .i64 F) := fun V hV => (HX1.out.from V hV).c0
  have c1 : ∀ V, Since w1 V → V.cell? ⟨w.heap.size, 1, none⟩ = some (.int .i64 S) := fun V hV => (HX1.out.from V hV).c1
  have c2 : ∀ V, Since w1 V → V.cell? ⟨w.heap.size, 2, none⟩ = some (.int .i64 H) := fun V hV => (HX1.out.from V hV).c2
  have c3 : ∀ V, Since w1 V → V.cell? ⟨w.heap.size, 3, none⟩ = some (.int .i64 T) := fun V hV => (HX1.out.from V hV).c3
  generalize (Rg.mk F S H T).sane = b at *
  cases b with
  | false =>
    go_wp2_with fail
    go_ret
    exact ⟨by rw [HU.out]; rfl, HB1.out⟩
  | true =>
    obtain ⟨h1, h2⟩ := HW.out rfl
    go_wp2_with fail
    refine wp_region_since (by kernel_rfl) ?_
    have hS : Since w1 (World.drew w1) := (Below.refl _ _).drew
    refine wpAnyH_take (i := 0) (oi := ⟨some 6, _, _, _, _, _⟩) (v := ?_) rfl (by kernel_rfl) (by kernel_rfl) (by kernel_rfl) (fun _ _ _ h => h) (Or.inl ⟨by rfl, ?_⟩) hS ?_
    rotate_left
    · intro W hW; go_simp; with_reducible rfl
    try simp only [Act.put, List.setIfInBounds_toArray, List.set_cons_zero, List.set_cons_succ]
    refine wpAnyH_take (i := 1) (oi := ⟨some 7, _, _, _, _, _⟩) (v := ?_) rfl (by kernel_rfl) (by kernel_rfl) (by kernel_rfl) (fun _ _ _ h => h) (Or.inl ⟨by rfl, ?_⟩) hS ?_
    rotate_left
    · intro W hW; go_simp; with_reducible rfl
    try simp only [Act.put, List.setIfInBounds_toArray, List.set_cons_zero, List.set_cons_succ]
    refine wpAnyH_take (i := 2) (oi := ⟨some 8, _, _, _, _, _⟩) (v := ?_) rfl (by kernel_rfl) (by kernel_rfl) (by kernel_rfl) (fun _ _ _ h => h) (Or.inl ⟨by rfl, ?_⟩) hS ?_
    rotate_left
    · intro W hW; go_simp; with_reducible rfl
    try simp only [Act.put, List.setIfInBounds_toArray, List.set_cons_zero, List.set_cons_succ]
    refine wpAnyH_ready (rs := [3]) (by kernel_rfl) (by simp) ?_
    refine AllReadyH.cons (o := ⟨some 9, _, _, _, _, _⟩) rfl (fun Kr hKr => ?_) AllReadyH.nil
    -- operation 3: a call
    go_simp
    refine (used_any ⟨F, S, H, T⟩ _).mono ?_
    rintro e w2 ⟨rfl, hb2⟩
    rw [h1]
    show Kr _ _
    refine hKr.out _ _ ?_ (fun _ => ?_)
    · exact since_trans hS hb2
    clear hKr Kr
    refine wpAnyH_since (since_trans hS hb2) ?_
    clear hS
    have hS : Since w2 w2 := Below.refl _ _
    try simp only [Act.put, List.setIfInBounds_toArray, List.set_cons_zero, List.set_cons_succ]
    refine wpAnyH_take (i := 4) (oi := ⟨some 10, _, _, _, _, _⟩) (v := ?_) rfl (by kernel_rfl) (by kernel_rfl) (by kernel_rfl) (fun _ _ _ h => h) (Or.inl ⟨by rfl, ?_⟩) hS ?_
    rotate_left
    · intro W hW; go_simp; with_reducible rfl
    try simp only [Act.put, List.setIfInBounds_toArray, List.set_cons_zero, List.set_cons_succ]
    refine wpAnyH_take (i := 5) (oi := ⟨some 2, _, _, _, _, _⟩) (v := ?_) rfl (by kernel_rfl) (by kernel_rfl) (by kernel_rfl) (fun _ _ _ h => h) (Or.inl ⟨by rfl, ?_⟩) hS ?_
    rotate_left
    · intro W hW; go_simp; with_reducible rfl
    try simp only [Act.put, List.setIfInBounds_toArray, List.set_cons_zero, List.set_cons_succ]
    refine wpAnyH_done (by kernel_rfl) ?_ _
    go_wp2_with fail
    go_ret
    exact ⟨by rw [HU.out, if_pos trivial]; rfl, below_two HB1.out ((Below.refl _ _).drew.trans hb2)⟩

end Go.Proofs.YtdjfahnnfhediaaGreat

namespace Go.Proofs.YtdjfahnnfhediaaGreat
set_option maxRecDepth 100000
open Go.RowKit

/-- a ring and an error -/
abbrev twoV (r : Rg) (e : Int) : Value := .tuple #[rgV r, .int .i64 e]

theorem Bx.alloc {w : World} {g : Nat} {r : Rg} {t : TypeId} (h : Bx w g r t) (o : Obj) : Bx (w.alloc o) g r t := h.below (below_new w o)

set_option maxHeartbeats 1000000 in
theorem take_any (r : Rg) (n : Int) (hn : -9223372036854775808 ≤ n ∧ n < 9223372036854775808) : Tells 40 #[rgV r, .int .i64 n] (twoV (r.take n) (r.takeE n)) := by
  intro w
  have hs := sane_any r
  have hf := free_any r
  have HX := Lib.hid (Bx.new w r 74)
  have HX2 := Lib.hid (HX.out.alloc (.cells (rgC Rg.zero) 74))
  have HY2 := Lib.hid (Bx.new (w.alloc (.cells (rgC r) 74)) Rg.zero 74)
  have HB := Lib.hid (below_two (below_new w (.cells (rgC r) 74)) (below_new _ (.cells (rgC Rg.zero) 74)))
  rw [show (w.alloc (.cells (rgC r) 74)).heap.size = w.heap.size + 1 from by simp] at HY2
  clear HX
  obtain ⟨F, S, H, T⟩ := r
  go_enter Tryz.func40, Tryz.ntmps40
  go_wp2_with fail
  refine (hs _).mono ?_
  rintro e w1 ⟨rfl, hb1⟩
  have HX1 := Lib.hid (HX2.out.below hb1)
  have HY1 := Lib.hid (HY2.out.below hb1)
  have HB1 := Lib.hid (below_two HB.out hb1)
  clear hb1 HX2 HY2 HB hs
  have HE : Hid ((Rg.mk F S H T).takeE n = if ((Rg.mk F S H T).sane && decide (0 ≤ n)) = true then (if S - (T - H) < n ∨ 1099511627776 < T + n then 5 else 0) else 1) := rfl
  have HV : Hid ((Rg.mk F S H T).take n = if (Rg.mk F S H T).takeE n = 0 then ⟨F, S, H, T + n⟩ else Rg.zero) := rfl
  have y0 := HY1.out.c0
  have y1 := HY1.out.c1
  have y2 := HY1.out.c2
  have y3 := HY1.out.c3
  have f0 := HY1.out.fr 0
  have f1 := HY1.out.fr 1
  have f2 := HY1.out.fr 2
  have f3 := HY1.out.fr 3
  cases hsn : (Rg.mk F S H T).sane with
  | false =>
    rw [hsn] at HE
    replace HE : (Rg.mk F S H T).takeE n = 1 := HE
    have HV2 : Hid ((Rg.mk F S H T).take n = Rg.zero) := by rw [HV.out, HE]; rfl
    have HE2 := Lib.hid HE
    clear HE hsn
    go_wp2_with fail
    refine bodyPost_ret (v := twoV Rg.zero 1) (by rw [results_cell_tmp rfl]; go_simp; exact ⟨rfl, rfl, rfl, rfl⟩) rfl ⟨by rw [HV2.out, HE2.out], ?_⟩
    exact (((HB1.out.setCell (Nat.le_succ _) _).setCell (Nat.le_succ _) _).setCell (Nat.le_succ _) _).setCell (Nat.le_succ _) _
  | true =>
    have ok := Rg.ok hsn
    have hfr : (Rg.mk F S H T).free = S - (T - H) := by unfold Rg.free; rw [if_pos hsn]
    rw [hfr] at hf
    rw [hsn, Bool.true_and] at HE
    obtain ⟨_, _, h1, h2, h3, h4, h5, h6⟩ := ok
    simp only at h1 h2 h3 h4 h5 h6
    clear hsn hfr y0 y1 y2 y3 f0 f1 f2 f3
    rcases Int.lt_or_le n 0 with hneg | hpos
    · have y0 := HY1.out.c0
      have y1 := HY1.out.c1
      have y2 := HY1.out.c2
      have y3 := HY1.out.c3
      have f0 := HY1.out.fr 0
      have f1 := HY1.out.fr 1
      have f2 := HY1.out.fr 2
      have f3 := HY1.out.fr 3
      have hd : decide (n < 0) = true := decide_eq_true hneg
      have HE2 : Hid ((Rg.mk F S H T).takeE n = 1) := by show _ = _; rw [HE.out, decide_eq_false (by omega)]; rfl
      have HV2 : Hid ((Rg.mk F S H T).take n = Rg.zero) := by show _ = _; rw [HV.out, HE2.out]; rfl
      clear HE HV hf
      go_wp2_with fail
      refine bodyPost_ret (v := twoV Rg.zero 1) (by rw [results_cell_tmp rfl]; go_simp; exact ⟨rfl, rfl, rfl, rfl⟩) rfl ⟨by rw [HV2.out, HE2.out], ?_⟩
      exact (((HB1.out.setCell (Nat.le_succ _) _).setCell (Nat.le_succ _) _).setCell (Nat.le_succ _) _).setCell (Nat.le_succ _) _
    · have hd : decide (n < 0) = false := decide_eq_false (by omega)
      rw [decide_eq_true hpos] at HE
      have x0 := HX1.out.c0
      have x1 := HX1.out.c1
      have x2 := HX1.out.c2
      have x3 := HX1.out.c3
      go_wp2_with fail
      refine (hf _).mono ?_
      rintro e w2 ⟨rfl, hb2⟩
      have HX2 := Lib.hid (HX1.out.below hb2)
      have HY2 := Lib.hid (HY1.out.below hb2)
      have HB2 := Lib.hid (below_two HB1.out hb2)
      clear hb2 HX1 HY1 HB1 hf x0 x1 x2 x3
      have x0 := HX2.out.c0
      have x1 := HX2.out.c1
      have x2 := HX2.out.c2
      have x3 := HX2.out.c3
      have g3 := HX2.out.fr 3
      have y0 := HY2.out.c0
      have y1 := HY2.out.c1
      have y2 := HY2.out.c2
      have y3 := HY2.out.c3
      have f0 := HY2.out.fr 0
      have f1 := HY2.out.fr 1
      have f2 := HY2.out.fr 2
      have f3 := HY2.out.fr 3
      replace HE : Hid ((Rg.mk F S H T).takeE n = if S - (T - H) < n ∨ 1099511627776 < T + n then 5 else 0) := HE
      go_wp2_with fail
      · refine bodyPost_ret (v := twoV Rg.zero 5) (by rw [results_cell_tmp rfl]; go_simp; exact ⟨rfl, rfl, rfl, rfl⟩) rfl ⟨?_, (((HB2.out.setCell (Nat.le_succ _) _).setCell (Nat.le_succ _) _).setCell (Nat.le_succ _) _).setCell (Nat.le_succ _) _⟩
        have hE : (Rg.mk F S H T).takeE n = 5 := by rw [HE.out, if_pos (by omega)]
        have hV : (Rg.mk F S H T).take n = Rg.zero := by rw [HV.out, hE]; rfl
        rw [hV, hE]
      · refine bodyPost_ret (v := twoV ⟨F, S, H, T + n⟩ 0) (by rw [results_cell_tmp rfl]; go_simp) rfl ⟨?_, ((((HB2.out.setCell (Nat.le_refl _) _).setCell (Nat.le_succ _) _).setCell (Nat.le_succ _) _).setCell (Nat.le_succ _) _).setCell (Nat.le_succ _) _⟩
        have hE : (Rg.mk F S H T).takeE n = 0 := by rw [HE.out, if_neg (by omega)]
        have hV : (Rg.mk F S H T).take n = ⟨F, S, H, T + n⟩ := by rw [HV.out, if_pos hE]
        rw [hV, hE]
      · refine bodyPost_ret (v := twoV Rg.zero 5) (by rw [results_cell_tmp rfl]; go_simp; exact ⟨rfl, rfl, rfl, rfl⟩) rfl ⟨?_, (((HB2.out.setCell (Nat.le_succ _) _).setCell (Nat.le_succ _) _).setCell (Nat.le_succ _) _).setCell (Nat.le_succ _) _⟩
        have hE : (Rg.mk F S H T).takeE n = 5 := by rw [HE.out, if_pos (by omega)]
        have hV : (Rg.mk F S H T).take n = Rg.zero := by rw [HV.out, hE]; rfl
        rw [hV, hE]

set_option maxHeartbeats 1000000 in
theorem drop_any (r : Rg) (to_ : Int) : Tells 54 #[rgV r, .int .i64 to_] (twoV (r.drop to_) (r.dropE to_)) := by
  intro w
  have hs := sane_any r
  have HX := Lib.hid (Bx.new w r 74)
  have HX2 := Lib.hid (HX.out.alloc (.cells (rgC Rg.zero) 74))
  have HY2 := Lib.hid (Bx.new (w.alloc (.cells (rgC r) 74)) Rg.zero 74)
  have HB := Lib.hid (below_two (below_new w (.cells (rgC r) 74)) (below_new _ (.cells (rgC Rg.zero) 74)))
  rw [show (w.alloc (.cells (rgC r) 74)).heap.size = w.heap.size + 1 from by simp] at HY2
  clear HX
  obtain ⟨F, S, H, T⟩ := r
  go_enter Tryz.func54, Tryz.ntmps54
  go_wp2_with fail
  refine (hs _).mono ?_
  rintro e w1 ⟨rfl, hb1⟩
  have HX1 := Lib.hid (HX2.out.below hb1)
  have HY1 := Lib.hid (HY2.out.below hb1)
  have HB1 := Lib.hid (below_two HB.out hb1)
  clear hb1 HX2 HY2 HB hs
  have HE : Hid ((Rg.mk F S H T).dropE to_ = if ((Rg.mk F S H T).sane && (decide (H ≤ to_) && decide (to_ ≤ T))) = true then 0 else 1) := rfl
  have HV : Hid ((Rg.mk F S H T).drop to_ = if (Rg.mk F S H T).dropE to_ = 0 then ⟨F, S, to_, T⟩ else Rg.zero) := rfl
  have y0 := HY1.out.c0
  have y1 := HY1.out.c1
  have y2 := HY1.out.c2
  have y3 := HY1.out.c3
  have f0 := HY1.out.fr 0
  have f1 := HY1.out.fr 1
  have f2 := HY1.out.fr 2
  have f3 := HY1.out.fr 3
  have x0 := HX1.out.c0
  have x1 := HX1.out.c1
  have x2 := HX1.out.c2
  have x3 := HX1.out.c3
  have g2 := HX1.out.fr 2
  generalize (Rg.mk F S H T).sane = b at *
  cases b with
  | false =>
    go_wp2_with fail
    refine bodyPost_ret (v := twoV Rg.zero 1) (by rw [results_cell_tmp rfl]; go_simp; exact ⟨rfl, rfl, rfl, rfl⟩) rfl ⟨?_, (((HB1.out.setCell (Nat.le_succ _) _).setCell (Nat.le_succ _) _).setCell (Nat.le_succ _) _).setCell (Nat.le_succ _) _⟩
    have hE : (Rg.mk F S H T).dropE to_ = 1 := by rw [HE.out]; rfl
    rw [HV.out, hE]; rfl
  | true =>
    go_wp2_with fail
    refine (rising3 H to_ T _ _ (by simp)).mono ?_
    rintro e w2 ⟨rfl, hb2⟩
    have HX2 := Lib.hid (HX1.out.below hb2)
    have HY2 := Lib.hid (HY1.out.below hb2)
    have HB2 := Lib.hid (below_two HB1.out hb2)
    clear hb2 HX1 HY1 HB1 x0 x1 x2 x3 y0 y1 y2 y3 f0 f1 f2 f3 g2
    have y0 := HY2.out.c0
    have y1 := HY2.out.c1
    have y2 := HY2.out.c2
    have y3 := HY2.out.c3
    have f0 := HY2.out.fr 0
    have f1 := HY2.out.fr 1
    have f2 := HY2.out.fr 2
    have f3 := HY2.out.fr 3
    have x0 := HX2.out.c0
    have x1 := HX2.out.c1
    have x2 := HX2.out.c2
    have x3 := HX2.out.c3
    have g2 := HX2.out.fr 2
    rw [rises3]
    generalize hbb : (decide (H ≤ to_) && decide (to_ ≤ T)) = b at *
    clear hbb
    cases b with
    | false =>
      go_wp2_with fail
      refine bodyPost_ret (v := twoV Rg.zero 1) (by rw [results_cell_tmp rfl]; go_simp; exact ⟨rfl, rfl, rfl, rfl⟩) rfl ⟨?_, (((HB2.out.setCell (Nat.le_succ _) _).setCell (Nat.le_succ _) _).setCell (Nat.le_succ _) _).setCell (Nat.le_succ _) _⟩
      have hE : (Rg.mk F S H T).dropE to_ = 1 := by rw [HE.out]; rfl
      rw [HV.out, hE]; rfl
    | true =>
      go_wp2_with fail
      refine bodyPost_ret (v := twoV ⟨F, S, to_, T⟩ 0) (by rw [results_cell_tmp rfl]; go_simp) rfl ⟨?_, ((((HB2.out.setCell (Nat.le_refl _) _).setCell (Nat.le_succ _) _).setCell (Nat.le_succ _) _).setCell (Nat.le_succ _) _).setCell (Nat.le_succ _) _⟩
      have hE : (Rg.mk F S H T).dropE to_ = 0 := by rw [HE.out]; rfl
      rw [HV.out, if_pos hE, hE]

end Go.Proofs.YtdjfahnnfhediaaGreat
