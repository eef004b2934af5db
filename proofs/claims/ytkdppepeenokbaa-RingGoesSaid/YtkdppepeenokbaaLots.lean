/-
  Lots: pairs of numbers one behind the other in a row of new memory; the program's 'lots' leaves out those of no sector.
-/
import Derived.Test.YtkdppepeenokbaaNum
import Derived.Maps.AppendAt
import Derived.Laws.OwnMore
import Derived.Laws.Rows
namespace Go.Proofs.Ytkdppepeenokbaa
open Go.RowKit

/-- a pair as Go has it -/
abbrev pairV (p : Int × Int) : Value := .agg #[.int .i64 p.1, .int .i64 p.2]
def pairC : List (Int × Int) → List Value
  | [] => []
  | p :: l => .int .i64 p.1 :: .int .i64 p.2 :: pairC l
theorem pairC_append : ∀ a b : List (Int × Int), pairC (a ++ b) = pairC a ++ pairC b
  | [], _ => rfl
  | p :: a, b => by simp [pairC, pairC_append a b]
theorem length_pairC : ∀ l : List (Int × Int), (pairC l).length = l.length * 2
  | [] => rfl
  | p :: l => by simp [pairC, length_pairC l]; omega
theorem pairC_get : ∀ (l : List (Int × Int)) (j : Nat) (p : Int × Int), l[j]? = some p → (pairC l)[j * 2]? = some (.int .i64 p.1) ∧ (pairC l)[j * 2 + 1]? = some (.int .i64 p.2)
  | [], j, p, h => by simp at h
  | q :: l, 0, p, h => by simp at h; subst h; exact ⟨rfl, rfl⟩
  | q :: l, j + 1, p, h => by
    have := pairC_get l j p (by simpa using h)
    rw [show (j + 1) * 2 = j * 2 + 1 + 1 from by omega]
    exact this

/-- the pairs l lie from the address on, in a block below B; of none nothing is asked -/
def Lt (w : World) (B : Nat) (A : Option Addr) (l : List (Int × Int)) : Prop :=
  l = [] ∨ ∃ b, A = some ⟨b, 0, none⟩ ∧ b < B ∧ ∀ j p, l[j]? = some p → w.cell? ⟨b, j * 2, none⟩ = some (.int .i64 p.1) ∧ w.cell? ⟨b, j * 2 + 1, none⟩ = some (.int .i64 p.2)
section
variable {w w' : World} {B B' : Nat} {A : Option Addr} {l : List (Int × Int)}
theorem Lt.up (h : Lt w w.heap.size A l) (hb : Below w.heap.size w w') : Lt w' w'.heap.size A l := by
  rcases h with h | ⟨b, e, hb', hc⟩
  · exact .inl h
  · exact .inr ⟨b, e, Nat.lt_of_lt_of_le hb' hb.size, fun j p hp => ⟨(hb.cell hb').trans (hc j p hp).1, (hb.cell hb').trans (hc j p hp).2⟩⟩
end

/-- the call answers the pairs in memory -/
def Lots (w : World) (l : List (Int × Int)) (e : Ending) (w' : World) : Prop :=
  ∃ A n c, e = .returned (.slice A n c) ∧ n = l.length ∧ Lt w' w'.heap.size A l ∧ Below w.heap.size w w'

/-- pairs of the call's own -/
def OwnP (w : World) (base : Nat) (v : Value) (l : List (Int × Int)) : Prop := w.ownsRow base 47 2 v l.length (pairC l)
section
variable {w w' : World} {base : Nat} {v : Value} {l : List (Int × Int)}
theorem OwnP.form (h : OwnP w base v l) : ∃ A c, v = .slice A l.length c ∧ Lt w w.heap.size A l := by
  rcases h.2 with ⟨rfl, hn⟩ | ⟨g, cap, cur, rfl, _⟩
  · have : l = [] := by
      cases l with
      | nil => rfl
      | cons p l => cases hn
    subst this
    exact ⟨none, 0, rfl, .inl rfl⟩
  · refine ⟨_, cap, rfl, .inr ⟨g, rfl, (h.lt g rfl).2, fun j p hp => ?_⟩⟩
    have hj : j < l.length := (List.getElem?_eq_some_iff.1 hp).1
    have := pairC_get l j p hp
    exact ⟨(h.cellAt (j * 2) (by omega)).trans this.1, (h.cellAt (j * 2 + 1) (by omega)).trans this.2⟩
theorem OwnP.alloc (h : OwnP w base v l) (o : Obj) : OwnP (w.alloc o) base v l := World.ownsRow.alloc h o
end
theorem Lots.of {w w' : World} {v : Value} {l : List (Int × Int)} (h : OwnP w' w.heap.size v l) (hb : Below w.heap.size w w') : Lots w l (.returned v) w' := by
  obtain ⟨A, c, rfl, hl⟩ := h.form
  exact ⟨A, _, c, rfl, rfl, hl, hb⟩

theorem pair_facts : (Try.prog.info? 47).map (fun i => (i.zero, i.size, i.bytes)) = some (some (.agg #[.int .i64 0, .int .i64 0]), 2, 16) := by kernel_rfl

/-- those that have a sector -/
def some1 (l : List (Int × Int)) : List (Int × Int) := l.filter fun p => decide (0 < p.2)
theorem some1_step {l : List (Int × Int)} {k : Nat} {p : Int × Int} (h : l[k]? = some p) : some1 (l.take (k + 1)) = if 0 < p.2 then some1 (l.take k) ++ [p] else some1 (l.take k) := by
  unfold some1
  rw [List.take_add_one, h, List.filter_append]
  by_cases hp : 0 < p.2 <;> simp [hp]
theorem some1_len (l : List (Int × Int)) (k : Nat) : (some1 (l.take k)).length ≤ l.length :=
  Nat.le_trans (List.length_filter_le _ _) (List.length_take_le' k l)

/-- a pair lies in a block of two cells -/
theorem pair_cells (w : World) (p : Int × Int) (fr : Nat × Nat) (t : TypeId) : (w.alloc (.cells #[.int .i64 p.1, .int .i64 p.2] t fr)).cell? ⟨w.heap.size, 0, none⟩ = some (.int .i64 p.1) ∧ (w.alloc (.cells #[.int .i64 p.1, .int .i64 p.2] t fr)).cell? ⟨w.heap.size, 1, none⟩ = some (.int .i64 p.2) := by
  constructor <;> (rw [cell_of_row _ _ _ _ _ _ (heap_alloc_new w _)]; rfl)

theorem two_new (w : World) (x y : Value) (t : TypeId) (g : Nat) (hg : w.heap.size = g) : ∀ j u, [x, y][j]? = some u → (w.alloc (.cells #[x, y] t)).cell? ((⟨g, 0, none⟩ : Addr).add j) = some u := by
  subst hg
  intro j u hu
  match j, hu with
  | 0, hu =>
    show (w.alloc _).cell? ⟨w.heap.size, 0, none⟩ = _
    rw [cell_of_row _ _ _ _ _ _ (heap_alloc_new w _)]
    exact hu
  | 1, hu =>
    show (w.alloc _).cell? ⟨w.heap.size, 0 + 1, none⟩ = _
    rw [cell_of_row _ _ _ _ _ _ (heap_alloc_new w _)]
    exact hu
  | j + 2, hu => simp at hu

/-- an append of one pair onto the call's own -/
theorem OwnP.step {w wr w2 : World} {B : Nat} {v v2 : Value} {l : List (Int × Int)} {p : Int × Int} {o1 o2 : Obj} (ho : OwnP wr B v l) (hb : Below B w wr) (hB : B ≤ wr.heap.size)
    (hown : w2.ownsRow B 47 2 v2 (l.length + 1) (pairC l ++ [.int .i64 p.1, .int .i64 p.2])) (hg : ((wr.alloc o1).alloc o2).grownBy w2 v.ownBlock) : OwnP w2 B v2 (l ++ [p]) ∧ Below B w w2 := by
  refine ⟨?_, ((hb.alloc hB o1).alloc (by simp; omega) o2).grown hg (by simp; omega) fun k hk => (ho.lt k hk).1⟩
  unfold OwnP
  rw [List.length_append, pairC_append]
  exact hown

set_option maxHeartbeats 1000000 in
theorem lots_any (b c n : Nat) (l : List (Int × Int)) (HL : Hid (l.length = n)) (hn : n ≤ 1000) (hn0 : 0 < n) (w : World) (hr : Lt w w.heap.size (some ⟨b, 0, none⟩) l) :
    Calls Try.prog 31 #[.slice (some ⟨b, 0, none⟩) n c] w (Lots w (some1 l)) := by
  obtain ⟨i0, hi, hz0, hz1, hz2⟩ := info_parts pair_facts
  have HR := Lib.hid hr
  clear hr
  go_enter Try.func31, Try.ntmps31
  go_wp2_with fail
  go_loopw [3, 8] (fun v u wr => ∃ k : Nat, u = .int .i64 (k : Int) ∧ k ≤ n ∧ Hid (OwnP wr w.heap.size v (some1 (l.take k))) ∧ Hid (Below w.heap.size w wr)) (fun _ u _ => n - (intOf u).toNat)
  case atStart => exact ⟨0, rfl, Nat.zero_le _, World.ownsRow_nil _ _ _ _, Below.refl _ _⟩
  case round =>
    obtain ⟨k, rfl, hk, HO, HB⟩ := hrel
    rcases Nat.lt_or_ge k n with hlt | hge
    · have hkl : k < l.length := by have := HL.out; omega
      have HS := Lib.hid (some1_step (List.getElem?_eq_getElem hkl))
      rcases HR.out with h0 | ⟨b', e, hb', hc⟩
      · have := HL.out; rw [h0] at this; simp at this; omega
      injection e with e
      injection e with e
      subst e
      obtain ⟨k0, k1⟩ := hc k _ (List.getElem?_eq_getElem hkl)
      replace k0 := (HB.out.cell (p := ⟨b, k * 2, none⟩) hb').trans k0
      replace k1 := (HB.out.cell (p := ⟨b, k * 2 + 1, none⟩) hb').trans k1
      generalize l[k] = p at k0 k1 HS
      obtain ⟨x, y⟩ := p
      simp only at k0 k1
      clear hc hkl
      have hdj : decide ((k : Int) < (n : Int)) = true := decide_eq_true (by omega)
      have hdj2 : decide (k < n) = true := decide_eq_true (by omega)
      have hbl : w.heap.size ≤ wr.heap.size := HB.out.size
      have hml : (some1 (l.take k)).length ≤ 1000 := by have := HL.out; have := some1_len l k; omega
      obtain ⟨m, HM⟩ : ∃ m, Hid (m = (some1 (l.take k)).length) := ⟨_, Lib.hid rfl⟩
      rw [← HM.out] at hml
      have hown := HO.out
      unfold OwnP at hown
      rw [← HM.out] at hown
      by_cases hy : 0 < y
      · have hd : decide (0 < y) = true := decide_eq_true hy
        rw [if_pos hy] at HS
        clear hy
        go_wp2_with (at_builtin; refine wpList_append_own _ rfl (.tmp 15) (.tmp 17) 42 rfl w.heap.size 47 i0 (.agg #[.int .i64 0, .int .i64 0]) 2 16 Try.underlying42 hi hz0 hz1 hz2 rfl (by decide) _ m _ rfl (World.ownsRow.alloc (World.ownsRow.alloc hown _) _) ⟨wr.heap.size + 1, 0, none⟩ 1 1 [.int .i64 x, .int .i64 y] rfl rfl (two_new _ _ _ _ _ (by simp)) (by intro u hu; simp at hu; rcases hu with rfl | rfl <;> rfl) (by unfold maxLen; omega) (by omega) (by simp; omega) ?_; intro v2 w2 hown2 hg2 hnil2)
        obtain ⟨h1, h2⟩ := OwnP.step (p := (x, y)) HO.out HB.out hbl (by rw [← HM.out]; exact hown2) hg2
        refine ⟨⟨k + 1, by go_num, by omega, ?_, h2⟩, by simp [intOf]; omega⟩
        show OwnP _ _ _ _
        rw [HS.out]
        exact h1
      · have hd : decide (0 < y) = false := decide_eq_false hy
        rw [if_neg hy] at HS
        clear hy
        go_wp2_with fail
        refine ⟨⟨k + 1, by go_num, by omega, ?_, HB.out.alloc hbl _⟩, by simp [intOf]; omega⟩
        show OwnP _ _ _ _
        rw [HS.out]
        exact HO.out.alloc _
    · obtain rfl : k = n := by omega
      have hdj : decide ((k : Int) < (k : Int)) = false := decide_eq_false (by omega)
      have hdj2 : decide (k < k) = false := decide_eq_false (by omega)
      go_wp2_with fail
      go_ret
      have ho := HO.out
      rw [List.take_of_length_le (by have := HL.out; omega)] at ho
      exact Lots.of ho HB.out

end Go.Proofs.Ytkdppepeenokbaa
