/-
  Numbers that rise: what cmp.Less, slices.IsSorted and ring's rising answer of ints that lie in a row, in every world.
-/
import Derived.Test.YtkdppepeenokbaaChecked
import Derived.WalkKit
import Derived.WalkLawsBesides
import Derived.Below
import Derived.Lib.Hide
import Derived.Outline
import Derived.RegionTactic
import Derived.Deep.QuietTactic
import Derived.BigQuiet
import Derived.Deep.LoopGhost
import Derived.LoopTactic
import Derived.Deep.Draws
namespace Go.Proofs.Ytkdppepeenokbaa
open Go.RowKit

/-- a call that answers one thing, and turns nothing that was there -/
def Says (f : FuncId) (args : Array Value) (v : Value) : Prop := ∀ w : World, Calls Try.prog f args w fun e w' => e = .returned v ∧ Below w.heap.size w w'

theorem isnan_any (x : Int) (w : World) : Calls Try.prog 34 #[.int .i64 x] w fun e w' => e = .returned (.bool false) ∧ w' = w := by
  have h : (x != x) = false := by simp
  go_enter Try.func34, Try.ntmps34
  go_wp2_with fail
  go_ret
  exact ⟨rfl, rfl⟩

theorem less_any (x y : Int) (w : World) : Calls Try.prog 33 #[.int .i64 x, .int .i64 y] w fun e w' => e = .returned (.bool (decide (x < y))) ∧ w' = w := by
  go_enter Try.func33, Try.ntmps33
  go_wp2_with (go_at_call 34; refine (isnan_any x w).mono ?_; rintro e w' ⟨rfl, hw⟩; replace hw := hw.symm; subst hw)
  go_ret
  exact ⟨rfl, rfl⟩

/-- does each number rise on the one ahead of it, or stay? -/
def rises : List Int → Bool
  | x :: y :: l => decide (x ≤ y) && rises (y :: l)
  | _ => true

theorem rises_tail {x : Int} {l : List Int} (h : rises (x :: l) = true) : rises l = true := by
  rcases l with _ | ⟨y, l⟩
  · rfl
  · simp only [rises, Bool.and_eq_true] at h
    exact h.2
theorem rises_drop {l : List Int} (h : rises l = true) : ∀ k, rises (l.drop k) = true
  | 0 => by simpa using h
  | k + 1 => by
    have := rises_drop h k
    rw [← List.drop_drop]
    generalize l.drop k = m at this
    rcases m with _ | ⟨x, m⟩
    · rfl
    · exact rises_tail this
theorem rises_step {l : List Int} {k : Nat} {x y : Int} (hx : l[k]? = some x) (hy : l[k + 1]? = some y) : rises (l.drop k) = (decide (x ≤ y) && rises (l.drop (k + 1))) := by
  have h1 : k < l.length := (List.getElem?_eq_some_iff.1 hx).1
  have h2 : k + 1 < l.length := (List.getElem?_eq_some_iff.1 hy).1
  have e1 : l[k] = x := (List.getElem?_eq_some_iff.1 hx).2
  have e2 : l[k + 1] = y := (List.getElem?_eq_some_iff.1 hy).2
  rw [List.drop_eq_getElem_cons h1, List.drop_eq_getElem_cons h2, e1, e2]
  rfl
theorem rises_last {l : List Int} {k : Nat} (h : l.length = k + 1) : rises (l.drop k) = true := by
  have h1 : k < l.length := by omega
  rw [List.drop_eq_getElem_cons h1, List.drop_eq_nil_of_le (by omega)]
  rfl

/-- ints lie in a row, in a block below B -/
def Row (w : World) (B : Nat) (b o : Nat) (zs : List Int) : Prop := b < B ∧ ∀ j x, zs[j]? = some x → w.cell? ⟨b, o + j, none⟩ = some (.int .i64 x)
theorem Row.below {w w' : World} {B B' b o : Nat} {zs : List Int} (h : Row w B b o zs) (hb : Below B' w w') (hB : B ≤ B') : Row w' B b o zs :=
  ⟨h.1, fun j x hx => (hb.cell (Nat.lt_of_lt_of_le h.1 hB)).trans (h.2 j x hx)⟩

set_option maxHeartbeats 1000000 in
theorem sorted_any (b o c n : Nat) (zs : List Int) (HL : Hid (zs.length = n + 1)) (hn : n ≤ 1000) (w : World) (hr : Row w w.heap.size b o zs) :
    Calls Try.prog 32 #[.slice (some ⟨b, o, none⟩) (n + 1) c] w fun e w' => e = .returned (.bool (rises zs)) ∧ Below w.heap.size w w' := by
  have HR := Lib.hid hr
  clear hr
  go_enter Try.func32, Try.ntmps32
  go_wp2_with fail
  go_loopw [3] (fun u wr => ∃ k : Nat, u = .int .i64 (k : Int) ∧ k ≤ n ∧ Hid (rises (zs.drop k) = true) ∧ Hid (Below w.heap.size w wr)) (fun u _ => (intOf u).toNat)
  case atStart => exact ⟨n, by simp, Nat.le_refl _, rises_last HL.out, Below.refl _ _⟩
  case round =>
    obtain ⟨k, rfl, hk, HS, HB⟩ := hrel
    rcases k with _ | k
    · have h0 : decide (((0 : Nat) : Int) > 0) = false := by decide
      go_wp2_with fail
      go_ret
      have hs := HS.out
      rw [List.drop_zero] at hs
      exact ⟨by rw [hs]; rfl, HB.out⟩
    · have hx : k < zs.length := by have := HL.out; omega
      have hy : k + 1 < zs.length := by have := HL.out; omega
      have HST := Lib.hid (rises_step (List.getElem?_eq_getElem hx) (List.getElem?_eq_getElem hy))
      have kx := (HB.out.cell (p := ⟨b, o + k, none⟩) HR.out.1).trans (HR.out.2 k _ (List.getElem?_eq_getElem hx))
      have ky := (HB.out.cell (p := ⟨b, o + (k + 1), none⟩) HR.out.1).trans (HR.out.2 (k + 1) _ (List.getElem?_eq_getElem hy))
      generalize zs[k] = x at kx HST
      generalize zs[k + 1] = y at ky HST
      clear hx hy
      have h0 : decide (((k + 1 : Nat) : Int) > 0) = true := decide_eq_true (by omega)
      have hw1 : IntKind.i64.wrap (((k + 1 : Nat) : Int) - 1) = (k : Int) := by rw [IntKind.wrap_i64]; omega
      have hi1 : ((k + 1 : Nat) : Int) < ((n + 1 : Nat) : Int) := by omega
      have hi2 : ((k : Nat) : Int) < ((n + 1 : Nat) : Int) := by omega
      go_wp2_with fail
      go_quiet ((go_at_call 33; refine Calls.quiet_of_same (less_any _ _ _)))
      rcases Int.lt_or_le y x with hlt | hge
      · have hd : decide (y < x) = true := decide_eq_true hlt
        have hf : rises zs = false := by
          rw [Bool.eq_false_iff]
          intro h
          have h2 := rises_drop h k
          rw [HST.out, Bool.and_eq_true, decide_eq_true_eq] at h2
          omega
        go_wp2_with fail
        go_ret
        exact ⟨by rw [hf]; rfl, below_drewN HB.out _⟩
      · have hd : decide (y < x) = false := decide_eq_false (by omega)
        have hr : rises (zs.drop k) = true := by rw [HST.out, HS.out, decide_eq_true hge]; rfl
        have HS2 := Lib.hid hr
        clear hr
        go_wp2_with fail
        refine ⟨⟨k, rfl, by omega, HS2, below_drewN HB.out _⟩, by simp [intOf]⟩

/-- 'rising': the numbers lie in a row -/
theorem rising_any (b o c n : Nat) (zs : List Int) (HL : Hid (zs.length = n + 1)) (hn : n ≤ 1000) (w : World) (hr : Row w w.heap.size b o zs) :
    Calls Try.prog 29 #[.slice (some ⟨b, o, none⟩) (n + 1) c] w fun e w' => e = .returned (.bool (rises zs)) ∧ Below w.heap.size w w' := by
  have h := sorted_any b o c n zs HL hn w hr
  clear hr
  go_enter Try.func29, Try.ntmps29
  go_wp2_with fail
  refine h.mono ?_
  rintro e w' ⟨rfl, hb⟩
  go_wp2_with fail
  go_ret
  exact ⟨rfl, hb⟩

theorem row_new (w : World) (zs : List Int) (fr : Nat × Nat) : Row (w.alloc (.cells (zs.map (Value.int .i64)).toArray 3 fr)) (w.heap.size + 1) w.heap.size 0 zs := by
  refine ⟨by omega, fun j x hx => ?_⟩
  rw [Nat.zero_add, cell_of_row _ _ _ _ _ _ (heap_alloc_new w _)]
  simp [hx]

/-- 'rising(x, y, z)': the three lie in a block that is made for them -/
theorem rising3 (x y z : Int) (w : World) (g : Nat) (hg : w.heap.size = g) : Calls Try.prog 29 #[.slice (some ⟨g, 0, none⟩) 3 3] (w.alloc (.cells #[.int .i64 x, .int .i64 y, .int .i64 z] 3)) fun e w' =>
    e = .returned (.bool (rises [x, y, z])) ∧ Below w.heap.size w w' := by
  subst hg
  refine (rising_any w.heap.size 0 3 2 [x, y, z] (Lib.hid rfl) (by omega) _ ?_).mono ?_
  · have := row_new w [x, y, z] (0, 0)
    exact ⟨by simp, this.2⟩
  · rintro e w' ⟨rfl, hb⟩
    exact ⟨rfl, ((Below.refl _ _).alloc (Nat.le_refl _) _).trans (hb.mono (by simp))⟩
theorem rising4 (x y z u : Int) (w : World) (g : Nat) (hg : w.heap.size = g) : Calls Try.prog 29 #[.slice (some ⟨g, 0, none⟩) 4 4] (w.alloc (.cells #[.int .i64 x, .int .i64 y, .int .i64 z, .int .i64 u] 3)) fun e w' =>
    e = .returned (.bool (rises [x, y, z, u])) ∧ Below w.heap.size w w' := by
  subst hg
  refine (rising_any w.heap.size 0 4 3 [x, y, z, u] (Lib.hid rfl) (by omega) _ ?_).mono ?_
  · have := row_new w [x, y, z, u] (0, 0)
    exact ⟨by simp, this.2⟩
  · rintro e w' ⟨rfl, hb⟩
    exact ⟨rfl, ((Below.refl _ _).alloc (Nat.le_refl _) _).trans (hb.mono (by simp))⟩

end Go.Proofs.Ytkdppepeenokbaa
