/-
  Sealed bytes opened, by the program and by the document.
-/
import Derived.Test.YtofekbipbndbbaaSeal
import Derived.Deep.QuietTactic
import Derived.BigQuiet
import Derived.WalkSmall
import Derived.Lib.SliceRun
namespace Go.Proofs.Ytofekbipbndbbaa
open Go.RowKit Crc Wm

/-- a copy of bytes, in new memory, where there are any or an address -/
theorem clone_any (A : Option Addr) (c L : Nat) (l : List UInt8) (HL : Hid (l.length = L)) (w : World) (hr : Rd w w.heap.size (A) l) (hl : L ≤ 1073741824) :
    Calls Try.prog 46 #[.slice A L c] w (Made w L l) := by
  obtain ⟨i0, hi, hz0, hz1, hz2⟩ := info_parts byte_facts
  have hown0 : (w.alloc (.cells #[] 5)).ownsRow w.heap.size 5 1 (.slice (some ⟨w.heap.size, 0, none⟩) 0 0) 0 [] := World.ownsRow_lit w #[] 0 (Nat.le_refl _) (by simp [maxLen]) rfl
  have hb0 : Below w.heap.size w (w.alloc (.cells #[] 5)) := (Below.refl _ _).alloc (Nat.le_refl _) _
  rcases A with _ | ⟨b, o, sp⟩
  · have hnil : l = [] := by
      rcases hr with h | ⟨b, o, e, _⟩
      · exact h
      · cases e
    subst hnil
    obtain rfl : L = 0 := by have := HL.out; simpa using this.symm
    clear hown0 hb0 hi hz0 hz1 hz2
    have hq : (binOp .eql 22 (.slice none 0 c) (.slice none 0 0)).run Try.prog w = .ok (.bool true) w := Lib.run_eql_slice_nil w _ _ _ _ _ _ _ Try.underlying22
    go_enter Try.func46, Try.ntmps46
    go_wp2_with fail
    go_ret
    exact ⟨none, 0, rfl, ⟨rfl, .inl ⟨rfl, rfl⟩⟩, Below.refl _ _⟩
  · have hq : (binOp .eql 22 (.slice (some ⟨b, o, sp⟩) L c) (.slice none 0 0)).run Try.prog w = .ok (.bool false) w := Lib.run_eql_slice_nil w _ _ _ _ _ _ _ Try.underlying22
    go_enter Try.func46, Try.ntmps46
    go_wp2_with (at_builtin; refine wpList_append_rd rfl (.tmp 5) (.tmp 6) _ rfl w.heap.size i0 Try.underlying22 hi hz0 hz1 hz2 (.slice (some ⟨w.heap.size, 0, none⟩) 0 0) 0 [] rfl hown0 w.heap.size _ l L c rfl (hr.below hb0) HL.out (by omega) hb0.size ?_; intro v1 w1 hown1 hg1 hat1; obtain ⟨A1, c1, rfl, ho1, hb1⟩ := append_step' (l := []) hown0 hb0 hb0.size hown1 hg1; clear hown1 hg1 hat1; simp only [Nat.zero_add, List.nil_append] at ho1)
    go_ret
    exact ⟨A1, c1, rfl, ho1, hb1⟩

/-- is what has been sealed what it was sealed as? -/
def whole (l : List UInt8) (n : Nat) : Bool := l.drop n == sum4 (l.take n)

theorem rd_drewN {w : World} {B : Nat} {A : Option Addr} {l : List UInt8} (h : Rd w B A l) (n : Nat) : Rd (w.drewN n) B A l := h.below (below_drewN (Below.refl _ _) n)

/-- what Open answers -/
def Opened (w : World) (n : Nat) (l : List UInt8) (e : Ending) (w' : World) : Prop :=
  ∃ A cap, ∃ E : Int, e = .returned (.tuple #[.slice A (if whole l n = true then n else 0) cap, .int .i64 E]) ∧ E = (if whole l n = true then 0 else 4) ∧
    Owns w' w.heap.size A cap (if whole l n = true then n else 0) (if whole l n = true then l.take n else []) ∧ Below w.heap.size w w'

theorem opened_no {w w' : World} {n : Nat} {l : List UInt8} (h : whole l n = false) (hb : Below w.heap.size w w') : Opened w n l (.returned (.tuple #[.slice none 0 0, .int .i64 4])) w' := by
  refine ⟨none, 0, 4, by simp [h], by simp [h], ?_, hb⟩
  simp only [h]
  exact ⟨rfl, .inl ⟨rfl, rfl⟩⟩
theorem opened_yes {w w' : World} {n : Nat} {l : List UInt8} {A : Option Addr} {cap : Nat} (h : whole l n = true) (ho : Owns w' w.heap.size A cap n (l.take n)) (hb : Below w.heap.size w w') : Opened w n l (.returned (.tuple #[.slice A n cap, .int .i64 0])) w' := by
  refine ⟨A, cap, 0, by simp [h], by simp [h], ?_, hb⟩
  simp only [h]
  exact ho

end Go.Proofs.Ytofekbipbndbbaa
