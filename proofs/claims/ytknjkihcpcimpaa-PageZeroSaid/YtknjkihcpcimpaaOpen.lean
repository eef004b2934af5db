/-
  Sealed bytes opened, by the program and by the document.
-/
import Derived.Test.YtknjkihcpcimpaaSeal
import Derived.Deep.QuietTactic
import Derived.BigQuiet
import Derived.WalkSmall
import Derived.Lib.SliceRun
namespace Go.Proofs.Ytknjkihcpcimpaa
set_option maxRecDepth 100000
open Go.RowKit Crc Wm

/-- a copy of bytes, in new memory, where there are any or an address -/
theorem clone_any (A : Option Addr) (c L : Nat) (l : List UInt8) (HL : Hid (l.length = L)) (w : World) (hr : Rd w w.heap.size (A) l) (hl : L ≤ 1073741824) :
    Calls Try.prog 33 #[.slice A L c] w (Made w L l) := by
  obtain ⟨i0, hi, hz0, hz1, hz2⟩ := info_parts byte_facts
  have hown0 : (w.alloc (.cells #[] 5)).ownsRow w.heap.size 5 1 (.slice (some ⟨w.heap.size, 0, none⟩) 0 0) 0 [] := World.ownsRow_lit w #[] 0 (Nat.le_refl _) (by simp [maxLen]) rfl
  have hb0 : Below w.heap.size w (w.alloc (.cells #[] 5)) := (Below.refl _ _).alloc (Nat.le_refl _) _
  rcases A with _ | ⟨b, o, sp⟩
  · have hnil : l = [] := by
      rcases hr with h | ⟨b, o, e, _⟩
      · exact h
      · cases e
    subst hnil
    obtain rfl : L = 0 := by have := HL.out; simpa using this.symm
    clear hown0 hb0 hi hz0 hz1 hz2
    have hq : (binOp .eql 22 (.slice none 0 c) (.slice none 0 0)).run Try.prog w = .ok (.bool true) w := Lib.run_eql_slice_nil w _ _ _ _ _ _ _ Try.underlying22
    go_enter Try.func33, Try.ntmps33
    go_wp2_with fail
    go_ret
    exact ⟨none, 0, rfl, ⟨rfl, .inl ⟨rfl, rfl⟩⟩, Below.refl _ _⟩
  · have hq : (binOp .eql 22 (.slice (some ⟨b, o, sp⟩) L c) (.slice none 0 0)).run Try.prog w = .ok (.bool false) w := Lib.run_eql_slice_nil w _ _ _ _ _ _ _ Try.underlying22
    go_enter Try.func33, Try.ntmps33
    go_wp2_with (at_builtin; refine wpList_append_rd rfl (.tmp 5) (.tmp 6) _ rfl w.heap.size i0 Try.underlying22 hi hz0 hz1 hz2 (.slice (some ⟨w.heap.size, 0, none⟩) 0 0) 0 [] rfl hown0 w.heap.size _ l L c rfl (hr.below hb0) HL.out (by omega) hb0.size ?_; intro v1 w1 hown1 hg1 hat1; obtain ⟨A1, c1, rfl, ho1, hb1⟩ := append_step' (l := []) hown0 hb0 hb0.size hown1 hg1; clear hown1 hg1 hat1; simp only [Nat.zero_add, List.nil_append] at ho1)
    go_ret
    exact ⟨A1, c1, rfl, ho1, hb1⟩

set_option maxHeartbeats 400000 in
theorem open_short (A : Option Addr) (c L : Nat) (hL : L < 4) (w : World) : Calls Try.prog 43 #[.slice A L c] w fun e w' => e = .returned (.tuple #[.slice none 0 0, .int .i64 2]) ∧ w = w' := by
  go_enter Try.func43, Try.ntmps43
  go_wp2_with fail
  go_ret2
  exact ⟨rfl, rfl⟩

set_option maxHeartbeats 400000 in
theorem refopen_short (A : Option Addr) (c L : Nat) (hL : L < 4) (w : World) : Calls Try.prog 46 #[.slice A L c] w fun e w' => e = .returned (.tuple #[.slice none 0 0, .int .i64 2]) ∧ w = w' := by
  go_enter Try.func46, Try.ntmps46
  go_wp2_with fail
  go_ret2
  exact ⟨rfl, rfl⟩

/-- is what has been sealed what it was sealed as? -/
def whole (l : List UInt8) (n : Nat) : Bool := l.drop n == sum4 (l.take n)

theorem rd_drewN {w : World} {B : Nat} {A : Option Addr} {l : List UInt8} (h : Rd w B A l) (n : Nat) : Rd (w.drewN n) B A l := h.below (below_drewN (Below.refl _ _) n)

/-- what Open answers -/
def Opened (w : World) (n : Nat) (l : List UInt8) (e : Ending) (w' : World) : Prop :=
  ∃ A cap, ∃ E : Int, e = .returned (.tuple #[.slice A (if whole l n = true then n else 0) cap, .int .i64 E]) ∧ E = (if whole l n = true then 0 else 4) ∧
    Owns w' w.heap.size A cap (if whole l n = true then n else 0) (if whole l n = true then l.take n else []) ∧ Below w.heap.size w w'

theorem opened_no {w w' : World} {n : Nat} {l : List UInt8} (h : whole l n = false) (hb : Below w.heap.size w w') : Opened w n l (.returned (.tuple #[.slice none 0 0, .int .i64 4])) w' := by
  refine ⟨none, 0, 4, by simp [h], by simp [h], ?_, hb⟩
  simp only [h]
  exact ⟨rfl, .inl ⟨rfl, rfl⟩⟩
theorem opened_yes {w w' : World} {n : Nat} {l : List UInt8} {A : Option Addr} {cap : Nat} (h : whole l n = true) (ho : Owns w' w.heap.size A cap n (l.take n)) (hb : Below w.heap.size w w') : Opened w n l (.returned (.tuple #[.slice A n cap, .int .i64 0])) w' := by
  refine ⟨A, cap, 0, by simp [h], by simp [h], ?_, hb⟩
  simp only [h]
  exact ho

set_option maxHeartbeats 1000000 in
theorem open_len (b o c n : Nat) (l : List UInt8) (HL : Hid (l.length = n + 4)) (hc : n + 4 ≤ c) (w : World) (hr : Rd w w.heap.size (some ⟨b, o, none⟩) l) (hl : n ≤ 1073741824) :
    Calls Try.prog 43 #[.slice (some ⟨b, o, none⟩) (n + 4) c] w (Opened w n l) := by
  have HN : Hid ((l.take n).length = n) := Lib.hid (by rw [List.length_take, HL.out]; omega)
  have HD : Hid ((l.drop n).length = 4) := Lib.hid (by rw [List.length_drop, HL.out]; omega)
  have HS := Lib.hid (length_sum4 (l.take n))
  have hr1 : Rd w w.heap.size (some ⟨b, o, none⟩) (l.take n) := by
    have := hr.cut 0 n (some ⟨b, o, none⟩) (fun b' o' e _ => by injection e with e; injection e with e1 e2; subst e1 e2; rfl)
    simpa using this
  have hr2 : Rd w w.heap.size (some ⟨b, o + n, none⟩) (l.drop n) := by
    have := hr.cut n 4 (some ⟨b, o + n, none⟩) (fun b' o' e _ => by injection e with e; injection e with e1 e2; subst e1 e2; rfl)
    rwa [List.take_of_length_le (by rw [HD.out]; exact Nat.le_refl _)] at this
  cases hwh : whole l n
  all_goals
    have hwh' := hwh
    unfold whole at hwh'
    have HW := Lib.hid hwh
    clear hwh
    generalize hl1 : l.take n = l1 at HN HS hr1 hwh'
    have HL1 := Lib.hid hl1
    clear hl1
    generalize l.drop n = l2 at HD hr2 hwh'
    go_enter Try.func43, Try.ntmps43
    go_wp2_with fail
    go_quiet (fail)
    go_wp2_with fail
    refine (sumbytes_any (some ⟨b, o, none⟩) c n l1 HN _ (rd_drewN hr1 _) hl).mono ?_
    rintro e w1 ⟨A1, c1, rfl, ho1, hb1⟩
    have HB1 := Lib.hid ((below_drewN (Below.refl w.heap.size w) nq).trans hb1)
    have hr1' := hr1.up HB1.out
    have hr2' := hr2.up HB1.out
    have ho1' := ho1.read
    clear hb1 ho1
    go_wp2_with fail
    refine (equal_any _ _ 4 l2 HD A1 c1 4 _ HS w1 hr2' ho1').mono ?_
    rintro e w2 ⟨rfl, rfl⟩
    go_wp2_with fail
  · go_ret2
    exact opened_no HW.out HB1.out
  · refine (clone_any _ c n l1 HN w1 hr1' hl).mono ?_
    rintro e w3 ⟨A3, c3, rfl, ho3, hb3⟩
    go_wp2_with fail
    go_ret2
    exact opened_yes HW.out (by rw [HL1.out]; exact ho3.base_le HB1.out.size) (HB1.out.trans (hb3.mono HB1.out.size))

end Go.Proofs.Ytknjkihcpcimpaa
