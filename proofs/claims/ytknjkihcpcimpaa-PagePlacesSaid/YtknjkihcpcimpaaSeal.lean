/-
  Bytes sealed with their sum, by the program and by the document; two slices of bytes held against each other.
-/
import Derived.Test.YtknjkihcpcimpaaMore
import Derived.Test.YtknjkihcpcimpaaPutOne
import Derived.Test.YtknjkihcpcimpaaConcat
namespace Go.Proofs.Ytknjkihcpcimpaa
set_option maxRecDepth 100000
open Go.RowKit Crc Wm

/-- a sum as its four bytes -/
def sum4 (l : List UInt8) : List UInt8 := putB 4 (ofB l).toNat
def sealB (l : List UInt8) : List UInt8 := l ++ sum4 l

theorem length_sum4 (l : List UInt8) : (sum4 l).length = 4 := length_putB _ _
theorem length_seal (l : List UInt8) : (sealB l).length = l.length + 4 := by unfold sealB; rw [List.length_append, length_sum4]

set_option maxHeartbeats 400000 in
theorem sumbytes_any (A : Option Addr) (c L : Nat) (l : List UInt8) (HL : Hid (l.length = L)) (w : World) (hr : Rd w w.heap.size A l) (hl : L ≤ 1073741824) :
    Calls Try.prog 49 #[.slice A L c] w (Made w 4 (sum4 l)) := by
  have hof := of_any A c L l HL w hr (by omega)
  obtain ⟨h0, h1⟩ := word_bd (ofB l)
  have HS : Hid (sum4 l = [] ++ putB (clampN 4) (word (ofB l)).toNat) := rfl
  rw [HS.out]
  generalize word (ofB l) = x at hof h0 h1
  have HOF := Lib.hid hof
  clear hof HS
  go_enter Try.func49, Try.ntmps49
  go_wp2_with (first
    | (go_at_call 55; refine (HOF.out).mono ?_; rintro e w1 ⟨rfl, hb1⟩)
    | (go_at_call 23; refine (put_any none 0 0 [] rfl _ _ w1 (Rd.nil _ _ _) (by omega) h0 (by omega)).mono ?_; rintro e w2 ⟨A2, c2, rfl, ho2, hb2⟩))
  go_ret
  exact ⟨A2, c2, rfl, ho2.base_le hb1.size, hb1.trans (hb2.mono hb1.size)⟩

/-- Concat, called on a slice of its own that holds both -/
theorem seal_concat {A : Option Addr} {c L : Nat} {l : List UInt8} (HL : Hid (l.length = L)) {w : World} (hr : Rd w w.heap.size A l) (hl : L ≤ 1073741824) {m : List UInt8} (H4 : Hid (m.length = 4)) {w1 : World} {A1 : Option Addr} {c1 : Nat} (ho1 : Owns w1 w.heap.size A1 c1 4 m) (hb1 : Below w.heap.size w w1) :
    Calls Try.prog 48 #[.slice (some ⟨w1.heap.size, 0, none⟩) 2 2] (w1.alloc (.cells #[.slice A L c, .slice A1 4 c1] 22))
      fun e w2 => ∃ A2 c2, e = .returned (.slice A2 (L + 4) c2) ∧ Owns w2 w.heap.size A2 c2 (L + 4) (l ++ m) ∧ Below w.heap.size w w2 := by
  have hbA : Below w.heap.size w (w1.alloc (.cells #[.slice A L c, .slice A1 4 c1] 22)) := hb1.alloc hb1.size _
  refine (concat_two w1.heap.size 2 A c L l HL A1 c1 4 m H4 _ (by simp) ?_ ?_ (hr.up hbA) (ho1.read.up ((Below.refl _ _).alloc (Nat.le_refl _) _)) hl (by omega) (by omega)).mono ?_
  · rw [cell_of_row _ _ _ _ _ _ (heap_alloc_new w1 _)]; rfl
  · rw [cell_of_row _ _ _ _ _ _ (heap_alloc_new w1 _)]; rfl
  · rintro e w2 ⟨A2, c2, rfl, ho2, hb2⟩
    exact ⟨A2, c2, rfl, ho2.base_le hbA.size, hbA.trans (hb2.mono hbA.size)⟩

set_option maxHeartbeats 1000000 in
theorem seal_any (A : Option Addr) (c L : Nat) (l : List UInt8) (HL : Hid (l.length = L)) (w : World) (hr : Rd w w.heap.size A l) (hl : L ≤ 1073741824) :
    Calls Try.prog 40 #[.slice A L c] w (Made w (L + 4) (sealB l)) := by
  have HSB := Lib.hid (sumbytes_any A c L l HL w hr hl)
  have H4 := Lib.hid (length_sum4 l)
  go_enter Try.func40, Try.ntmps40
  go_wp2_with (first
    | (go_at_call 49; refine (HSB.out).mono ?_; rintro e w1 ⟨A1, c1, rfl, ho1, hb1⟩)
    | (go_at_call 48; refine (seal_concat HL hr hl H4 ho1 hb1).mono ?_; rintro e w2 ⟨A2, c2, rfl, ho2, hb2⟩))
  go_ret
  exact ⟨A2, c2, rfl, ho2, hb2⟩

set_option maxHeartbeats 400000 in
theorem refseal_any (A : Option Addr) (c L : Nat) (l : List UInt8) (HL : Hid (l.length = L)) (w : World) (hr : Rd w w.heap.size A l) (hl : L ≤ 1073741824) :
    Calls Try.prog 41 #[.slice A L c] w (Made w (L + 4) (sealB l)) := by
  have hof := refof_any A c L l HL w hr (by omega)
  obtain ⟨h0, h1⟩ := word_bd (ofB l)
  have HS : Hid (sealB l = l ++ putB (clampN 4) (word (ofB l)).toNat) := rfl
  rw [HS.out]
  generalize word (ofB l) = x at hof h0 h1
  have HOF := Lib.hid hof
  clear hof HS
  go_enter Try.func41, Try.ntmps41
  go_wp2_with (first
    | (go_at_call 50; refine (HOF.out).mono ?_; rintro e w1 ⟨rfl, rfl⟩)
    | (go_at_call 26; refine (refput_any A c L l HL _ _ w hr hl h0 (by omega)).mono ?_; rintro e w2 ⟨A2, c2, rfl, ho2, hb2⟩))
  go_ret
  exact ⟨A2, c2, rfl, ho2, hb2⟩

set_option maxHeartbeats 400000 in
theorem equal_any (A1 : Option Addr) (c1 L1 : Nat) (l1 : List UInt8) (HL1 : Hid (l1.length = L1)) (A2 : Option Addr) (c2 L2 : Nat) (l2 : List UInt8) (HL2 : Hid (l2.length = L2)) (w : World) (hr1 : Rd w w.heap.size A1 l1) (hr2 : Rd w w.heap.size A2 l2) :
    Calls Try.prog 51 #[.slice A1 L1 c1, .slice A2 L2 c2] w fun e w' => e = .returned (.bool (l1 == l2)) ∧ w = w' := by
  have k1 := run_string_rd hr1 _ _ Try.underlying22 Try.underlying5 Try.underlying9 L1 c1 HL1.out
  have k2 := run_string_rd hr2 _ _ Try.underlying22 Try.underlying5 Try.underlying9 L2 c2 HL2.out
  go_enter Try.func51, Try.ntmps51
  go_wp2_with fail
  go_ret
  exact ⟨rfl, rfl⟩

end Go.Proofs.Ytknjkihcpcimpaa
