/-
  What the document's own Put, Signed and List make: the same bytes as the program's.
-/
import Derived.Test.YtgmnhaohbpclkaaPut
namespace Go.Proofs.Ytgmnhaohbpclkaa
open Go.RowKit Wm

set_option maxHeartbeats 400000 in
theorem refput_core (A : Option Addr) (c L : Nat) (l : List UInt8) (HL : Hid (l.length = L)) (v : Nat) (n : Int) (k : Nat) (w : World) (hr : Rd w w.heap.size A l) (hl : L ≤ 1073741824) (hv1 : v ≤ 18446744073709551615) (hk8 : k ≤ 8)
    (hc : (n < 0 ∧ k ≤ 0) ∨ (0 ≤ n ∧ n ≤ k ∧ k ≤ n) ∨ (8 < n ∧ 8 ≤ k)) :
    Calls Try.prog 11 #[.slice A L c, .int .u64 v, .int .i64 n] w (Made w (L + k) (l ++ putB k v)) := by
  obtain ⟨i0, hi, hz0, hz1, hz2⟩ := info_parts byte_info
  go_enter Try.func11, Try.ntmps11
  have hown0 : (w.alloc (.cells #[] 5)).ownsRow w.heap.size 5 1 (.slice (some ⟨w.heap.size, 0, none⟩) 0 0) 0 [] := World.ownsRow_lit w #[] 0 (Nat.le_refl _) (by simp [maxLen]) rfl
  have hb0 : Below w.heap.size w (w.alloc (.cells #[] 5)) := (Below.refl _ _).alloc (Nat.le_refl _) _
  go_wp2_with (at_builtin; refine wpList_append_rd rfl (.tmp 9) (.tmp 10) _ rfl w.heap.size i0 Try.underlying22 hi hz0 hz1 hz2 (.slice (some ⟨w.heap.size, 0, none⟩) 0 0) 0 [] rfl hown0 w.heap.size A l L c rfl (hr.below hb0) HL.out (by omega) hb0.size ?_; intro v1 w1 hown1 hg1 hat1; obtain ⟨A1, c1, rfl, ho1, hb1⟩ := append_step' (l := []) hown0 hb0 hb0.size hown1 hg1; clear hown1 hg1 hat1; simp only [Nat.zero_add, List.nil_append] at ho1)
  go_loopw [7, 1, 8] (fun o x i wr => ∃ (j : Nat) (A' : Option Addr) (c' : Nat), j ≤ k ∧ i = .int .i64 j ∧ x = .int .u64 ((v / 256 ^ j : Nat) : Int) ∧ o = .slice A' (L + j) c' ∧ Owns wr w.heap.size A' c' (L + j) (l ++ putB j v) ∧ Below w.heap.size w wr)
    (fun _ _ i _ => k - (intOf i).toNat)
  case atStart => exact ⟨0, A1, c1, Nat.zero_le _, rfl, by simp, rfl, by simpa [putB] using ho1, hb1⟩
  case round =>
    obtain ⟨j, A', c', hj, rfl, rfl, rfl, ho, hb⟩ := hrel
    have hu : v / 256 ^ j ≤ 18446744073709551615 := Nat.le_trans (Nat.div_le_self _ _) hv1
    generalize hU : v / 256 ^ j = u at *
    have HU := Lib.hid hU
    clear hU
    rcases hc with ⟨h1, h2⟩ | ⟨h1, h2, h3⟩ | ⟨h1, h2⟩
    all_goals
      by_cases hlt : j < k
      · go_wp2_with (at_builtin; refine wpList_append_rd rfl (.tmp 18) (.tmp 22) _ rfl w.heap.size i0 Try.underlying22 hi hz0 hz1 hz2 (.slice A' (L + j) c') (L + j) _ rfl (ho.alloc _) _ _ [UInt8.ofNat u] 1 1 rfl (rd_one _ _ _ (by rw [toNat_ofNat]; first | rfl | omega | (simp; omega))) rfl (by omega) (Nat.le_trans hb.size (by simp)) ?_; intro v2 w2 hown2 hg2 hat2)
        all_goals
          have hs2 : v / 256 ^ (j + 1) = u / 256 := by rw [Nat.pow_succ, ← Nat.div_div_eq_div_mul, HU.out]
          have hp2 : l ++ putB (j + 1) v = l ++ putB j v ++ [UInt8.ofNat u] := by rw [putB_snoc, HU.out, List.append_assoc]
          obtain ⟨A2, c2, rfl, ho2, hb2⟩ := append_step ho hb hb.size hown2 hg2
          go_roundw
          case rel => exact ⟨j + 1, A2, c2, by omega, by go_num, by rw [hs2]; rfl, rfl, by rw [hp2]; exact ho2, hb2⟩
          case measure => simp [intOf]; omega
      · go_wp2_with fail
        all_goals
          obtain rfl : j = k := by omega
          go_ret
          exact ⟨A', c', rfl, ho, hb⟩

theorem refput_any (A : Option Addr) (c L : Nat) (l : List UInt8) (HL : Hid (l.length = L)) (v n : Int) (w : World) (hr : Rd w w.heap.size A l) (hl : L ≤ 1073741824) (hv0 : 0 ≤ v) (hv1 : v ≤ 18446744073709551615) :
    Calls Try.prog 11 #[.slice A L c, .int .u64 v, .int .i64 n] w (Made w (L + clampN n) (l ++ putB (clampN n) v.toNat)) := by
  obtain ⟨v, rfl⟩ := Int.eq_ofNat_of_zero_le hv0
  exact refput_core A c L l HL v n (clampN n) w hr hl (by omega) (by unfold clampN; omega) (by unfold clampN; omega)

set_option maxHeartbeats 400000 in
theorem refsigned_any (A : Option Addr) (c L : Nat) (l : List UInt8) (HL : Hid (l.length = L)) (v : Int) (w : World) (hr : Rd w w.heap.size A l) (hl : L ≤ 1073741824) :
    Calls Try.prog 13 #[.slice A L c, .int .i64 v] w (Made w (L + 8) (l ++ putB 8 (sgn v))) := by
  obtain ⟨hb1, hb2⟩ := wrap_u64_bd v
  go_enter Try.func13, Try.ntmps13
  go_wp2_with (go_at_call 11; refine (refput_any A c L l HL _ _ w hr hl hb1 hb2).mono ?_; rintro e w1 ⟨A1, c1, rfl, ho1, hbe1⟩)
  go_ret
  exact ⟨A1, c1, rfl, ho1, hbe1⟩

set_option maxHeartbeats 400000 in
theorem reflist_any (A : Option Addr) (c L : Nat) (l : List UInt8) (HL : Hid (l.length = L)) (A' : Option Addr) (c' M : Nat) (m : List UInt8) (HM : Hid (m.length = M)) (w : World) (hr : Rd w w.heap.size A l) (hr' : Rd w w.heap.size A' m) (hl : L ≤ 1073741824) (hm : M ≤ 1073741824) :
    Calls Try.prog 15 #[.slice A L c, .slice A' M c'] w (Made w (L + if M ≤ 65535 then 2 + M else 0) (l ++ listB m)) := by
  obtain ⟨i0, hi, hz0, hz1, hz2⟩ := info_parts byte_info
  have hown0 : (w.alloc (.cells #[] 5)).ownsRow w.heap.size 5 1 (.slice (some ⟨w.heap.size, 0, none⟩) 0 0) 0 [] := World.ownsRow_lit w #[] 0 (Nat.le_refl _) (by simp [maxLen]) rfl
  have hb0 : Below w.heap.size w (w.alloc (.cells #[] 5)) := (Below.refl _ _).alloc (Nat.le_refl _) _
  by_cases hM : M ≤ 65535
  · have H1 : Hid ((L + if M ≤ 65535 then 2 + M else 0) = L + 2 + M ∧ listB m = putB 2 M ++ m) := ⟨by rw [if_pos hM]; omega, by unfold listB; rw [HM.out, if_pos hM]⟩
    rw [H1.out.1, H1.out.2]
    go_enter Try.func15, Try.ntmps15
    go_wp2_with (first
      | (at_builtin; refine wpList_append_rd rfl (.tmp 6) (.tmp 7) _ rfl w.heap.size i0 Try.underlying22 hi hz0 hz1 hz2 (.slice (some ⟨w.heap.size, 0, none⟩) 0 0) 0 [] rfl hown0 w.heap.size A l L c rfl (hr.below hb0) HL.out (by omega) hb0.size ?_; intro v1 w1 hown1 hg1 hat1; obtain ⟨A1, c1, rfl, ho1, hb1⟩ := append_step' (l := []) hown0 hb0 hb0.size hown1 hg1; clear hown1 hg1 hat1; simp only [Nat.zero_add, List.nil_append] at ho1)
      | (at_builtin; refine wpList_append_rd rfl (.tmp 13) (.tmp 22) _ rfl w.heap.size i0 Try.underlying22 hi hz0 hz1 hz2 (.slice A1 L c1) L _ rfl (ho1.alloc _) _ _ (putB 2 M) 2 2 rfl (rd_two _ _ _ _ _ (by rw [toNat_ofNat]; first | rfl | omega | (simp; omega)) (by rw [toNat_ofNat]; first | rfl | omega | (simp; omega))) rfl (by omega) (Nat.le_trans hb1.size (by simp)) ?_; intro v2 w2 hown2 hg2 hat2; obtain ⟨A2, c2, rfl, ho2, hb2⟩ := append_step ho1 hb1 hb1.size hown2 hg2; clear hown2 hg2 hat2)
      | (at_builtin; refine wpList_append_rd rfl (.tmp 24) (.tmp 25) _ rfl w.heap.size i0 Try.underlying22 hi hz0 hz1 hz2 (.slice A2 (L + 2) c2) (L + 2) _ rfl ho2 _ _ m M _ rfl (hr'.below hb2) HM.out (by omega) hb2.size ?_; intro v3 w3 hown3 hg3 hat3; obtain ⟨A3, c3, rfl, ho3, hb3⟩ := append_step' ho2 hb2 hb2.size hown3 hg3))
    go_ret
    exact ⟨A3, c3, rfl, by rw [← List.append_assoc]; exact ho3, hb3⟩
  · have H1 : Hid ((L + if M ≤ 65535 then 2 + M else 0) = L ∧ l ++ listB m = l) := ⟨by rw [if_neg hM]; omega, by unfold listB; rw [HM.out, if_neg hM, List.append_nil]⟩
    rw [H1.out.1, H1.out.2]
    go_enter Try.func15, Try.ntmps15
    go_wp2_with (at_builtin; refine wpList_append_rd rfl (.tmp 6) (.tmp 7) _ rfl w.heap.size i0 Try.underlying22 hi hz0 hz1 hz2 (.slice (some ⟨w.heap.size, 0, none⟩) 0 0) 0 [] rfl hown0 w.heap.size A l L c rfl (hr.below hb0) HL.out (by omega) hb0.size ?_; intro v1 w1 hown1 hg1 hat1; obtain ⟨A1, c1, rfl, ho1, hb1⟩ := append_step' (l := []) hown0 hb0 hb0.size hown1 hg1; clear hown1 hg1 hat1; simp only [Nat.zero_add, List.nil_append] at ho1)
    go_ret
    exact ⟨A1, c1, rfl, ho1, hb1⟩

end Go.Proofs.Ytgmnhaohbpclkaa
