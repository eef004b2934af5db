/-
  What the program's own Put and the document's make, whatever bytes they are handed: b, and the bytes behind it, in new memory (of layer 1's texts, the part that sums reach).
-/
import Derived.Test.YtjpnihmijnpjcaaChecked
import Derived.Test.YtjpnihmijnpjcaaWm
import Derived.Test.YtjpnihmijnpjcaaMem
import Derived.Outline
import Derived.Deep.DeepFit
import Derived.Deep.DeepMust
namespace Go.Proofs.Ytjpnihmijnpjcaa
set_option maxRecDepth 100000
open Go.RowKit Wm

theorem byte_info : (Try.prog.info? 5).map (fun i => (i.zero, i.size, i.bytes)) = some (some (.int .u8 0), 1, 1) := by kernel_rfl

set_option maxHeartbeats 400000 in
theorem grown_any (A : Option Addr) (c L : Nat) (l : List UInt8) (HL : Hid (l.length = L)) (n : Int) (w : World) (hr : Rd w w.heap.size A l) (h0 : 0 ≤ n) (hl : L ≤ 4294967296) (hn : n ≤ 4294967296) :
    Calls Try.prog 40 #[.slice A L c, .int .i64 n] w (Made w L l) := by
  obtain ⟨i0, hi, hz0, hz1, hz2⟩ := info_parts byte_info
  obtain ⟨n, rfl⟩ := Int.eq_ofNat_of_zero_le h0
  go_enter Try.func40, Try.ntmps40
  go_wp2_with (first
    | (at_make; refine wpList_make_own _ rfl _ _ _ rfl w.heap.size 5 i0 _ 1 Try.underlying26 hi hz0 hz1 _ _ _ (L + n) rfl rfl (by omega) (by rw [hz2]; omega) (by unfold maxLen; omega) (Nat.le_refl _) ?_; intro w1 hown1 hg1)
    | (at_builtin; refine wpList_append_rd rfl (.tmp 9) (.tmp 10) _ rfl w.heap.size i0 Try.underlying26 hi hz0 hz1 hz2 (.slice (some ⟨w.heap.size, 0, none⟩) 0 (L + n)) 0 [] rfl hown1 w.heap.size A l L c rfl (hr.below ((Below.refl _ _).grown hg1 (Nat.le_refl _) (by simp))) HL.out (by omega) hg1.size ?_; intro v2 w2 hown2 hg2 hat2))
  go_ret
  refine Made.of_own (n := 0 + L) (by simpa using hown2) (((Below.refl _ _).grown hg1 (Nat.le_refl _) (by simp)).grown hg2 hg1.size (fun k hk => ?_)) (by omega)
  have hk' : k = w.heap.size := by simpa [Value.ownBlock] using hk.symm
  omega

def clampN (n : Int) : Nat := (min (max n 0) 8).toNat

set_option maxHeartbeats 400000 in
theorem put_core (A : Option Addr) (c L : Nat) (l : List UInt8) (HL : Hid (l.length = L)) (v : Nat) (n : Int) (k : Nat) (w : World) (hr : Rd w w.heap.size A l) (hl : L ≤ 1073741824) (hv1 : v ≤ 18446744073709551615) (hk8 : k ≤ 8)
    (hc : (n < 0 ∧ k ≤ 0) ∨ (0 ≤ n ∧ n ≤ k ∧ k ≤ n) ∨ (8 < n ∧ 8 ≤ k)) :
    Calls Try.prog 24 #[.slice A L c, .int .u64 v, .int .i64 n] w (Made w (L + k) (l ++ putB k v)) := by
  obtain ⟨i0, hi, hz0, hz1, hz2⟩ := info_parts byte_info
  rcases hc with ⟨h1, h2⟩ | ⟨h1, h2, h3⟩ | ⟨h1, h2⟩
  all_goals
    go_enter Try.func24, Try.ntmps24
    go_wp2_with (go_at_call 40; refine (grown_any A c L l HL _ w hr (by omega) (by omega) (by omega)).mono ?_; rintro e w1 ⟨A1, c1, rfl, ho1, hb1⟩)
    go_loopw [7, 1, 15] (fun o x i wr => ∃ (j : Nat) (A' : Option Addr) (c' : Nat), j ≤ k ∧ i = .int .i64 j ∧ x = .int .u64 ((v / 256 ^ j : Nat) : Int) ∧ o = .slice A' (L + j) c' ∧ Owns wr w.heap.size A' c' (L + j) (l ++ putB j v) ∧ Below w.heap.size w wr)
      (fun _ _ i _ => k - (intOf i).toNat)
    case atStart => exact ⟨0, A1, c1, Nat.zero_le _, rfl, by simp, rfl, by simpa [putB] using ho1, hb1⟩
    case round =>
      obtain ⟨j, A', c', hj, rfl, rfl, rfl, ho, hb⟩ := hrel
      have hu : v / 256 ^ j ≤ 18446744073709551615 := Nat.le_trans (Nat.div_le_self _ _) hv1
      generalize hU : v / 256 ^ j = u at *
      have HU := Lib.hid hU
      clear hU
      by_cases hlt : j < k
      · go_wp2_with (at_builtin; refine wpList_append_rd rfl (.tmp 17) (.tmp 20) _ rfl w.heap.size i0 Try.underlying26 hi hz0 hz1 hz2 (.slice A' (L + j) c') (L + j) _ rfl (ho.alloc _) _ _ [UInt8.ofNat u] 1 1 rfl (rd_one _ _ _ (by rw [toNat_ofNat]; first | rfl | omega | (simp; omega))) rfl (by omega) (Nat.le_trans hb.size (by simp)) ?_; intro v2 w2 hown2 hg2 hat2)
        all_goals
          have hs2 : v / 256 ^ (j + 1) = u / 256 := by rw [Nat.pow_succ, ← Nat.div_div_eq_div_mul, HU.out]
          have hp2 : l ++ putB (j + 1) v = l ++ putB j v ++ [UInt8.ofNat u] := by rw [putB_snoc, HU.out, List.append_assoc]
          obtain ⟨A2, c2, rfl, ho2, hb2⟩ := append_step ho hb hb.size hown2 hg2
          go_roundw
          case rel => exact ⟨j + 1, A2, c2, by omega, by go_num, by rw [hs2]; rfl, rfl, by rw [hp2]; exact ho2, hb2⟩
          case measure => simp [intOf]; omega
      · go_wp2_with fail
        all_goals
          obtain rfl : j = k := by omega
          go_ret
          exact ⟨A', c', rfl, ho, hb⟩

theorem put_any (A : Option Addr) (c L : Nat) (l : List UInt8) (HL : Hid (l.length = L)) (v n : Int) (w : World) (hr : Rd w w.heap.size A l) (hl : L ≤ 1073741824) (hv0 : 0 ≤ v) (hv1 : v ≤ 18446744073709551615) :
    Calls Try.prog 24 #[.slice A L c, .int .u64 v, .int .i64 n] w (Made w (L + clampN n) (l ++ putB (clampN n) v.toNat)) := by
  obtain ⟨v, rfl⟩ := Int.eq_ofNat_of_zero_le hv0
  exact put_core A c L l HL v n (clampN n) w hr hl (by omega) (by unfold clampN; omega) (by unfold clampN; omega)

set_option maxHeartbeats 400000 in
theorem refput_core (A : Option Addr) (c L : Nat) (l : List UInt8) (HL : Hid (l.length = L)) (v : Nat) (n : Int) (k : Nat) (w : World) (hr : Rd w w.heap.size A l) (hl : L ≤ 1073741824) (hv1 : v ≤ 18446744073709551615) (hk8 : k ≤ 8)
    (hc : (n < 0 ∧ k ≤ 0) ∨ (0 ≤ n ∧ n ≤ k ∧ k ≤ n) ∨ (8 < n ∧ 8 ≤ k)) :
    Calls Try.prog 26 #[.slice A L c, .int .u64 v, .int .i64 n] w (Made w (L + k) (l ++ putB k v)) := by
  obtain ⟨i0, hi, hz0, hz1, hz2⟩ := info_parts byte_info
  go_enter Try.func26, Try.ntmps26
  have hown0 : (w.alloc (.cells #[] 5)).ownsRow w.heap.size 5 1 (.slice (some ⟨w.heap.size, 0, none⟩) 0 0) 0 [] := World.ownsRow_lit w #[] 0 (Nat.le_refl _) (by simp [maxLen]) rfl
  have hb0 : Below w.heap.size w (w.alloc (.cells #[] 5)) := (Below.refl _ _).alloc (Nat.le_refl _) _
  go_wp2_with (at_builtin; refine wpList_append_rd rfl (.tmp 9) (.tmp 10) _ rfl w.heap.size i0 Try.underlying26 hi hz0 hz1 hz2 (.slice (some ⟨w.heap.size, 0, none⟩) 0 0) 0 [] rfl hown0 w.heap.size A l L c rfl (hr.below hb0) HL.out (by omega) hb0.size ?_; intro v1 w1 hown1 hg1 hat1; obtain ⟨A1, c1, rfl, ho1, hb1⟩ := append_step' (l := []) hown0 hb0 hb0.size hown1 hg1; clear hown1 hg1 hat1; simp only [Nat.zero_add, List.nil_append] at ho1)
  go_loopw [7, 1, 8] (fun o x i wr => ∃ (j : Nat) (A' : Option Addr) (c' : Nat), j ≤ k ∧ i = .int .i64 j ∧ x = .int .u64 ((v / 256 ^ j : Nat) : Int) ∧ o = .slice A' (L + j) c' ∧ Owns wr w.heap.size A' c' (L + j) (l ++ putB j v) ∧ Below w.heap.size w wr)
    (fun _ _ i _ => k - (intOf i).toNat)
  case atStart => exact ⟨0, A1, c1, Nat.zero_le _, rfl, by simp, rfl, by simpa [putB] using ho1, hb1⟩
  case round =>
    obtain ⟨j, A', c', hj, rfl, rfl, rfl, ho, hb⟩ := hrel
    have hu : v / 256 ^ j ≤ 18446744073709551615 := Nat.le_trans (Nat.div_le_self _ _) hv1
    generalize hU : v / 256 ^ j = u at *
    have HU := Lib.hid hU
    clear hU
    rcases hc with ⟨h1, h2⟩ | ⟨h1, h2, h3⟩ | ⟨h1, h2⟩
    all_goals
      by_cases hlt : j < k
      · go_wp2_with (at_builtin; refine wpList_append_rd rfl (.tmp 18) (.tmp 22) _ rfl w.heap.size i0 Try.underlying26 hi hz0 hz1 hz2 (.slice A' (L + j) c') (L + j) _ rfl (ho.alloc _) _ _ [UInt8.ofNat u] 1 1 rfl (rd_one _ _ _ (by rw [toNat_ofNat]; first | rfl | omega | (simp; omega))) rfl (by omega) (Nat.le_trans hb.size (by simp)) ?_; intro v2 w2 hown2 hg2 hat2)
        all_goals
          have hs2 : v / 256 ^ (j + 1) = u / 256 := by rw [Nat.pow_succ, ← Nat.div_div_eq_div_mul, HU.out]
          have hp2 : l ++ putB (j + 1) v = l ++ putB j v ++ [UInt8.ofNat u] := by rw [putB_snoc, HU.out, List.append_assoc]
          obtain ⟨A2, c2, rfl, ho2, hb2⟩ := append_step ho hb hb.size hown2 hg2
          go_roundw
          case rel => exact ⟨j + 1, A2, c2, by omega, by go_num, by rw [hs2]; rfl, rfl, by rw [hp2]; exact ho2, hb2⟩
          case measure => simp [intOf]; omega
      · go_wp2_with fail
        all_goals
          obtain rfl : j = k := by omega
          go_ret
          exact ⟨A', c', rfl, ho, hb⟩

theorem refput_any (A : Option Addr) (c L : Nat) (l : List UInt8) (HL : Hid (l.length = L)) (v n : Int) (w : World) (hr : Rd w w.heap.size A l) (hl : L ≤ 1073741824) (hv0 : 0 ≤ v) (hv1 : v ≤ 18446744073709551615) :
    Calls Try.prog 26 #[.slice A L c, .int .u64 v, .int .i64 n] w (Made w (L + clampN n) (l ++ putB (clampN n) v.toNat)) := by
  obtain ⟨v, rfl⟩ := Int.eq_ofNat_of_zero_le hv0
  exact refput_core A c L l HL v n (clampN n) w hr hl (by omega) (by unfold clampN; omega) (by unfold clampN; omega)

end Go.Proofs.Ytjpnihmijnpjcaa
