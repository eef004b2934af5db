/-
  What the program's own Put, Signed, List and the copy that they begin with make, whatever bytes they are handed: b, and the bytes behind it, in new memory.
-/
import Derived.Test.YtgmnhaohbpclkaaChecked
import Derived.Test.YtgmnhaohbpclkaaWm
import Derived.Test.YtgmnhaohbpclkaaMem
import Derived.Outline
import Derived.Deep.DeepFit
import Derived.Deep.DeepMust
namespace Go.Proofs.Ytgmnhaohbpclkaa
open Go.RowKit Wm

theorem byte_info : (Try.prog.info? 5).map (fun i => (i.zero, i.size, i.bytes)) = some (some (.int .u8 0), 1, 1) := by kernel_rfl

set_option maxHeartbeats 400000 in
theorem grown_any (A : Option Addr) (c L : Nat) (l : List UInt8) (HL : Hid (l.length = L)) (n : Int) (w : World) (hr : Rd w w.heap.size A l) (h0 : 0 ≤ n) (hl : L ≤ 4294967296) (hn : n ≤ 4294967296) :
    Calls Try.prog 27 #[.slice A L c, .int .i64 n] w (Made w L l) := by
  obtain ⟨i0, hi, hz0, hz1, hz2⟩ := info_parts byte_info
  obtain ⟨n, rfl⟩ := Int.eq_ofNat_of_zero_le h0
  go_enter Try.func27, Try.ntmps27
  go_wp2_with (first
    | (at_make; refine wpList_make_own _ rfl _ _ _ rfl w.heap.size 5 i0 _ 1 Try.underlying22 hi hz0 hz1 _ _ _ (L + n) rfl rfl (by omega) (by rw [hz2]; omega) (by unfold maxLen; omega) (Nat.le_refl _) ?_; intro w1 hown1 hg1)
    | (at_builtin; refine wpList_append_rd rfl (.tmp 9) (.tmp 10) _ rfl w.heap.size i0 Try.underlying22 hi hz0 hz1 hz2 (.slice (some ⟨w.heap.size, 0, none⟩) 0 (L + n)) 0 [] rfl hown1 w.heap.size A l L c rfl (hr.below ((Below.refl _ _).grown hg1 (Nat.le_refl _) (by simp))) HL.out (by omega) hg1.size ?_; intro v2 w2 hown2 hg2 hat2))
  go_ret
  refine Made.of_own (n := 0 + L) (by simpa using hown2) (((Below.refl _ _).grown hg1 (Nat.le_refl _) (by simp)).grown hg2 hg1.size (fun k hk => ?_)) (by omega)
  have hk' : k = w.heap.size := by simpa [Value.ownBlock] using hk.symm
  omega

def clampN (n : Int) : Nat := (min (max n 0) 8).toNat

set_option maxHeartbeats 400000 in
theorem put_core (A : Option Addr) (c L : Nat) (l : List UInt8) (HL : Hid (l.length = L)) (v : Nat) (n : Int) (k : Nat) (w : World) (hr : Rd w w.heap.size A l) (hl : L ≤ 1073741824) (hv1 : v ≤ 18446744073709551615) (hk8 : k ≤ 8)
    (hc : (n < 0 ∧ k ≤ 0) ∨ (0 ≤ n ∧ n ≤ k ∧ k ≤ n) ∨ (8 < n ∧ 8 ≤ k)) :
    Calls Try.prog 10 #[.slice A L c, .int .u64 v, .int .i64 n] w (Made w (L + k) (l ++ putB k v)) := by
  obtain ⟨i0, hi, hz0, hz1, hz2⟩ := info_parts byte_info
  rcases hc with ⟨h1, h2⟩ | ⟨h1, h2, h3⟩ | ⟨h1, h2⟩
  all_goals
    go_enter Try.func10, Try.ntmps10
    go_wp2_with (go_at_call 27; refine (grown_any A c L l HL _ w hr (by omega) (by omega) (by omega)).mono ?_; rintro e w1 ⟨A1, c1, rfl, ho1, hb1⟩)
    go_loopw [7, 1, 15] (fun o x i wr => ∃ (j : Nat) (A' : Option Addr) (c' : Nat), j ≤ k ∧ i = .int .i64 j ∧ x = .int .u64 ((v / 256 ^ j : Nat) : Int) ∧ o = .slice A' (L + j) c' ∧ Owns wr w.heap.size A' c' (L + j) (l ++ putB j v) ∧ Below w.heap.size w wr)
      (fun _ _ i _ => k - (intOf i).toNat)
    case atStart => exact ⟨0, A1, c1, Nat.zero_le _, rfl, by simp, rfl, by simpa [putB] using ho1, hb1⟩
    case round =>
      obtain ⟨j, A', c', hj, rfl, rfl, rfl, ho, hb⟩ := hrel
      have hu : v / 256 ^ j ≤ 18446744073709551615 := Nat.le_trans (Nat.div_le_self _ _) hv1
      generalize hU : v / 256 ^ j = u at *
      have HU := Lib.hid hU
      clear hU
      by_cases hlt : j < k
      · go_wp2_with (at_builtin; refine wpList_append_rd rfl (.tmp 17) (.tmp 20) _ rfl w.heap.size i0 Try.underlying22 hi hz0 hz1 hz2 (.slice A' (L + j) c') (L + j) _ rfl (ho.alloc _) _ _ [UInt8.ofNat u] 1 1 rfl (rd_one _ _ _ (by rw [toNat_ofNat]; first | rfl | omega | (simp; omega))) rfl (by omega) (Nat.le_trans hb.size (by simp)) ?_; intro v2 w2 hown2 hg2 hat2)
        all_goals
          have hs2 : v / 256 ^ (j + 1) = u / 256 := by rw [Nat.pow_succ, ← Nat.div_div_eq_div_mul, HU.out]
          have hp2 : l ++ putB (j + 1) v = l ++ putB j v ++ [UInt8.ofNat u] := by rw [putB_snoc, HU.out, List.append_assoc]
          obtain ⟨A2, c2, rfl, ho2, hb2⟩ := append_step ho hb hb.size hown2 hg2
          go_roundw
          case rel => exact ⟨j + 1, A2, c2, by omega, by go_num, by rw [hs2]; rfl, rfl, by rw [hp2]; exact ho2, hb2⟩
          case measure => simp [intOf]; omega
      · go_wp2_with fail
        all_goals
          obtain rfl : j = k := by omega
          go_ret
          exact ⟨A', c', rfl, ho, hb⟩

theorem put_any (A : Option Addr) (c L : Nat) (l : List UInt8) (HL : Hid (l.length = L)) (v n : Int) (w : World) (hr : Rd w w.heap.size A l) (hl : L ≤ 1073741824) (hv0 : 0 ≤ v) (hv1 : v ≤ 18446744073709551615) :
    Calls Try.prog 10 #[.slice A L c, .int .u64 v, .int .i64 n] w (Made w (L + clampN n) (l ++ putB (clampN n) v.toNat)) := by
  obtain ⟨v, rfl⟩ := Int.eq_ofNat_of_zero_le hv0
  exact put_core A c L l HL v n (clampN n) w hr hl (by omega) (by unfold clampN; omega) (by unfold clampN; omega)

theorem wrap_u64_bd (v : Int) : 0 ≤ IntKind.u64.wrap v ∧ IntKind.u64.wrap v ≤ 18446744073709551615 := by
  simp only [IntKind.wrap, IntKind.bits, IntKind.signed]
  simp
  omega

/-- a signed number's eight bytes as one number -/
def sgn (v : Int) : Nat := (IntKind.u64.wrap v).toNat

set_option maxHeartbeats 400000 in
theorem signed_any (A : Option Addr) (c L : Nat) (l : List UInt8) (HL : Hid (l.length = L)) (v : Int) (w : World) (hr : Rd w w.heap.size A l) (hl : L ≤ 1073741824) :
    Calls Try.prog 12 #[.slice A L c, .int .i64 v] w (Made w (L + 8) (l ++ putB 8 (sgn v))) := by
  obtain ⟨hb1, hb2⟩ := wrap_u64_bd v
  go_enter Try.func12, Try.ntmps12
  go_wp2_with (go_at_call 10; refine (put_any A c L l HL _ _ w hr hl hb1 hb2).mono ?_; rintro e w1 ⟨A1, c1, rfl, ho1, hbe1⟩)
  go_ret
  exact ⟨A1, c1, rfl, ho1, hbe1⟩

/-- how many a list has, and the bytes themselves -/
def listB (m : List UInt8) : List UInt8 := if m.length ≤ 65535 then putB 2 m.length ++ m else []

set_option maxHeartbeats 400000 in
theorem list_any (A : Option Addr) (c L : Nat) (l : List UInt8) (HL : Hid (l.length = L)) (A' : Option Addr) (c' M : Nat) (m : List UInt8) (HM : Hid (m.length = M)) (w : World) (hr : Rd w w.heap.size A l) (hr' : Rd w w.heap.size A' m) (hl : L ≤ 1073741824) (hm : M ≤ 1073741824) :
    Calls Try.prog 14 #[.slice A L c, .slice A' M c'] w (Made w (L + if M ≤ 65535 then 2 + M else 0) (l ++ listB m)) := by
  obtain ⟨i0, hi, hz0, hz1, hz2⟩ := info_parts byte_info
  by_cases hM : M ≤ 65535
  · have H1 : Hid ((L + if M ≤ 65535 then 2 + M else 0) = L + 2 + M ∧ listB m = putB 2 M ++ m) := ⟨by rw [if_pos hM]; omega, by unfold listB; rw [HM.out, if_pos hM]⟩
    rw [H1.out.1, H1.out.2]
    go_enter Try.func14, Try.ntmps14
    go_wp2_with (first
      | (go_at_call 27; refine (grown_any A c L l HL _ w hr (by omega) (by omega) (by omega)).mono ?_; rintro e w1 ⟨A1, c1, rfl, ho1, hb1⟩)
      | (at_builtin; refine wpList_append_rd rfl (.tmp 16) (.tmp 24) _ rfl w.heap.size i0 Try.underlying22 hi hz0 hz1 hz2 (.slice A1 L c1) L _ rfl (ho1.alloc _) _ _ (putB 2 M) 2 2 rfl (rd_two _ _ _ _ _ (by rw [toNat_ofNat]; first | rfl | omega | (simp; omega)) (by rw [toNat_ofNat]; first | rfl | omega | (simp; omega))) rfl (by omega) (Nat.le_trans hb1.size (by simp)) ?_; intro v2 w2 hown2 hg2 hat2; obtain ⟨A2, c2, rfl, ho2, hb2⟩ := append_step ho1 hb1 hb1.size hown2 hg2; clear hown2 hg2 hat2)
      | (at_builtin; refine wpList_append_rd rfl (.tmp 26) (.tmp 27) _ rfl w.heap.size i0 Try.underlying22 hi hz0 hz1 hz2 (.slice A2 (L + 2) c2) (L + 2) _ rfl ho2 _ _ m M _ rfl (hr'.below hb2) HM.out (by omega) hb2.size ?_; intro v3 w3 hown3 hg3 hat3; obtain ⟨A3, c3, rfl, ho3, hb3⟩ := append_step' ho2 hb2 hb2.size hown3 hg3))
    go_ret
    exact ⟨A3, c3, rfl, by rw [← List.append_assoc]; exact ho3, hb3⟩
  · have H1 : Hid ((L + if M ≤ 65535 then 2 + M else 0) = L ∧ l ++ listB m = l) := ⟨by rw [if_neg hM]; omega, by unfold listB; rw [HM.out, if_neg hM, List.append_nil]⟩
    rw [H1.out.1, H1.out.2]
    go_enter Try.func14, Try.ntmps14
    go_wp2_with (go_at_call 27; refine (grown_any A c L l HL _ w hr (by omega) (by omega) (by omega)).mono ?_; rintro e w1 ⟨A1, c1, rfl, ho1, hb1⟩)
    go_ret
    exact ⟨A1, c1, rfl, ho1, hb1⟩

end Go.Proofs.Ytgmnhaohbpclkaa
