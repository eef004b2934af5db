/-
  SumSeals: the walk: bytes that are sealed so often are opened as often; what is opened is what was sealed.
-/
import Derived.Test.YtanabocgglidhaaLies
namespace Go.Proofs.Ytanabocgglidhaa
open Go.RowKit Crc Wm

def sealN : Nat → List UInt8 → List UInt8
  | 0, l => l
  | k + 1, l => sealB (sealN k l)
theorem length_sealN (k : Nat) (l : List UInt8) : (sealN k l).length = l.length + 4 * k := by
  induction k with
  | zero => rfl
  | succ k ih => rw [sealN, length_seal, ih]; omega

theorem ofInt64_mod (n : Int) : ((BitVec.ofInt 64 n).toNat : Int) = n % 18446744073709551616 := by
  rw [BitVec.toNat_ofInt]
  have : (0 : Int) ≤ n % ((2 : Nat) ^ 64 : Nat) := Int.emod_nonneg _ (by decide)
  rw [Int.toNat_of_nonneg this]
  rfl

/-- 'n & 7' -/
theorem and7 (n : Int) : bits .and .i64 n 7 = n % 8 := by
  show IntKind.i64.wrap ((BitVec.ofInt 64 n &&& BitVec.ofInt 64 7).toNat : Int) = _
  have h := ofInt64_mod n
  rw [BitVec.toNat_and, show (BitVec.ofInt 64 7).toNat = 7 from rfl, nat_mask3]
  rw [IntWalk.i64_in _ ⟨by omega, by omega⟩]
  omega

set_option maxHeartbeats 2000000 in
theorem seals_walk (A : Option Addr) (c L : Nat) (l : List UInt8) (HL : Hid (l.length = L)) (n : Int) (w : World) (hr : Rd w w.heap.size A l) (hl : L ≤ c) :
    Calls Try.prog 6 #[.slice A L c, .int .i64 n] w fun e w' => e = .returned (.bool true) ∧ Below w.heap.size w w' := by
  by_cases hlen : L ≤ 1000
  · obtain ⟨k, hk⟩ : ∃ k : Nat, (k : Int) = n % 8 := ⟨(n % 8).toNat, by omega⟩
    have hk7 : k ≤ 7 := by omega
    have hand : bits .and .i64 n 7 = (k : Int) := by rw [and7, hk]
    clear hk
    go_enter Try.func6, Try.ntmps6
    go_wp2_with fail
    refine (awake_any w).mono ?_
    rintro e w0 ⟨rfl, hb0⟩
    have HB0 := Lib.hid hb0
    clear hb0
    go_wp2_with fail
    clear hand
    go_loopw [6, 8] (fun s i wr => ∃ (j : Nat) (A' : Option Addr) (c' m : Nat), i = .int .i64 (j : Int) ∧ j ≤ k ∧ s = .slice A' m c' ∧ Hid (m = L + 4 * j) ∧ m ≤ 1100 ∧ Lies wr A' c' m (sealN j l) ∧ Hid (Below w.heap.size w wr)) (fun _ i _ => 8 - (intOf i).toNat)
    case atStart => exact ⟨0, A, c, L, rfl, by omega, rfl, Lib.hid (by omega), by omega, ⟨hr.up HB0.out, HL.out, hl⟩, HB0⟩
    case round =>
      obtain ⟨j, A', c', m, rfl, hj, rfl, HM, hm, hlies, HB⟩ := hrel
      rcases Nat.lt_or_ge j k with hlt | hge
      · have HS := Lib.hid (seal_any A' c' m _ hlies.len wr hlies.rd (by omega))
        clear hlies
        go_wp2_with (go_at_call 17; refine (HS.out).mono ?_; rintro e w2 ⟨A2, c2, rfl, ho2, hb2⟩)
        go_roundw
        case rel => exact ⟨j + 1, A2, c2, m + 4, by go_num, by omega, rfl, Lib.hid (by have := HM.out; omega), by have := HM.out; omega, ho2.lies, HB.out.trans (hb2.mono HB.out.size)⟩
        case measure => simp [intOf]; omega
      · obtain rfl : j = k := by omega
        have hs4 : (m : Int) = (L : Int) + 4 * (j : Int) := by have := HM.out; omega
        have hne : ((m : Int) != (L : Int) + 4 * (j : Int)) = false := by rw [hs4]; simp
        clear hs4 hge
        go_wp2_with fail
        clear hne
        have HLS := Lib.hid (show Lies wr A' c' m (sealN j l) from hlies)
        clear hlies
        go_loopw [6, 9] (fun s i wq => ∃ (q r : Nat) (A2 : Option Addr) (c2 m2 : Nat), i = .int .i64 (q : Int) ∧ q ≤ j ∧ Hid (q + r = j) ∧ s = .slice A2 m2 c2 ∧ Hid (m2 = L + 4 * r) ∧ m2 ≤ 1100 ∧ Hid (Lies wq A2 c2 m2 (sealN r l)) ∧ Hid (Below w.heap.size w wq)) (fun _ i _ => 8 - (intOf i).toNat)
        case atStart => exact ⟨0, j, A', c', m, rfl, by omega, Lib.hid (by omega), rfl, HM, hm, HLS, HB⟩
        case round =>
          clear HB HLS HM
          obtain ⟨q, r, A2, c2, m2, rfl, hq, HQ, rfl, HM, hm2, HLS, HB⟩ := hrel
          rcases Nat.lt_or_ge q j with hlt | hge
          · obtain ⟨r', hr'⟩ : ∃ r', r = r' + 1 := ⟨r - 1, by have := HQ.out; omega⟩
            subst hr'
            obtain ⟨m3, HM3⟩ : ∃ m3, Hid (m2 = m3 + 4 ∧ m3 = L + 4 * r') := ⟨m2 - 4, Lib.hid (by have := HM.out; omega)⟩
            have hls := HLS.out
            have h3 := HM3.out.1
            clear HLS HM
            subst h3
            have HO := Lib.hid (open_sealed hls (by omega))
            clear hls
            go_wp2_with (go_at_call 9; refine (HO.out).mono ?_; rintro e w2 ⟨A3, c3, rfl, ho3, hb3⟩)
            go_roundw
            case rel => exact ⟨q + 1, r', A3, c3, m3, by go_num, by omega, Lib.hid (by have := HQ.out; omega), rfl, Lib.hid HM3.out.2, by omega, ho3.lies, HB.out.trans (hb3.mono HB.out.size)⟩
            case measure => simp [intOf]; omega
          · obtain rfl : q = j := by omega
            obtain rfl : r = 0 := by have := HQ.out; omega
            have k1 := HLS.out.conv
            have hq0 : sealN 0 l = l := rfl
            rw [hq0] at k1
            have k2 := run_string_rd (hr.up HB.out) _ _ Try.underlying22 Try.underlying5 Try.underlying9 L c HL.out
            clear hq0
            go_wp2_with fail
            go_ret
            exact ⟨rfl, HB.out⟩
  · go_enter Try.func6, Try.ntmps6
    go_wp2_with fail
    refine (awake_any w).mono ?_
    rintro e w0 ⟨rfl, hb0⟩
    go_wp2_with fail
    go_ret
    exact ⟨rfl, hb0⟩

end Go.Proofs.Ytanabocgglidhaa
