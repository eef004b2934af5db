/-
  SumTurns: the walk: sealed bytes with one bit turned, anywhere, are not opened; as they are they are.
-/
import Derived.Test.YtanabocgglidhaaLies
import Derived.Laws.ShiftsVarLaws
namespace Go.Proofs.Ytanabocgglidhaa
open Go.RowKit Crc Wm

theorem ofInt64_mod2 (n : Int) : ((BitVec.ofInt 64 n).toNat : Int) = n % 18446744073709551616 := by
  rw [BitVec.toNat_ofInt]
  have : (0 : Int) ≤ n % ((2 : Nat) ^ 64 : Nat) := Int.emod_nonneg _ (by decide)
  rw [Int.toNat_of_nonneg this]
  rfl

/-- 'n & 0xffffff' -/
theorem and24 (n : Int) : bits .and .i64 n 16777215 = n % 16777216 := by
  show IntKind.i64.wrap ((BitVec.ofInt 64 n &&& BitVec.ofInt 64 16777215).toNat : Int) = _
  have h := ofInt64_mod2 n
  rw [BitVec.toNat_and, show (BitVec.ofInt 64 16777215).toNat = 2 ^ 24 - 1 from rfl, Nat.and_two_pow_sub_one_eq_mod]
  rw [IntWalk.i64_in _ ⟨by omega, by omega⟩]
  omega

/-- a byte with one bit turned -/
def turned (x : UInt8) (J : Nat) : UInt8 := x ^^^ UInt8.ofNat (2 ^ J)
theorem turned_val (x : UInt8) (J : Nat) : bits .xor .u8 (x.toNat : Int) ((2 : Int) ^ J % 256) = ((turned x J).toNat : Int) := by
  have hx : x.toNat < 256 := x.toNat_lt
  have h2 : (2 : Int) ^ J % 256 = ((2 ^ J % 256 : Nat) : Int) := by
    rw [Int.natCast_emod, Int.natCast_pow]
    rfl
  rw [h2, u8_xor_nat _ _ hx (Nat.mod_lt _ (by omega))]
  unfold turned
  rw [UInt8.toNat_xor, UInt8.toNat_ofNat']
theorem turned_ne (x : UInt8) (J : Nat) (hJ : J < 8) : turned x J ≠ x := by
  intro h
  unfold turned at h
  have h2 : UInt8.ofNat (2 ^ J) = 0 := by
    have := congrArg (x ^^^ ·) h
    simpa [← UInt8.xor_assoc] using this
  have h3 := congrArg UInt8.toNat h2
  rw [UInt8.toNat_ofNat'] at h3
  have h4 : 2 ^ J % 256 = 0 := h3
  rcases J with _ | _ | _ | _ | _ | _ | _ | _ | J
  all_goals first | (exfalso; omega) | cases h4

set_option maxHeartbeats 4000000 in
theorem turns_walk (A : Option Addr) (c L : Nat) (l : List UInt8) (HL : Hid (l.length = L)) (n : Int) (w : World) (hr : Rd w w.heap.size A l) (_hl : L ≤ c) :
    Calls Try.prog 4 #[.slice A L c, .int .i64 n] w fun e w' => e = .returned (.bool true) ∧ Below w.heap.size w w' := by
  by_cases hlen : L ≤ 3000
  · obtain ⟨k, hk⟩ : ∃ k : Nat, (k : Int) = n % 16777216 := ⟨(n % 16777216).toNat, by omega⟩
    have hk7 : k ≤ 16777215 := by omega
    have hand : bits .and .i64 n 16777215 = (k : Int) := by rw [and24, hk]
    clear hk
    go_enter Try.func4, Try.ntmps4
    go_wp2_with fail
    refine (awake_any w).mono ?_
    rintro e w0 ⟨rfl, hb0⟩
    have HB0 := Lib.hid hb0
    clear hb0
    go_wp2_with fail
    refine (seal_any A c L l HL w0 (hr.up HB0.out) (by omega)).mono ?_
    rintro e w1 ⟨A1, c1, rfl, ho1, hb1⟩
    have HO1 := Lib.hid (ho1.base_le HB0.out.size)
    have HB1 := Lib.hid (HB0.out.trans (hb1.mono HB0.out.size))
    clear ho1 hb1
    go_wp2_with fail
    refine (open_sealed HO1.out.lies (by omega)).mono ?_
    rintro e w2 ⟨A2, c2, rfl, ho2, hb2⟩
    have k1 := ho2.lies.conv
    have HO2 := Lib.hid (HO1.out.below hb2)
    have HB2 := Lib.hid (HB1.out.trans (hb2.mono HB1.out.size))
    have k2 := run_string_rd (hr.up HB2.out) _ _ Try.underlying22 Try.underlying5 Try.underlying9 L c HL.out
    clear ho2 hb2 HB0 HO1 HB1
    obtain ⟨I, J, hIJ, hI, hJ⟩ : ∃ I J, k % (8 * (L + 4)) = 8 * I + J ∧ I < L + 4 ∧ J < 8 :=
      ⟨k % (8 * (L + 4)) / 8, k % (8 * (L + 4)) % 8, by omega, by have := Nat.mod_lt k (show 0 < 8 * (L + 4) by omega); omega, by omega⟩
    have hK : (k : Int) % (8 * ((L : Int) + 4)) = 8 * (I : Int) + (J : Int) := by
      have e : (8 : Int) * ((L : Int) + 4) = ((8 * (L + 4) : Nat) : Int) := by omega
      rw [e, ← Int.natCast_emod, hIJ]
      omega
    obtain ⟨g, rfl, hg1, hg2, hgc, hgf⟩ := HO2.out.at_ (by omega)
    have hIl : I < (sealB l).length := by rw [HO2.out.len]; exact hI
    obtain ⟨x, hx⟩ : ∃ x, Hid ((sealB l)[I] = x) := ⟨_, Lib.hid rfl⟩
    have hc1 : w2.cell? ⟨g, I, none⟩ = some (.int .u8 (x.toNat : Int)) := hgc I x (by rw [List.getElem?_eq_getElem hIl, hx.out])
    have hf1 := hgf I
    have hd8 : (8 * (I : Int) + (J : Int)) / 8 = (I : Int) := by omega
    have hm8 : (8 * (I : Int) + (J : Int)) % 8 = (J : Int) := by omega
    have hx255 : x.toNat < 256 := x.toNat_lt
    clear hIJ hgc hgf
    go_wp2_with fail
    have htv := turned_val x J
    have HO3 : Hid (Owns (w2.setCell ⟨g, I, none⟩ (.int .u8 (bits .xor .u8 (x.toNat : Int) ((2 : Int) ^ J % 256)))) w.heap.size (some ⟨g, 0, none⟩) c1 (L + 4) ((sealB l).set I (turned x J))) := by
      show Owns _ _ _ _ _ _
      rw [htv]
      exact HO2.out.set_ I (turned x J) hI
    have HB3 : Hid (Below w.heap.size w (w2.setCell ⟨g, I, none⟩ (.int .u8 (bits .xor .u8 (x.toNat : Int) ((2 : Int) ^ J % 256))))) := HB2.out.setCell (by exact hg2) _
    have hwh : whole ((sealB l).set I (turned x J)) L = false := turned_spoilt l L I _ HL.out hIl (by rw [hx.out]; exact turned_ne x J hJ)
    refine (open_spoilt HO3.out.lies (by omega) hwh).mono ?_
    rintro e w4 ⟨A4, c4, rfl, hb4⟩
    have HB4 := Lib.hid (HB3.out.trans (hb4.mono HB3.out.size))
    clear hb4 htv
    go_wp2_with fail
    go_ret
    exact ⟨rfl, HB4.out⟩
  · go_enter Try.func4, Try.ntmps4
    go_wp2_with fail
    refine (awake_any w).mono ?_
    rintro e w0 ⟨rfl, hb0⟩
    go_wp2_with fail
    go_ret
    exact ⟨rfl, hb0⟩

end Go.Proofs.Ytanabocgglidhaa
