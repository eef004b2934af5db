/-
  NoteTold over the words: what is told is a note that may be, and laid as it was; a beginning of it is too short.
-/
import Derived.Test.YtjpnihmijnpjcaaNx
import Derived.Test.YtjpnihmijnpjcaaNu
import Derived.Lib.MinMax
import Derived.Laws.BitsLemmas
namespace Go.Proofs.Ytjpnihmijnpjcaa
set_option maxRecDepth 100000
set_option linter.unusedVariables false
set_option linter.unusedSimpArgs false
open Go.RowKit Wm Nn

theorem and_mask (n : Int) (m : Int) (k : Nat) (hm : (BitVec.ofInt 64 m).toNat = 2 ^ k - 1) (hk : k ≤ 62) : bits .and .i64 n m = n % ((2 ^ k : Nat) : Int) := by
  have key : (BitVec.ofInt 64 n &&& BitVec.ofInt 64 m).toNat = (n % ((2 ^ 64 : Nat) : Int)).toNat % 2 ^ k := by
    rw [BitVec.toNat_and, BitVec.toNat_ofInt, hm, Nat.and_two_pow_sub_one_eq_mod]
  show IntKind.i64.wrap ((BitVec.ofInt 64 n &&& BitVec.ofInt 64 m).toNat : Nat) = _
  have hp : (2 ^ k : Nat) ∣ 2 ^ 64 := Nat.pow_dvd_pow 2 (by omega)
  have hpos : 0 < 2 ^ k := Nat.two_pow_pos k
  have hle : 2 ^ k ≤ 2 ^ 62 := Nat.pow_le_pow_right (by omega) hk
  have h64 : n % ((2 ^ 64 : Nat) : Int) % ((2 ^ k : Nat) : Int) = n % ((2 ^ k : Nat) : Int) := Int.emod_emod_of_dvd n (by exact_mod_cast hp)
  rw [key, IntKind.wrap_i64]
  generalize 2 ^ k = K at *
  have g0 : 0 ≤ n % ((2 ^ 64 : Nat) : Int) := Int.emod_nonneg n (by decide)
  have e1 : (((n % ((2 ^ 64 : Nat) : Int)).toNat % K : Nat) : Int) = n % (K : Int) := by
    rw [Int.natCast_emod, Int.toNat_of_nonneg g0, h64]
  rw [e1]
  have g1 := Int.emod_nonneg n (b := (K : Int)) (by omega)
  have g2 := Int.emod_lt_of_pos n (b := (K : Int)) (by omega)
  omega

/-- a number's low bits, named -/
theorem low (n m : Int) (k : Nat) (hm : (BitVec.ofInt 64 m).toNat = 2 ^ k - 1) (hk : k ≤ 62) : ∃ x : Nat, x < 2 ^ k ∧ bits .and .i64 n m = (x : Int) := by
  have hpos : 0 < 2 ^ k := Nat.two_pow_pos k
  have g1 := Int.emod_nonneg n (b := ((2 ^ k : Nat) : Int)) (by omega)
  have g2 := Int.emod_lt_of_pos n (b := ((2 ^ k : Nat) : Int)) (by omega)
  exact ⟨(n % ((2 ^ k : Nat) : Int)).toNat, by omega, by rw [and_mask n m k hm hk]; omega⟩

theorem san_small {x : Nt} (h : San x) : SmallN x := ⟨by have := h.1.2.2.1; omega, by have := h.1.2.2.2.1; omega, fun i y hy => by have := (h.2.1 i y hy).2.1; omega⟩
theorem Lies.take {w : World} {A : Option Addr} {c n : Nat} {l : List UInt8} (h : Lies w A c n l) (hA : A = none ∨ ∃ b o, A = some ⟨b, o, none⟩) {m : Nat} (hm : m ≤ n) : Lies w A c m (l.take m) := by
  have hr := h.rd.cut 0 m A (fun b o e _ => by rw [e]; rfl)
  rw [List.drop_zero] at hr
  exact ⟨hr, by rw [List.length_take, h.len]; omega, Nat.le_trans hm h.cap⟩

set_option maxHeartbeats 4000000 in
theorem told_walk (hw : NoteOk) (A : Option Addr) (c n : Nat) (l : List UInt8) (k : Int) (w : World) (h : Lies w A c n l) (hA : A = none ∨ ∃ b o, A = some ⟨b, o, none⟩) (hc : c ≤ 9223372036854775807) :
    Calls Try.prog 5 #[.slice A n c, .int .i64 k] w fun e w' => e = .returned (.bool true) ∧ Below w.heap.size w w' := by
  have HW := Lib.hid hw
  have HL := Lib.hid h
  have HA := Lib.hid hA
  have hnc := h.cap
  clear hw h hA
  go_enter Try.func5, Try.ntmps5
  go_wp2_with fail
  refine (awake_any HW.out w).mono ?_
  rintro e w1 ⟨rfl, hb1⟩
  have HB1 := Lib.hid hb1
  clear hb1
  by_cases hn : 2000 < n
  · obtain ⟨p1, p2⟩ := gtn_yes hn
    obtain ⟨p3, p4⟩ := gt_yes (a := (n : Int)) (b := 2000) (by omega)
    clear hn
    go_wp2_with fail
    go_ret
    exact ⟨rfl, HB1.out⟩
  obtain ⟨p1, p2⟩ := gtn_no hn
  obtain ⟨p3, p4⟩ := gt_no (a := (n : Int)) (b := 2000) (by omega)
  have hn2 : n ≤ 2000 := by omega
  clear hn
  go_wp2_with fail
  refine (HW.out.decode A c n l w1 (HL.out.up HB1.out) (by omega)).mono ?_
  rintro e w2 ⟨r, rfl, hat, hb2, _⟩
  have HB2 := Lib.hid (HB1.out.trans (hb2.mono HB1.out.size))
  have HT := Lib.hid hat
  clear hb2 hat HB1
  by_cases he : decE l = 0
  · obtain ⟨t1, t2, t3, t4⟩ := told he
    obtain ⟨d1, d2, d3, _⟩ := dec_ok he
    rw [HL.out.len] at d1
    have hn0 : 11 ≤ n := by omega
    have HE := Lib.hid he
    have HSN := Lib.hid t1
    have HBE := Lib.hid t3
    have HEE := Lib.hid t4
    rw [he]
    clear he t1 t2 t3 t4 d1 d2 d3
    generalize decN l = x at *
    obtain ⟨rA, rn, rc, rB, rm, rd, rs⟩ := r
    unfold ntV ntC
    go_upto_region 5 with fail
    have HX3 := Lib.hid (NtB.new w2 32 x ⟨rA, rn, rc, rB, rm, rd, rs⟩)
    have HB3 := Lib.hid (HB2.out.trans ((below_new w2 (.cells (ntC x ⟨rA, rn, rc, rB, rm, rd, rs⟩) 32)).mono HB2.out.size))
    have HT3 := Lib.hid (HT.out.below (below_new w2 (.cells (ntC x ⟨rA, rn, rc, rB, rm, rd, rs⟩) 32)))
    unfold ntC at HX3 HB3 HT3
    clear HB2 HT
    generalize hg : w2.heap.size = g at *
    clear hg
    generalize w2.alloc (.cells #[.int .i64 x.kind, .int .i64 x.seq, .slice rA rn rc, .slice rB rm rd] 32) = w3 at *
    have a0 := HX3.out.c0
    have a1 := HX3.out.c1
    have a2 := HX3.out.c2
    have a3 := HX3.out.c3
    simp only at a2 a3
    go_wp2_with fail
    refine (HW.out.encode x ⟨rA, rn, rc, rB, rm, rd, rs⟩ w3 HT3.out (san_small HSN.out)).mono ?_
    rintro e w4 ⟨C, N, cc, rfl, hN, hO, hb4⟩
    rw [HBE.out] at hN hO
    rw [HEE.out]
    rw [HL.out.len] at hN
    subst hN
    have HX4 := Lib.hid (HX3.out.below hb4)
    have HT4 := Lib.hid (HT3.out.below hb4)
    have HB4 := Lib.hid (HB3.out.trans (hb4.mono HB3.out.size))
    have HC4 := Lib.hid hO.lies
    clear hO hb4 HX3 HT3 HB3 a0 a1 a2 a3
    obtain ⟨z, hz, hzk⟩ := low k 65535 16 (by decide) (by omega)
    have hz2 : z ≤ 65535 := by have : (2 : Nat) ^ 16 = 65536 := rfl; omega
    clear hz
    obtain ⟨m, hm⟩ : ∃ m, m = z % N := ⟨_, rfl⟩
    have hmN : m < N := by rw [hm]; exact Nat.mod_lt _ (by omega)
    have hmi : (z : Int) % (N : Int) = (m : Int) := by rw [hm]; omega
    have hmt : Int.tmod (z : Int) (N : Int) = (m : Int) := by rw [Int.tmod_eq_emod_of_nonneg (by omega), hmi]
    have hmx : max (1 : Int) (N : Int) = (N : Int) := by omega
    have hN1 : ¬ N = 0 := by omega
    have hN2 : ¬ (N : Int) = 0 := by omega
    have hmc : m ≤ c := by omega
    obtain ⟨b, o, hA'⟩ : ∃ b o, A = some ⟨b, o, none⟩ := by
      rcases HL.out.rd with e | ⟨b, o, e, _⟩
      · have := HL.out.len
        rw [e] at this
        simp at this
        omega
      · exact ⟨b, o, e⟩
    subst hA'
    have HDT := Lib.hid (dec_take HE.out (k := m) (by rw [HL.out.len]; exact hmN))
    clear hm
    go_upto_region 8 with fail
    go_wp2_with fail
    refine (HW.out.decode (some ⟨b, o, none⟩) c m (l.take m) w4 ((HL.out.up HB4.out).take (.inr ⟨_, _, rfl⟩) (by omega)) (by omega)).mono ?_
    rintro e w5 ⟨⟨sA, sn, sc, sB, sm, sd, ss⟩, rfl, hat5, hb5, _⟩
    rw [HDT.out]
    generalize decN (l.take m) = y at *
    have HX5 := Lib.hid (HX4.out.below hb5)
    have HT5 := Lib.hid (HT4.out.below hb5)
    have HB5 := Lib.hid (HB4.out.trans (hb5.mono HB4.out.size))
    have HC5 := Lib.hid (HC4.out.up hb5)
    clear hb5 hat5 HX4 HT4 HB4 HC4
    unfold ntV
    obtain ⟨D, hD⟩ : ∃ D, D = ntC y ⟨sA, sn, sc, sB, sm, sd, ss⟩ := ⟨_, rfl⟩
    unfold ntC at hD ⊢
    go_upto_region 9 with fail
    rw [← hD]
    clear hD
    have hbn := below_new w5 (.cells D 32)
    have HX6 := Lib.hid (HX5.out.below hbn)
    have HT6 := Lib.hid (HT5.out.below hbn)
    have HB6 := Lib.hid (HB5.out.trans (hbn.mono HB5.out.size))
    have K1 := (HC5.out.up hbn).conv
    have K2 := (HL.out.up HB6.out).conv
    have h1 : (l == l) = true := beq_self_eq_true l
    clear hbn HX5 HT5 HB5 HC5
    generalize w5.alloc (.cells D 32) = w6 at *
    have a0 := HX6.out.c0
    have a1 := HX6.out.c1
    have a2 := HX6.out.c2
    have a3 := HX6.out.c3
    simp only at a2 a3
    go_wp2_with fail
    refine (HW.out.sane x ⟨rA, rn, rc, rB, rm, rd, rs⟩ w6 HT6.out (san_small HSN.out)).mono ?_
    rintro e w7 ⟨rfl, hb7⟩
    rw [sane_yes HSN.out]
    have HB7 := Lib.hid (HB6.out.trans (hb7.mono HB6.out.size))
    clear hb7 K1 K2 a0 a1 a2 a3
    go_wp2_with fail
    go_ret
    exact ⟨rfl, HB7.out⟩
  · have hz := not_told he
    rw [hz] at HT ⊢
    clear hz
    have HT3 := Lib.hid (HT.out.below (below_new w2 (.cells (ntC Nt.zero r) 32)))
    have HX3 := Lib.hid (NtB.new w2 32 Nt.zero r)
    have HB3 := Lib.hid (HB2.out.trans ((below_new w2 (.cells (ntC Nt.zero r) 32)).mono HB2.out.size))
    obtain ⟨x, hx⟩ : ∃ x, x = Nt.zero := ⟨_, rfl⟩
    rw [← hx] at HT3 HX3 HB3 ⊢
    have HXZ := Lib.hid hx
    clear hx HT HB2
    have hcs := decE_cases l
    generalize decE l = ee at *
    obtain ⟨rA, rn, rc, rB, rm, rd, rs⟩ := r
    unfold ntV ntC at *
    simp only at HX3 HB3 HT3
    rcases hcs with h | h | h
    · exact absurd h he
    all_goals
      subst h
      clear he
      go_upto_region 5 with fail
      generalize hg : w2.heap.size = g at *
      clear hg
      generalize w2.alloc (.cells #[.int .i64 x.kind, .int .i64 x.seq, .slice rA rn rc, .slice rB rm rd] 32) = w3 at *
      have a0 := HX3.out.c0
      have a1 := HX3.out.c1
      have a2 := HX3.out.c2
      have a3 := HX3.out.c3
      simp only at a2 a3
      go_wp2_with fail
      refine (theirs_any x ⟨rA, rn, rc, rB, rm, rd, rs⟩ w3).mono ?_
      rintro e w4 ⟨rfl, hb4⟩
      have HT4 := Lib.hid (HT3.out.below hb4)
      have HB4 := Lib.hid (HB3.out.trans (hb4.mono HB3.out.size))
      clear hb4 HX3 HT3 HB3 a0 a1 a2 a3
      go_wp2_with fail
      refine (same_any x Nt.zero ⟨rA, rn, rc, rB, rm, rd, rs⟩ nr0 w4 HT4.out (nt_zero _) (by rw [HXZ.out]; exact ⟨by decide, by decide⟩)).mono ?_
      rintro e w5 ⟨rfl, hb5⟩
      have hsm : sameB x Nt.zero = true := by unfold sameB; rw [HXZ.out]; simp
      rw [hsm]
      have HB5 := Lib.hid (HB4.out.trans (hb5.mono HB4.out.size))
      clear hb5 hsm
      go_wp2_with fail
      go_ret
      exact ⟨rfl, HB5.out⟩

end Go.Proofs.Ytjpnihmijnpjcaa
