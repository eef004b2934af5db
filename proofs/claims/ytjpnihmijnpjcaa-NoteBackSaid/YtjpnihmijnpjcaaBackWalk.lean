/-
  NoteBack over the words: there and back.
-/
import Derived.Test.YtjpnihmijnpjcaaToldWalk
import Derived.Test.YtjpnihmijnpjcaaNy
namespace Go.Proofs.Ytjpnihmijnpjcaa
set_option maxRecDepth 100000
set_option linter.unusedVariables false
set_option linter.unusedSimpArgs false
open Go.RowKit Wm Nn

theorem Wr.start (w : World) : Wr w (w.alloc (.cells #[] 5)) (some ⟨w.heap.size, 0, none⟩) 0 0 [] :=
  ⟨World.ownsRow_lit w #[] 0 (Nat.le_refl _) (by simp [maxLen]) rfl, below_new w _⟩

set_option maxHeartbeats 4000000 in
theorem back_walk (hw : NoteOk) (x : Nt) (r : Nr) (cb : UInt8) (w : World) (hx : NtAt w x r) :
    Calls Try.prog 4 #[ntV x r, .int .u8 (cb.toNat : Int)] w fun e w' => e = .returned (.bool true) ∧ Below w.heap.size w w' := by
  have HW := Lib.hid hw
  clear hw
  obtain ⟨A1, k1, c1, B1, l1, d1, e1⟩ := r
  obtain ⟨HX, HB, HN⟩ := nt_boxed w x _ hx 25
  clear hx
  unfold ntV
  obtain ⟨C, hC⟩ : ∃ C, C = ntC x ⟨A1, k1, c1, B1, l1, d1, e1⟩ := ⟨_, rfl⟩
  rw [← hC] at HX HB HN ⊢
  clear hC
  obtain ⟨zc, hzc, HZC⟩ : ∃ zc : Nat, zc < 256 ∧ Hid (UInt8.ofNat zc = cb) ∧ (cb.toNat : Int) = (zc : Int) := ⟨cb.toNat, cb.toNat_lt, Lib.hid (by simp), rfl⟩
  obtain ⟨HZC, hze⟩ := HZC
  rw [hze]
  clear hze
  go_enter Try.func4, Try.ntmps4
  go_upto_region 1 with fail
  generalize w.alloc (.cells C 25) = w0 at *
  go_wp2_with fail
  refine (awake_any HW.out w0).mono ?_
  rintro e w1 ⟨rfl, hb1⟩
  have HB1 := Lib.hid hb1
  clear hb1
  have HX1 := Lib.hid (HX.out.below HB1.out)
  have a0 := HX1.out.c0
  have a1 := HX1.out.c1
  have a2 := HX1.out.c2
  have a3 := HX1.out.c3
  simp only at a2 a3
  go_wp2_with fail
  refine (few_any x ⟨A1, k1, c1, B1, l1, d1, e1⟩ 40 w1 (HN.out.below HB1.out) (by omega)).mono ?_
  rintro e w2 ⟨hb2, ⟨rfl, hf⟩ | rfl⟩
  rotate_left
  · have HB2 := Lib.hid (HB.out.trans ((HB1.out.trans (hb2.mono HB1.out.size)).mono HB.out.size))
    clear hb2 a0 a1 a2 a3
    go_wp2_with fail
    go_ret
    exact ⟨rfl, HB2.out⟩
  have HB2 := Lib.hid (HB1.out.trans (hb2.mono HB1.out.size))
  have HF := Lib.hid hf
  have HSM := Lib.hid (few_small hf (by omega))
  obtain ⟨n1, n2, n3, n4⟩ := HN.out.n_
  simp only at n1 n2 n3 n4
  have hk1 : k1 ≤ 40 := by have := hf.1; omega
  have hl1 : l1 ≤ 40 := by have := hf.2.1; omega
  have HLN := Lib.hid (And.intro n1 n3)
  clear hb2 hf a0 a1 a2 a3 HB1 HX1 n1 n3
  have HX2 := Lib.hid (HX.out.below HB2.out)
  have a0 := HX2.out.c0
  have a1 := HX2.out.c1
  have a2 := HX2.out.c2
  have a3 := HX2.out.c3
  simp only at a2 a3
  go_wp2_with fail
  refine (ours_any x ⟨A1, k1, c1, B1, l1, d1, e1⟩ w2).mono ?_
  rintro e w3 ⟨rfl, hb3⟩
  have HB3 := Lib.hid (HB2.out.trans (hb3.mono HB2.out.size))
  clear hb3 a0 a1 a2 a3 HB2 HX2
  unfold ntV ntC
  go_wp2_with fail
  refine (HW.out.encode x ⟨A1, k1, c1, B1, l1, d1, e1⟩ w3 (HN.out.below HB3.out) HSM.out).mono ?_
  rintro e w4 ⟨A, N, c, rfl, hN, hO, hb4⟩
  have HB4 := Lib.hid (HB3.out.trans (hb4.mono HB3.out.size))
  have HX4 := Lib.hid (HX.out.below HB4.out)
  by_cases hs : San x
  rotate_left
  · have HSN := Lib.hid (sane_no hs)
    rw [encB_no hs] at hN
    rw [encE_no hs]
    have HBE := Lib.hid (encB_no hs)
    simp only [List.length_nil] at hN
    subst hN
    clear hO hb4 hs HB3
    have a0 := HX4.out.c0
    have a1 := HX4.out.c1
    have a2 := HX4.out.c2
    have a3 := HX4.out.c3
    simp only at a2 a3
    go_wp2_with fail
    refine (ours_any x ⟨A1, k1, c1, B1, l1, d1, e1⟩ w4).mono ?_
    rintro e w5 ⟨rfl, hb5⟩
    have HB5 := Lib.hid (HB4.out.trans (hb5.mono HB4.out.size))
    clear hb5 a0 a1 a2 a3 HB4 HX4
    unfold ntV ntC
    go_wp2_with fail
    refine (HW.out.sane x ⟨A1, k1, c1, B1, l1, d1, e1⟩ w5 (HN.out.below HB5.out) HSM.out).mono ?_
    rintro e w6 ⟨rfl, hb6⟩
    rw [HSN.out]
    have HB6 := Lib.hid (HB5.out.trans (hb6.mono HB5.out.size))
    have HX6 := Lib.hid (HX.out.below HB6.out)
    clear hb6 HB5
    have a0 := HX6.out.c0
    have a1 := HX6.out.c1
    have a2 := HX6.out.c2
    have a3 := HX6.out.c3
    simp only at a2 a3
    go_wp2_with fail
    refine (ours_any x ⟨A1, k1, c1, B1, l1, d1, e1⟩ w6).mono ?_
    rintro e w7 ⟨rfl, hb7⟩
    have HB7 := Lib.hid (HB6.out.trans (hb7.mono HB6.out.size))
    clear hb7 a0 a1 a2 a3 HB6 HX6
    unfold ntV ntC
    go_wp2_with fail
    refine (HW.out.size x ⟨A1, k1, c1, B1, l1, d1, e1⟩ w7 (HN.out.below HB7.out) HSM.out).mono ?_
    rintro e w8 ⟨rfl, hb8⟩
    rw [HBE.out]
    have HB8 := Lib.hid (HB7.out.trans (hb8.mono HB7.out.size))
    clear hb8 HB7
    go_wp2_with fail
    go_ret
    exact ⟨rfl, HB.out.trans (HB8.out.mono HB.out.size)⟩
  have hop : ∀ (i : Nat) (o : Od), x.op[i]? = some o → okI o.b := fun i o ho => (HN.out.op.ok i o ho).2
  obtain ⟨t1, t2⟩ := dec_enc hs hop
  have HE0 := Lib.hid t1
  have HEN := Lib.hid t2
  have HEB := Lib.hid (encB_yes hs)
  rw [encB_yes hs] at hN hO
  rw [encE_yes hs]
  have hlen := enc_len hs
  rw [← hN, HLN.out.1, HLN.out.2] at hlen
  clear t1 t2 hop hs
  generalize enc x = b at *
  have HNL := Lib.hid hN
  have HC4 := Lib.hid hO.lies
  have hcc := hO.lies.cap
  obtain ⟨bb, bo, hA⟩ : ∃ bb bo, A = some ⟨bb, bo, none⟩ := by
    rcases hO.read with e | ⟨bb, bo, e, _⟩
    · rw [e] at hN; simp at hN; omega
    · exact ⟨bb, bo, e⟩
  subst hA
  obtain ⟨N1, hN1⟩ : ∃ N1, N = N1 + 1 := ⟨N - 1, by omega⟩
  have HNN1 := Lib.hid hN1
  have hN5 : N ≤ 2000 := by omega
  clear hN hO hb4 HB3 hN1
  have HLEN := Lib.hid hlen
  clear hlen
  go_wp2_with fail
  refine (HW.out.decode (some ⟨bb, bo, none⟩) c N b w4 HC4.out (by omega)).mono ?_
  rintro e w5 ⟨⟨rA, rn, rc, rB, rm, rd, rs⟩, rfl, hat5, hb5, _⟩
  rw [HE0.out]
  rw [HEN.out] at hat5 ⊢
  have HB5 := Lib.hid (HB4.out.trans (hb5.mono HB4.out.size))
  have HT5 := Lib.hid hat5
  have HC5 := Lib.hid (HC4.out.up hb5)
  clear hb5 hat5 HB4 HC4 HX4
  unfold ntV
  obtain ⟨D, hD⟩ : ∃ D, D = ntC x ⟨rA, rn, rc, rB, rm, rd, rs⟩ := ⟨_, rfl⟩
  unfold ntC
  have hD2 : D = #[.int .i64 x.kind, .int .i64 x.seq, .slice rA rn rc, .slice rB rm rd] := hD
  go_upto_region 8 with fail
  have HY6 := Lib.hid (NtB.new w5 32 x ⟨rA, rn, rc, rB, rm, rd, rs⟩)
  rw [← hD] at HY6
  rw [← hD2]
  clear hD hD2
  have hbn := below_new w5 (.cells D 32)
  have HB6 := Lib.hid (HB5.out.trans (hbn.mono HB5.out.size))
  have HT6 := Lib.hid (HT5.out.below hbn)
  have HC6 := Lib.hid (HC5.out.up hbn)
  clear hbn HB5 HT5 HC5
  obtain ⟨g, hg⟩ : ∃ g, g = w5.heap.size := ⟨_, rfl⟩
  rw [← hg] at HY6 ⊢
  clear hg
  generalize w5.alloc (.cells D 32) = w6 at *
  have hmx : max (0 : Int) ((N : Int) - 1) = (N1 : Int) := by have := HNN1.out; omega
  have hmc : N1 ≤ c := by have := HNN1.out; omega
  have HDT := Lib.hid (dec_take HE0.out (k := N1) (by rw [← HNL.out]; have := HNN1.out; omega))
  go_wp2_with fail
  refine (HW.out.decode (some ⟨bb, bo, none⟩) c N1 (b.take N1) w6 (HC6.out.take (.inr ⟨_, _, rfl⟩) (by have := HNN1.out; omega)) (by omega)).mono ?_
  rintro e w7 ⟨⟨sA, sn, sc, sB, sm, sd, ss⟩, rfl, hat7, hb7, _⟩
  rw [HDT.out]
  generalize decN (b.take N1) = y at *
  have HB7 := Lib.hid (HB6.out.trans (hb7.mono HB6.out.size))
  have HT7 := Lib.hid (HT6.out.below hb7)
  have HC7 := Lib.hid (HC6.out.up hb7)
  have HY7 := Lib.hid (HY6.out.below hb7)
  clear hb7 hat7 HB6 HT6 HC6 HY6 hmx
  unfold ntV
  obtain ⟨D2, hD2⟩ : ∃ D2, D2 = ntC y ⟨sA, sn, sc, sB, sm, sd, ss⟩ := ⟨_, rfl⟩
  unfold ntC at hD2 ⊢
  go_upto_region 9 with fail
  rw [← hD2]
  clear hD2
  have hbn := below_new w7 (.cells D2 32)
  have HB8 := Lib.hid (HB7.out.trans (hbn.mono HB7.out.size))
  have HT8 := Lib.hid (HT7.out.below hbn)
  have HC8 := Lib.hid (HC7.out.up hbn)
  have HY8 := Lib.hid (HY7.out.below hbn)
  clear hbn HB7 HT7 HC7 HY7
  generalize w7.alloc (.cells D2 32) = w8 at *
  go_upto_region 10 with (at_builtin; first | (refine wpList_app_row (Wr.start w8) rfl (.tmp 61) (.tmp 62) rfl rfl (some ⟨bb, bo, none⟩) b N c rfl ((HC8.out.up (below_new w8 _)).rd) HC8.out.len (by omega) ?_; intro A9 c9 w9 hw9; rw [Nat.zero_add, List.nil_append] at hw9; have HW9 := Lib.hid hw9; clear hw9) | (refine wpList_app_byte HW9.out rfl (.tmp 63) (.tmp 65) rfl rfl zc hzc rfl (by omega) ?_; intro A10 c10 w10 hw10; have HW10 := Lib.hid hw10; clear hw10))
  have HDM := Lib.hid (dec_more HE0.out (UInt8.ofNat zc))
  have HB10 := Lib.hid (HB8.out.trans (HW10.out.below.mono HB8.out.size))
  have HY10 := Lib.hid (HY8.out.below HW10.out.below)
  have HT10 := Lib.hid (HT8.out.below HW10.out.below)
  clear HW9 HC8 HB8 HT8 HY8 hmc
  go_wp2_with fail
  refine (HW.out.decode A10 c10 (N + 1) (b ++ [UInt8.ofNat zc]) w10 HW10.out.own.lies (by omega)).mono ?_
  rintro e w11 ⟨⟨qA, qn, qc, qB, qm, qd, qs⟩, rfl, hat11, hb11, _⟩
  rw [HDM.out]
  generalize decN (b ++ [UInt8.ofNat zc]) = y2 at *
  have HB11 := Lib.hid (HB10.out.trans (hb11.mono HB10.out.size))
  have HT11 := Lib.hid (HT10.out.below hb11)
  have HY11 := Lib.hid (HY10.out.below hb11)
  clear hb11 hat11 HB10 HT10 HY10
  unfold ntV
  obtain ⟨D3, hD3⟩ : ∃ D3, D3 = ntC y2 ⟨qA, qn, qc, qB, qm, qd, qs⟩ := ⟨_, rfl⟩
  unfold ntC at hD3 ⊢
  go_upto_region 11 with fail
  rw [← hD3]
  clear hD3
  have hbn := below_new w11 (.cells D3 32)
  have HBZ := Lib.hid (HB11.out.trans (hbn.mono HB11.out.size))
  have HTZ := Lib.hid (HT11.out.below hbn)
  have HYZ := Lib.hid (HY11.out.below hbn)
  clear hbn HB11 HT11 HY11
  generalize w11.alloc (.cells D3 32) = wz at *
  have HXZ := Lib.hid (HX.out.below HBZ.out)
  have HSAME := Lib.hid (fun V (hV : Since wz V) => (same_any x x ⟨rA, rn, rc, rB, rm, rd, rs⟩ ⟨A1, k1, c1, B1, l1, d1, e1⟩ V (HTZ.out.below hV) ((HN.out.below HBZ.out).below hV) ⟨by have := HSM.out.1; omega, by have := HSM.out.2.1; omega⟩).mono (fun e V' ⟨h1, h2⟩ => (⟨by rw [h1]; unfold sameB; simp, h2⟩ : e = Ending.returned (Value.bool true) ∧ Below V.heap.size V V')))
  have HSIZE := Lib.hid (fun V (hV : Since wz V) => (HW.out.size x ⟨A1, k1, c1, B1, l1, d1, e1⟩ V ((HN.out.below HBZ.out).below hV) HSM.out).mono (fun e V' ⟨h1, h2⟩ => (⟨by rw [h1, HEB.out, ← HNL.out], h2⟩ : e = Ending.returned (Value.int IntKind.i64 (N : Int)) ∧ Below V.heap.size V V')))
  have K2 := Lib.hid (fun V (hV : Since wz V) => (HXZ.out.below hV).c2)
  have K3 := Lib.hid (fun V (hV : Since wz V) => (HXZ.out.below hV).c3)
  simp only at K2 K3
  have hw1 : IntKind.i64.wrap (33 * (k1 : Int)) = 33 * (k1 : Int) := by rw [IntKind.wrap_i64]; omega
  have hw2 : IntKind.i64.wrap (11 + 33 * (k1 : Int)) = 11 + 33 * (k1 : Int) := by rw [IntKind.wrap_i64]; omega
  have hw3 : IntKind.i64.wrap (9 * (l1 : Int)) = 9 * (l1 : Int) := by rw [IntKind.wrap_i64]; omega
  have hw4 : IntKind.i64.wrap (11 + 33 * (k1 : Int) + 9 * (l1 : Int)) = 11 + 33 * (k1 : Int) + 9 * (l1 : Int) := by rw [IntKind.wrap_i64]; omega
  have hq : ((N : Int) == 11 + 33 * (k1 : Int) + 9 * (l1 : Int)) = true := by
    have := HLEN.out
    simp
    omega
  have hNN : ((N : Int) == (N : Int)) = true := beq_self_eq_true _
  refine wp_region_since (by kernel_rfl) ?_
  have hS : Since wz (World.drew wz) := (Below.refl _ _).drew
  refine wpAnyH_take (i := 0) (oi := ⟨some 72, _, _, _, _, _⟩) (v := ?_) rfl (by kernel_rfl) (by kernel_rfl) (by kernel_rfl) (fun _ _ _ h => h) (Or.inl ⟨by rfl, ?_⟩) hS ?_
  rotate_left
  · intro W hW; go_simp; with_reducible rfl
  try simp only [Act.put, List.setIfInBounds_toArray, List.set_cons_zero, List.set_cons_succ]
  refine wpAnyH_take (i := 1) (oi := ⟨some 73, _, _, _, _, _⟩) (v := ?_) rfl (by kernel_rfl) (by kernel_rfl) (by kernel_rfl) (fun _ _ _ h => h) (Or.inl ⟨by rfl, ?_⟩) hS ?_
  rotate_left
  · intro W hW; go_simp; with_reducible rfl
  try simp only [Act.put, List.setIfInBounds_toArray, List.set_cons_zero, List.set_cons_succ]
  refine wpAnyH_take (i := 2) (oi := ⟨some 74, _, _, _, _, _⟩) (v := ?_) rfl (by kernel_rfl) (by kernel_rfl) (by kernel_rfl) (fun _ _ _ h => h) (Or.inl ⟨by rfl, ?_⟩) hS ?_
  rotate_left
  · intro W hW; go_simp; with_reducible rfl
  try simp only [Act.put, List.setIfInBounds_toArray, List.set_cons_zero, List.set_cons_succ]
  refine wpAnyH_take (i := 3) (oi := ⟨some 75, _, _, _, _, _⟩) (v := ?_) rfl (by kernel_rfl) (by kernel_rfl) (by kernel_rfl) (fun _ _ _ h => h) (Or.inl ⟨by rfl, ?_⟩) hS ?_
  rotate_left
  · intro W hW; go_simp; with_reducible rfl
  try simp only [Act.put, List.setIfInBounds_toArray, List.set_cons_zero, List.set_cons_succ]
  refine wpAnyH_take (i := 4) (oi := ⟨some 76, _, _, _, _, _⟩) (v := ?_) rfl (by kernel_rfl) (by kernel_rfl) (by kernel_rfl) (fun _ _ _ h => h) (Or.inl ⟨by rfl, ?_⟩) hS ?_
  rotate_left
  · intro W hW; go_simp; with_reducible rfl
  try simp only [Act.put, List.setIfInBounds_toArray, List.set_cons_zero, List.set_cons_succ]
  refine wpAnyH_take (i := 5) (oi := ⟨some 77, _, _, _, _, _⟩) (v := ?_) rfl (by kernel_rfl) (by kernel_rfl) (by kernel_rfl) (fun _ _ _ h => h) (Or.inl ⟨by rfl, ?_⟩) hS ?_
  rotate_left
  · intro W hW; go_simp; with_reducible rfl
  try simp only [Act.put, List.setIfInBounds_toArray, List.set_cons_zero, List.set_cons_succ]
  refine wpAnyH_take (i := 6) (oi := ⟨some 78, _, _, _, _, _⟩) (v := (ntV x ⟨rA, rn, rc, rB, rm, rd, rs⟩)) rfl (by kernel_rfl) (by kernel_rfl) (by kernel_rfl) (fun _ _ _ h => h) (Or.inl ⟨by rfl, fun W hW => exec_load rfl rfl (Bk.load ty_note (HYZ.out.below hW).bk rfl)⟩) hS ?_
  try simp only [Act.put, List.setIfInBounds_toArray, List.set_cons_zero, List.set_cons_succ]
  refine wpAnyH_take (i := 8) (oi := ⟨some 80, _, _, _, _, _⟩) (v := (ntV x ⟨A1, k1, c1, B1, l1, d1, e1⟩)) rfl (by kernel_rfl) (by kernel_rfl) (by kernel_rfl) (fun _ _ _ h => h) (Or.inl ⟨by rfl, fun W hW => exec_load rfl rfl (Bk.load ty_rnote (HXZ.out.below hW).bk rfl)⟩) hS ?_
  try simp only [Act.put, List.setIfInBounds_toArray, List.set_cons_zero, List.set_cons_succ]
  refine wpAnyH_ready (rs := [7]) (by kernel_rfl) (by simp) ?_
  refine AllReadyH.cons (o := ⟨some 79, _, _, _, _, _⟩) rfl (fun Kr hKr => ?_) AllReadyH.nil
  -- operation 7: a call
  go_simp
  refine (theirs_any x ⟨rA, rn, rc, rB, rm, rd, rs⟩ _).mono ?_
  rintro e V0 ⟨rfl, hv⟩
  show Kr _ _
  refine hKr.out _ _ ?_ (fun _ => ?_)
  · exact since_trans hS hv
  clear hKr Kr
  replace hS : Since wz V0 := since_trans hS hv
  try simp only [Act.put, List.setIfInBounds_toArray, List.set_cons_zero, List.set_cons_succ]
  refine wpAnyH_ready (rs := [9]) (by kernel_rfl) (by simp) ?_
  refine AllReadyH.cons (o := ⟨some 81, _, _, _, _, _⟩) rfl (fun Kr hKr => ?_) AllReadyH.nil
  -- operation 9: a call
  go_simp
  refine (HSAME.out _ hS).mono ?_
  rintro e V1 ⟨rfl, hv⟩
  show Kr _ _
  refine hKr.out _ _ ?_ (fun _ => ?_)
  · exact since_trans hS hv
  clear hKr Kr
  replace hS : Since wz V1 := since_trans hS hv
  try simp only [Act.put, List.setIfInBounds_toArray, List.set_cons_zero, List.set_cons_succ]
  refine wpAnyH_take (i := 10) (oi := ⟨some 82, _, _, _, _, _⟩) (v := ?_) rfl (by kernel_rfl) (by kernel_rfl) (by kernel_rfl) (fun _ _ _ h => h) (Or.inl ⟨by rfl, ?_⟩) hS ?_
  rotate_left
  · intro W hW; go_simp; with_reducible rfl
  try simp only [Act.put, List.setIfInBounds_toArray, List.set_cons_zero, List.set_cons_succ]
  refine wpAnyH_take (i := 11) (oi := ⟨some 83, _, _, _, _, _⟩) (v := ?_) rfl (by kernel_rfl) (by kernel_rfl) (by kernel_rfl) (fun _ _ _ h => h) (Or.inl ⟨by rfl, ?_⟩) hS ?_
  rotate_left
  · intro W hW; go_simp; with_reducible rfl
  try simp only [Act.put, List.setIfInBounds_toArray, List.set_cons_zero, List.set_cons_succ]
  refine wpAnyH_take (i := 12) (oi := ⟨some 84, _, _, _, _, _⟩) (v := ?_) rfl (by kernel_rfl) (by kernel_rfl) (by kernel_rfl) (fun _ _ _ h => h) (Or.inl ⟨by rfl, ?_⟩) hS ?_
  rotate_left
  · intro W hW; go_simp; with_reducible rfl
  try simp only [Act.put, List.setIfInBounds_toArray, List.set_cons_zero, List.set_cons_succ]
  refine wpAnyH_take (i := 13) (oi := ⟨some 85, _, _, _, _, _⟩) (v := ?_) rfl (by kernel_rfl) (by kernel_rfl) (by kernel_rfl) (fun _ _ _ h => h) (Or.inl ⟨by rfl, ?_⟩) hS ?_
  rotate_left
  · intro W hW; go_simp; with_reducible rfl
  try simp only [Act.put, List.setIfInBounds_toArray, List.set_cons_zero, List.set_cons_succ]
  refine wpAnyH_take (i := 14) (oi := ⟨some 86, _, _, _, _, _⟩) (v := ?_) rfl (by kernel_rfl) (by kernel_rfl) (by kernel_rfl) (fun _ _ _ h => h) (Or.inl ⟨by rfl, ?_⟩) hS ?_
  rotate_left
  · intro W hW; go_simp; with_reducible rfl
  try simp only [Act.put, List.setIfInBounds_toArray, List.set_cons_zero, List.set_cons_succ]
  refine wpAnyH_take (i := 15) (oi := ⟨some 87, _, _, _, _, _⟩) (v := ?_) rfl (by kernel_rfl) (by kernel_rfl) (by kernel_rfl) (fun _ _ _ h => h) (Or.inl ⟨by rfl, ?_⟩) hS ?_
  rotate_left
  · intro W hW; go_simp; with_reducible rfl
  try simp only [Act.put, List.setIfInBounds_toArray, List.set_cons_zero, List.set_cons_succ]
  refine wpAnyH_take (i := 16) (oi := ⟨some 88, _, _, _, _, _⟩) (v := ?_) rfl (by kernel_rfl) (by kernel_rfl) (by kernel_rfl) (fun _ _ _ h => h) (Or.inl ⟨by rfl, ?_⟩) hS ?_
  rotate_left
  · intro W hW; go_simp; with_reducible rfl
  try simp only [Act.put, List.setIfInBounds_toArray, List.set_cons_zero, List.set_cons_succ]
  refine wpAnyH_take (i := 17) (oi := ⟨some 89, _, _, _, _, _⟩) (v := ?_) rfl (by kernel_rfl) (by kernel_rfl) (by kernel_rfl) (fun _ _ _ h => h) (Or.inl ⟨by rfl, ?_⟩) hS ?_
  rotate_left
  · intro W hW; go_simp; with_reducible rfl
  try simp only [Act.put, List.setIfInBounds_toArray, List.set_cons_zero, List.set_cons_succ]
  refine wpAnyH_take (i := 18) (oi := ⟨some 90, _, _, _, _, _⟩) (v := ?_) rfl (by kernel_rfl) (by kernel_rfl) (by kernel_rfl) (fun _ _ _ h => h) (Or.inl ⟨by rfl, ?_⟩) hS ?_
  rotate_left
  · intro W hW; go_simp; with_reducible rfl
  try simp only [Act.put, List.setIfInBounds_toArray, List.set_cons_zero, List.set_cons_succ]
  refine wpAnyH_take (i := 19) (oi := ⟨some 91, _, _, _, _, _⟩) (v := ?_) rfl (by kernel_rfl) (by kernel_rfl) (by kernel_rfl) (fun _ _ _ h => h) (Or.inl ⟨by rfl, ?_⟩) hS ?_
  rotate_left
  · intro W hW; go_simp; with_reducible rfl
  try simp only [Act.put, List.setIfInBounds_toArray, List.set_cons_zero, List.set_cons_succ]
  refine wpAnyH_take (i := 20) (oi := ⟨some 92, _, _, _, _, _⟩) (v := ?_) rfl (by kernel_rfl) (by kernel_rfl) (by kernel_rfl) (fun _ _ _ h => h) (Or.inl ⟨by rfl, ?_⟩) hS ?_
  rotate_left
  · intro W hW; go_simp; with_reducible rfl
  try simp only [Act.put, List.setIfInBounds_toArray, List.set_cons_zero, List.set_cons_succ]
  refine wpAnyH_take (i := 21) (oi := ⟨some 93, _, _, _, _, _⟩) (v := ?_) rfl (by kernel_rfl) (by kernel_rfl) (by kernel_rfl) (fun _ _ _ h => h) (Or.inl ⟨by rfl, ?_⟩) hS ?_
  rotate_left
  · intro W hW; go_simp; with_reducible rfl
  try simp only [Act.put, List.setIfInBounds_toArray, List.set_cons_zero, List.set_cons_succ]
  refine wpAnyH_take (i := 22) (oi := ⟨some 94, _, _, _, _, _⟩) (v := (ntV x ⟨A1, k1, c1, B1, l1, d1, e1⟩)) rfl (by kernel_rfl) (by kernel_rfl) (by kernel_rfl) (fun _ _ _ h => h) (Or.inl ⟨by rfl, fun W hW => exec_load rfl rfl (Bk.load ty_rnote (HXZ.out.below hW).bk rfl)⟩) hS ?_
  try simp only [Act.put, List.setIfInBounds_toArray, List.set_cons_zero, List.set_cons_succ]
  refine wpAnyH_ready (rs := [23]) (by kernel_rfl) (by simp) ?_
  refine AllReadyH.cons (o := ⟨some 95, _, _, _, _, _⟩) rfl (fun Kr hKr => ?_) AllReadyH.nil
  -- operation 23: a call
  go_simp
  refine (ours_any x ⟨A1, k1, c1, B1, l1, d1, e1⟩ _).mono ?_
  rintro e V2 ⟨rfl, hv⟩
  show Kr _ _
  refine hKr.out _ _ ?_ (fun _ => ?_)
  · exact since_trans hS hv
  clear hKr Kr
  replace hS : Since wz V2 := since_trans hS hv
  try simp only [Act.put, List.setIfInBounds_toArray, List.set_cons_zero, List.set_cons_succ]
  refine wpAnyH_ready (rs := [24]) (by kernel_rfl) (by simp) ?_
  refine AllReadyH.cons (o := ⟨some 96, _, _, _, _, _⟩) rfl (fun Kr hKr => ?_) AllReadyH.nil
  -- operation 24: a call
  go_simp
  refine (HSIZE.out _ hS).mono ?_
  rintro e V3 ⟨rfl, hv⟩
  show Kr _ _
  refine hKr.out _ _ ?_ (fun _ => ?_)
  · exact since_trans hS hv
  clear hKr Kr
  replace hS : Since wz V3 := since_trans hS hv
  try simp only [Act.put, List.setIfInBounds_toArray, List.set_cons_zero, List.set_cons_succ]
  refine wpAnyH_take (i := 25) (oi := ⟨some 97, _, _, _, _, _⟩) (v := ?_) rfl (by kernel_rfl) (by kernel_rfl) (by kernel_rfl) (fun _ _ _ h => h) (Or.inl ⟨by rfl, ?_⟩) hS ?_
  rotate_left
  · intro W hW; go_simp; with_reducible rfl
  try simp only [Act.put, List.setIfInBounds_toArray, List.set_cons_zero, List.set_cons_succ]
  refine wpAnyH_take (i := 26) (oi := ⟨some 98, _, _, _, _, _⟩) (v := ?_) rfl (by kernel_rfl) (by kernel_rfl) (by kernel_rfl) (fun _ _ _ h => h) (Or.inl ⟨by rfl, ?_⟩) hS ?_
  rotate_left
  · intro W hW; go_simp; with_reducible rfl
  try simp only [Act.put, List.setIfInBounds_toArray, List.set_cons_zero, List.set_cons_succ]
  refine wpAnyH_take (i := 27) (oi := ⟨some 99, _, _, _, _, _⟩) (v := ?_) rfl (by kernel_rfl) (by kernel_rfl) (by kernel_rfl) (fun _ _ _ h => h) (Or.inl ⟨by rfl, ?_⟩) hS ?_
  rotate_left
  · intro W hW; go_simp; with_reducible rfl
  try simp only [Act.put, List.setIfInBounds_toArray, List.set_cons_zero, List.set_cons_succ]
  refine wpAnyH_take (i := 28) (oi := ⟨some 100, _, _, _, _, _⟩) (v := ?_) rfl (by kernel_rfl) (by kernel_rfl) (by kernel_rfl) (fun _ _ _ h => h) (Or.inl ⟨by rfl, ?_⟩) hS ?_
  rotate_left
  · intro W hW; go_simp; with_reducible rfl
  try simp only [Act.put, List.setIfInBounds_toArray, List.set_cons_zero, List.set_cons_succ]
  refine wpAnyH_take (i := 29) (oi := ⟨some 101, _, _, _, _, _⟩) (v := ?_) rfl (by kernel_rfl) (by kernel_rfl) (by kernel_rfl) (fun _ _ _ h => h) (Or.inl ⟨by rfl, ?_⟩) hS ?_
  rotate_left
  · intro W hW; go_simp; with_reducible rfl
  try simp only [Act.put, List.setIfInBounds_toArray, List.set_cons_zero, List.set_cons_succ]
  refine wpAnyH_take (i := 30) (oi := ⟨some 102, _, _, _, _, _⟩) (v := ?_) rfl (by kernel_rfl) (by kernel_rfl) (by kernel_rfl) (fun _ _ _ h => h) (Or.inl ⟨by rfl, ?_⟩) hS ?_
  rotate_left
  · intro W hW; go_simp; with_reducible rfl
  try simp only [Act.put, List.setIfInBounds_toArray, List.set_cons_zero, List.set_cons_succ]
  refine wpAnyH_take (i := 31) (oi := ⟨some 103, _, _, _, _, _⟩) (v := ?_) rfl (by kernel_rfl) (by kernel_rfl) (by kernel_rfl) (fun _ _ _ h => h) (Or.inl ⟨by rfl, ?_⟩) hS ?_
  rotate_left
  · intro W hW
    have q0 := K2.out W hW
    go_simp
    with_reducible rfl
  try simp only [Act.put, List.setIfInBounds_toArray, List.set_cons_zero, List.set_cons_succ]
  refine wpAnyH_take (i := 32) (oi := ⟨some 104, _, _, _, _, _⟩) (v := ?_) rfl (by kernel_rfl) (by kernel_rfl) (by kernel_rfl) (fun _ _ _ h => h) (Or.inl ⟨by rfl, ?_⟩) hS ?_
  rotate_left
  · intro W hW; go_simp; with_reducible rfl
  try simp only [Act.put, List.setIfInBounds_toArray, List.set_cons_zero, List.set_cons_succ]
  refine wpAnyH_take (i := 33) (oi := ⟨some 105, _, _, _, _, _⟩) (v := ?_) rfl (by kernel_rfl) (by kernel_rfl) (by kernel_rfl) (fun _ _ _ h => h) (Or.inl ⟨by rfl, ?_⟩) hS ?_
  rotate_left
  · intro W hW; go_simp; with_reducible rfl
  try simp only [Act.put, List.setIfInBounds_toArray, List.set_cons_zero, List.set_cons_succ]
  refine wpAnyH_take (i := 34) (oi := ⟨some 106, _, _, _, _, _⟩) (v := ?_) rfl (by kernel_rfl) (by kernel_rfl) (by kernel_rfl) (fun _ _ _ h => h) (Or.inl ⟨by rfl, ?_⟩) hS ?_
  rotate_left
  · intro W hW; go_simp; with_reducible rfl
  try simp only [Act.put, List.setIfInBounds_toArray, List.set_cons_zero, List.set_cons_succ]
  refine wpAnyH_take (i := 35) (oi := ⟨some 107, _, _, _, _, _⟩) (v := ?_) rfl (by kernel_rfl) (by kernel_rfl) (by kernel_rfl) (fun _ _ _ h => h) (Or.inl ⟨by rfl, ?_⟩) hS ?_
  rotate_left
  · intro W hW; go_simp; with_reducible rfl
  try simp only [Act.put, List.setIfInBounds_toArray, List.set_cons_zero, List.set_cons_succ]
  refine wpAnyH_take (i := 36) (oi := ⟨some 108, _, _, _, _, _⟩) (v := ?_) rfl (by kernel_rfl) (by kernel_rfl) (by kernel_rfl) (fun _ _ _ h => h) (Or.inl ⟨by rfl, ?_⟩) hS ?_
  rotate_left
  · intro W hW
    have q0 := K3.out W hW
    go_simp
    with_reducible rfl
  try simp only [Act.put, List.setIfInBounds_toArray, List.set_cons_zero, List.set_cons_succ]
  refine wpAnyH_take (i := 37) (oi := ⟨some 109, _, _, _, _, _⟩) (v := ?_) rfl (by kernel_rfl) (by kernel_rfl) (by kernel_rfl) (fun _ _ _ h => h) (Or.inl ⟨by rfl, ?_⟩) hS ?_
  rotate_left
  · intro W hW; go_simp; with_reducible rfl
  try simp only [Act.put, List.setIfInBounds_toArray, List.set_cons_zero, List.set_cons_succ]
  refine wpAnyH_take (i := 38) (oi := ⟨some 110, _, _, _, _, _⟩) (v := ?_) rfl (by kernel_rfl) (by kernel_rfl) (by kernel_rfl) (fun _ _ _ h => h) (Or.inl ⟨by rfl, ?_⟩) hS ?_
  rotate_left
  · intro W hW; go_simp; with_reducible rfl
  try simp only [Act.put, List.setIfInBounds_toArray, List.set_cons_zero, List.set_cons_succ]
  refine wpAnyH_take (i := 39) (oi := ⟨some 111, _, _, _, _, _⟩) (v := ?_) rfl (by kernel_rfl) (by kernel_rfl) (by kernel_rfl) (fun _ _ _ h => h) (Or.inl ⟨by rfl, ?_⟩) hS ?_
  rotate_left
  · intro W hW; go_simp; with_reducible rfl
  try simp only [Act.put, List.setIfInBounds_toArray, List.set_cons_zero, List.set_cons_succ]
  refine wpAnyH_take (i := 40) (oi := ⟨some 112, _, _, _, _, _⟩) (v := ?_) rfl (by kernel_rfl) (by kernel_rfl) (by kernel_rfl) (fun _ _ _ h => h) (Or.inl ⟨by rfl, ?_⟩) hS ?_
  rotate_left
  · intro W hW; go_simp; with_reducible rfl
  try simp only [Act.put, List.setIfInBounds_toArray, List.set_cons_zero, List.set_cons_succ]
  refine wpAnyH_take (i := 41) (oi := ⟨some 113, _, _, _, _, _⟩) (v := ?_) rfl (by kernel_rfl) (by kernel_rfl) (by kernel_rfl) (fun _ _ _ h => h) (Or.inl ⟨by rfl, ?_⟩) hS ?_
  rotate_left
  · intro W hW; go_simp; with_reducible rfl
  try simp only [Act.put, List.setIfInBounds_toArray, List.set_cons_zero, List.set_cons_succ]
  refine wpAnyH_take (i := 42) (oi := ⟨some 4, _, _, _, _, _⟩) (v := ?_) rfl (by kernel_rfl) (by kernel_rfl) (by kernel_rfl) (fun _ _ _ h => h) (Or.inl ⟨by rfl, ?_⟩) hS ?_
  rotate_left
  · intro W hW; go_simp; with_reducible rfl
  try simp only [Act.put, List.setIfInBounds_toArray, List.set_cons_zero, List.set_cons_succ]
  refine wpAnyH_done (by kernel_rfl) ?_ _
  have HBE := Lib.hid (HBZ.out.trans (Below.mono hS HBZ.out.size))
  clear hS
  go_wp2_with fail
  go_ret
  exact ⟨rfl, HB.out.trans (HBE.out.mono HB.out.size)⟩

end Go.Proofs.Ytjpnihmijnpjcaa
