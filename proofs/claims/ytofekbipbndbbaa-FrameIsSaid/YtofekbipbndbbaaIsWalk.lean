/-
  FrameIs: the walk: any piece's sector, any bytes' piece, any record's sectors and what any sectors hold: the program and the document answer alike.
-/
import Derived.Test.YtofekbipbndbbaaBackWalk
namespace Go.Proofs.Ytofekbipbndbbaa
open Go.RowKit Crc Wm

theorem cutL_len (ep at_ : Int) (b : List UInt8) : (cutL ep at_ b).length ≤ 1024 := by
  unfold cutL
  split
  · next h => rw [length_cutAll]; exact (cut_ok h).1
  · simp

set_option maxHeartbeats 8000000 in
set_option maxRecDepth 100000 in
theorem is_walk (q : Pv) (D : List UInt8) (A : Option Addr) (c L : Nat) (b : List UInt8) (Al : Option Addr) (cl m : Nat) (ls : List (List UInt8)) (ep at_ : Int) (w : World) (hq : Lies w q.ad q.c q.n D) (hl : Lies w A c L b) (hL : L ≤ 140737488351232) (HM : Hid (ls.length = m)) (hls : Ls w Al ls)
    (_he : -9223372036854775808 ≤ ep ∧ ep ≤ 9223372036854775807) (ha : -9223372036854775808 ≤ at_ ∧ at_ ≤ 9223372036854775807) : Calls Try.prog 3 #[pvV q, .slice A L c, .slice Al m cl, .int .i64 ep, .int .i64 at_] w fun e w' => e = .returned (.bool true) ∧ Below w.heap.size w w' := by
  have HQ := Lib.hid (Bp.new w q 24)
  have HB := Lib.hid (below_new w (.cells (pvC q) 24))
  have HLI := Lib.hid (hl.up HB.out)
  have HD := Lib.hid (hq.up HB.out)
  have HLS := Lib.hid (hls.up HB.out)
  clear hl hq hls
  obtain ⟨E, PA, I, C, ad, n, cq⟩ := q
  simp only at HD
  by_cases hb1 : 200 < n
  · have hd : decide ((n : Int) > 200) = true := decide_eq_true (by omega)
    go_enter Try.func3, Try.ntmps3
    go_wp2_with fail
    refine (awake_any _).mono ?_
    rintro e w0 ⟨rfl, hb⟩
    replace HQ := Lib.hid (HQ.out.below hb)
    replace HB := Lib.hid (below_two HB.out hb)
    have q4 := HQ.out.c4
    simp only at q4
    clear hb
    go_wp2_with fail
    go_ret
    exact ⟨rfl, HB.out⟩
  have hd1 : decide ((n : Int) > 200) = false := decide_eq_false (by omega)
  by_cases hb2 : 600 < L
  · have hd : decide ((L : Int) > 600) = true := decide_eq_true (by omega)
    go_enter Try.func3, Try.ntmps3
    go_wp2_with fail
    refine (awake_any _).mono ?_
    rintro e w0 ⟨rfl, hb⟩
    replace HQ := Lib.hid (HQ.out.below hb)
    replace HB := Lib.hid (below_two HB.out hb)
    have q4 := HQ.out.c4
    simp only at q4
    clear hb
    go_wp2_with fail
    go_ret
    exact ⟨rfl, HB.out⟩
  have hd2 : decide ((L : Int) > 600) = false := decide_eq_false (by omega)
  have hn200 : n ≤ 200 := by omega
  have hL600 : L ≤ 600 := by omega
  clear hb1 hb2 hL
  cases hf : few ls with
  | false =>
    go_enter Try.func3, Try.ntmps3
    go_wp2_with fail
    refine (awake_any _).mono ?_
    rintro e w0 ⟨rfl, hb⟩
    replace HQ := Lib.hid (HQ.out.below hb)
    replace HB := Lib.hid (below_two HB.out hb)
    replace HLS := Lib.hid (HLS.out.up hb)
    have q4 := HQ.out.c4
    simp only at q4
    clear hb
    go_wp2_with fail
    refine (small_any Al cl m ls HM w0 HLS.out).mono ?_
    rintro e w1 ⟨rfl, hw⟩
    subst hw
    rw [hf]
    go_wp2_with fail
    go_ret
    exact ⟨rfl, HB.out⟩
  | true =>
  obtain ⟨hm30, hm200⟩ := few_small hf
  rw [HM.out] at hm30
  have HM2 : Hid (∀ x ∈ ls, x.length ≤ 1000000) := Lib.hid (fun x hx => by have := hm200 x hx; omega)
  have HFW := Lib.hid hf
  clear hm200 hf
  obtain ⟨Z, hZ, hz⟩ := low ep 1048575 20 (by decide) (by omega)
  have hZ2 : Z < 1048576 := hZ
  clear hZ
  have HN1 := Lib.hid (need_any L (by omega) (by omega))
  have HN2 := Lib.hid (refneed_any L (by omega) (by omega))
  have HN3 := Lib.hid (need_any Z (by omega) (by omega))
  have HN4 := Lib.hid (refneed_any Z (by omega) (by omega))
  generalize need L = NL at *
  generalize need Z = NZ at *
  have HCL := Lib.hid (cutL_len ep at_ b)
  have HWR := Lib.hid (fun W (hW : Lies W ad cq n D) => write_any ⟨E, PA, I, C, ad, n, cq⟩ D W hW (by show n ≤ _; omega))
  have HRW := Lib.hid (fun W (hW : Lies W ad cq n D) => refwrite_any ⟨E, PA, I, C, ad, n, cq⟩ D W hW (by show n ≤ _; omega))
  have HRE := Lib.hid (fun W (hW : Lies W A c L b) => read_any A c L b W hW (by omega))
  have HRR := Lib.hid (fun W (hW : Lies W A c L b) => refread_any A c L b W hW (by omega))
  have HCU := Lib.hid (fun W (hW : Lies W A c L b) => cut_any ep at_ ha.1 ha.2 A c L b W hW (by omega))
  have HRC := Lib.hid (fun W (hW : Lies W A c L b) => refcut_any ep at_ ha.1 ha.2 A c L b W hW (by omega))
  have HGA := Lib.hid (fun W (hW : Ls W Al ls) => gather_any Al cl m ls HM (by omega) HM2 at_ ha.1 ha.2 W hW)
  have HRG := Lib.hid (fun W (hW : Ls W Al ls) => refgather_any Al cl m ls HM (by omega) HM2 at_ ha.1 ha.2 W hW)
  obtain ⟨WE, hWE⟩ : ∃ x, (Pv.pc ⟨E, PA, I, C, ad, n, cq⟩ D).writeE = x := ⟨_, rfl⟩
  obtain ⟨WB, hWB⟩ : ∃ x, (Pv.pc ⟨E, PA, I, C, ad, n, cq⟩ D).writeB = x := ⟨_, rfl⟩
  rw [hWE, hWB] at HWR HRW
  clear hWE hWB
  generalize readP b = rp at *
  generalize readE b = RE at *
  generalize cutL ep at_ b = CL at *
  generalize cutE ep at_ b = CE at *
  generalize gatB ls at_ = GB at *
  generalize gatEp ls at_ = GP at *
  generalize gatC ls at_ = GC at *
  generalize gatE ls at_ = GE at *
  obtain ⟨RPE, RPA, RPI, RPC, RPD⟩ := rp
  go_enter Try.func3, Try.ntmps3
  go_wp2_with fail
  refine (awake_any _).mono ?_
  rintro e w0 ⟨rfl, hb⟩
  replace HQ := Lib.hid (HQ.out.below hb)
  replace HLI := Lib.hid (HLI.out.up hb)
  replace HD := Lib.hid (HD.out.up hb)
  replace HLS := Lib.hid (HLS.out.up hb)
  replace HB := Lib.hid (below_two HB.out hb)
  clear hb
  have q4 := HQ.out.c4
  simp only at q4
  go_wp2_with fail
  refine (small_any Al cl m ls HM w0 HLS.out).mono ?_
  rintro e w0' ⟨rfl, hw⟩
  subst hw
  rw [HFW.out]
  clear hd1 hd2 q4
  have q0 := HQ.out.c0
  have q1 := HQ.out.c1
  have q2 := HQ.out.c2
  have q3 := HQ.out.c3
  have q4 := HQ.out.c4
  simp only at q0 q1 q2 q3 q4
  go_wp2_with fail
  refine (ours_any ⟨E, PA, I, C, ad, n, cq⟩ w0).mono ?_
  rintro e w1 ⟨rfl, hb⟩
  replace HQ := Lib.hid (HQ.out.below hb)
  replace HLI := Lib.hid (HLI.out.up hb)
  replace HD := Lib.hid (HD.out.up hb)
  replace HLS := Lib.hid (HLS.out.up hb)
  replace HB := Lib.hid (below_two HB.out hb)
  clear hb q0 q1 q2 q3 q4
  go_wp2_with fail
  refine (HWR.out w1 HD.out).mono ?_
  rintro e w2 ⟨A1, n1, c1, rfl, ho, hb⟩
  replace HQ := Lib.hid (HQ.out.below hb)
  replace HLI := Lib.hid (HLI.out.up hb)
  replace HD := Lib.hid (HD.out.up hb)
  replace HLS := Lib.hid (HLS.out.up hb)
  replace HB := Lib.hid (below_two HB.out hb)
  have HX := Lib.hid ho.lies
  clear ho hb HWR
  have q0 := HQ.out.c0
  have q1 := HQ.out.c1
  have q2 := HQ.out.c2
  have q3 := HQ.out.c3
  have q4 := HQ.out.c4
  simp only at q0 q1 q2 q3 q4
  go_wp2_with fail
  refine (HRW.out w2 HD.out).mono ?_
  rintro e w3 ⟨A2, n2, c2, rfl, ho, hb⟩
  replace HQ := Lib.hid (HQ.out.below hb)
  replace HLI := Lib.hid (HLI.out.up hb)
  replace HD := Lib.hid (HD.out.up hb)
  replace HLS := Lib.hid (HLS.out.up hb)
  replace HX := Lib.hid (HX.out.up hb)
  replace HB := Lib.hid (below_two HB.out hb)
  have HY := Lib.hid ho.lies
  clear ho hb HRW q0 q1 q2 q3 q4
  go_wp2_with fail
  refine (HRE.out w3 HLI.out).mono ?_
  rintro e w4 ⟨A3, n3, c3, rfl, ho, hb⟩
  simp only at ho ⊢
  replace HLI := Lib.hid (HLI.out.up hb)
  replace HLS := Lib.hid (HLS.out.up hb)
  replace HX := Lib.hid (HX.out.up hb)
  replace HY := Lib.hid (HY.out.up hb)
  replace HB := Lib.hid (below_two HB.out hb)
  have HU := Lib.hid ho.lies
  have hb2 := below_new w4 (.cells (pvC ⟨RPE, RPA, RPI, RPC, A3, n3, c3⟩) 31)
  replace HLI := Lib.hid (HLI.out.up hb2)
  replace HLS := Lib.hid (HLS.out.up hb2)
  replace HX := Lib.hid (HX.out.up hb2)
  replace HY := Lib.hid (HY.out.up hb2)
  replace HU := Lib.hid (HU.out.up hb2)
  replace HB := Lib.hid (below_two HB.out hb2)
  have HBU := Lib.hid (Bp.new w4 ⟨RPE, RPA, RPI, RPC, A3, n3, c3⟩ 31)
  clear ho hb hb2 HRE
  go_wp2_with fail
  refine (HRR.out _ HLI.out).mono ?_
  rintro e w5 ⟨A4, n4, c4, rfl, ho, hb⟩
  simp only at ho ⊢
  replace HLI := Lib.hid (HLI.out.up hb)
  replace HLS := Lib.hid (HLS.out.up hb)
  replace HX := Lib.hid (HX.out.up hb)
  replace HY := Lib.hid (HY.out.up hb)
  replace HU := Lib.hid (HU.out.up hb)
  replace HBU := Lib.hid (HBU.out.below hb)
  replace HB := Lib.hid (below_two HB.out hb)
  have HV := Lib.hid ho.lies
  have hb2 := below_new w5 (.cells (pvC ⟨RPE, RPA, RPI, RPC, A4, n4, c4⟩) 24)
  replace HLI := Lib.hid (HLI.out.up hb2)
  replace HLS := Lib.hid (HLS.out.up hb2)
  replace HX := Lib.hid (HX.out.up hb2)
  replace HY := Lib.hid (HY.out.up hb2)
  replace HU := Lib.hid (HU.out.up hb2)
  replace HBU := Lib.hid (HBU.out.below hb2)
  replace HV := Lib.hid (HV.out.up hb2)
  replace HB := Lib.hid (below_two HB.out hb2)
  have HBV := Lib.hid (Bp.new w5 ⟨RPE, RPA, RPI, RPC, A4, n4, c4⟩ 24)
  clear ho hb hb2 HRR
  go_wp2_with fail
  refine (HCU.out _ HLI.out).mono ?_
  rintro e w6 ⟨A5, n5, c5, rfl, hn5, hl5, _, hb⟩
  replace HLI := Lib.hid (HLI.out.up hb)
  replace HLS := Lib.hid (HLS.out.up hb)
  replace HX := Lib.hid (HX.out.up hb)
  replace HY := Lib.hid (HY.out.up hb)
  replace HU := Lib.hid (HU.out.up hb)
  replace HBU := Lib.hid (HBU.out.below hb)
  replace HV := Lib.hid (HV.out.up hb)
  replace HBV := Lib.hid (HBV.out.below hb)
  replace HB := Lib.hid (below_two HB.out hb)
  have HC5 := Lib.hid hl5
  have HN5 := Lib.hid hn5
  clear hn5 hl5 hb HCU
  go_wp2_with fail
  refine (HRC.out _ HLI.out).mono ?_
  rintro e w7 ⟨A6, n6, c6, rfl, hn6, hl6, _, hb⟩
  obtain rfl : n6 = n5 := by rw [hn6, HN5.out]
  replace HLI := Lib.hid (HLI.out.up hb)
  replace HLS := Lib.hid (HLS.out.up hb)
  replace HX := Lib.hid (HX.out.up hb)
  replace HY := Lib.hid (HY.out.up hb)
  replace HU := Lib.hid (HU.out.up hb)
  replace HBU := Lib.hid (HBU.out.below hb)
  replace HV := Lib.hid (HV.out.up hb)
  replace HBV := Lib.hid (HBV.out.below hb)
  replace HC5 := Lib.hid (HC5.out.up hb)
  replace HB := Lib.hid (below_two HB.out hb)
  have HC6 := Lib.hid hl6
  clear hn6 hl6 hb HRC
  go_wp2_with fail
  refine (HGA.out _ HLS.out).mono ?_
  rintro e w8 ⟨A7, n7, c7, rfl, ho, hb⟩
  replace HLI := Lib.hid (HLI.out.up hb)
  replace HLS := Lib.hid (HLS.out.up hb)
  replace HX := Lib.hid (HX.out.up hb)
  replace HY := Lib.hid (HY.out.up hb)
  replace HU := Lib.hid (HU.out.up hb)
  replace HBU := Lib.hid (HBU.out.below hb)
  replace HV := Lib.hid (HV.out.up hb)
  replace HBV := Lib.hid (HBV.out.below hb)
  replace HC5 := Lib.hid (HC5.out.up hb)
  replace HC6 := Lib.hid (HC6.out.up hb)
  replace HB := Lib.hid (below_two HB.out hb)
  have HG7 := Lib.hid ho.lies
  clear ho hb HGA
  go_wp2_with fail
  refine (HRG.out _ HLS.out).mono ?_
  rintro e w9 ⟨A8, n8, c8, rfl, ho, hb⟩
  replace HLI := Lib.hid (HLI.out.up hb)
  replace HLS := Lib.hid (HLS.out.up hb)
  replace HX := Lib.hid (HX.out.up hb)
  replace HY := Lib.hid (HY.out.up hb)
  replace HU := Lib.hid (HU.out.up hb)
  replace HBU := Lib.hid (HBU.out.below hb)
  replace HV := Lib.hid (HV.out.up hb)
  replace HBV := Lib.hid (HBV.out.below hb)
  replace HC5 := Lib.hid (HC5.out.up hb)
  replace HC6 := Lib.hid (HC6.out.up hb)
  replace HG7 := Lib.hid (HG7.out.up hb)
  replace HB := Lib.hid (below_two HB.out hb)
  have HG8 := Lib.hid ho.lies
  clear ho hb HRG
  have k1 : ∀ V, Since w9 V → _ := fun V hV => (HX.out.up hV).conv
  have k2 : ∀ V, Since w9 V → _ := fun V hV => (HY.out.up hV).conv
  have k3 : ∀ V, Since w9 V → _ := fun V hV => (HG7.out.up hV).conv
  have k4 : ∀ V, Since w9 V → _ := fun V hV => (HG8.out.up hV).conv
  have u0 : ∀ V, Since w9 V → V.cell? ⟨w4.heap.size, 0, none⟩ = some (.int .i64 RPE) := fun V hV => (HBU.out.below hV).c0
  have u1 : ∀ V, Since w9 V → V.cell? ⟨w4.heap.size, 1, none⟩ = some (.int .i64 RPA) := fun V hV => (HBU.out.below hV).c1
  have u2 : ∀ V, Since w9 V → V.cell? ⟨w4.heap.size, 2, none⟩ = some (.int .i64 RPI) := fun V hV => (HBU.out.below hV).c2
  have u3 : ∀ V, Since w9 V → V.cell? ⟨w4.heap.size, 3, none⟩ = some (.int .i64 RPC) := fun V hV => (HBU.out.below hV).c3
  have u4 : ∀ V, Since w9 V → V.cell? ⟨w4.heap.size, 4, none⟩ = some (.slice A3 n3 c3) := fun V hV => (HBU.out.below hV).c4
  have v0 : ∀ V, Since w9 V → V.cell? ⟨w5.heap.size, 0, none⟩ = some (.int .i64 RPE) := fun V hV => (HBV.out.below hV).c0
  have v1 : ∀ V, Since w9 V → V.cell? ⟨w5.heap.size, 1, none⟩ = some (.int .i64 RPA) := fun V hV => (HBV.out.below hV).c1
  have v2 : ∀ V, Since w9 V → V.cell? ⟨w5.heap.size, 2, none⟩ = some (.int .i64 RPI) := fun V hV => (HBV.out.below hV).c2
  have v3 : ∀ V, Since w9 V → V.cell? ⟨w5.heap.size, 3, none⟩ = some (.int .i64 RPC) := fun V hV => (HBV.out.below hV).c3
  have v4 : ∀ V, Since w9 V → V.cell? ⟨w5.heap.size, 4, none⟩ = some (.slice A4 n4 c4) := fun V hV => (HBV.out.below hV).c4
  have hb1 := fun W => (HN1.out W).mono fun e w' (h : e = .returned (.int .i64 NL) ∧ W = w') => (show e = .returned (.int .i64 NL) ∧ Below W.heap.size W w' from ⟨h.1, h.2 ▸ Below.refl _ _⟩)
  replace HN1 := Lib.hid hb1
  clear hb1
  have hb2 := fun W => (HN2.out W).mono fun e w' (h : e = .returned (.int .i64 NL) ∧ W = w') => (show e = .returned (.int .i64 NL) ∧ Below W.heap.size W w' from ⟨h.1, h.2 ▸ Below.refl _ _⟩)
  replace HN2 := Lib.hid hb2
  clear hb2
  have hb3 := fun W => (HN3.out W).mono fun e w' (h : e = .returned (.int .i64 NZ) ∧ W = w') => (show e = .returned (.int .i64 NZ) ∧ Below W.heap.size W w' from ⟨h.1, h.2 ▸ Below.refl _ _⟩)
  replace HN3 := Lib.hid hb3
  clear hb3
  have hb4 := fun W => (HN4.out W).mono fun e w' (h : e = .returned (.int .i64 NZ) ∧ W = w') => (show e = .returned (.int .i64 NZ) ∧ Below W.heap.size W w' from ⟨h.1, h.2 ▸ Below.refl _ _⟩)
  replace HN4 := Lib.hid hb4
  clear hb4
  go_wp2_with fail
  refine wp_region_since (by kernel_rfl) ?_
  have hS : Since w9 (World.drew w9) := (Below.refl _ _).drew
  refine wpAnyH_take (i := 0) (oi := ⟨some 99, _, _, _, _, _⟩) (v := ?_) rfl (by kernel_rfl) (by kernel_rfl) (by kernel_rfl) (fun _ _ _ h => h) (Or.inl ⟨by rfl, ?_⟩) hS ?_
  rotate_left
  · intro W hW; go_simp; with_reducible rfl
  try simp only [Act.put, List.setIfInBounds_toArray, List.set_cons_zero, List.set_cons_succ]
  refine wpAnyH_take (i := 1) (oi := ⟨some 100, _, _, _, _, _⟩) (v := ?_) rfl (by kernel_rfl) (by kernel_rfl) (by kernel_rfl) (fun _ _ _ h => h) (Or.inl ⟨by rfl, ?_⟩) hS ?_
  rotate_left
  · intro W hW; go_simp; with_reducible rfl
  try simp only [Act.put, List.setIfInBounds_toArray, List.set_cons_zero, List.set_cons_succ]
  refine wpAnyH_take (i := 2) (oi := ⟨some 101, _, _, _, _, _⟩) (v := ?_) rfl (by kernel_rfl) (by kernel_rfl) (by kernel_rfl) (fun _ _ _ h => h) (Or.inl ⟨by rfl, ?_⟩) hS ?_
  rotate_left
  · intro W hW; go_simp; with_reducible rfl
  try simp only [Act.put, List.setIfInBounds_toArray, List.set_cons_zero, List.set_cons_succ]
  refine wpAnyH_take (i := 3) (oi := ⟨some 102, _, _, _, _, _⟩) (v := ?_) rfl (by kernel_rfl) (by kernel_rfl) (by kernel_rfl) (fun _ _ _ h => h) (Or.inl ⟨by rfl, ?_⟩) hS ?_
  rotate_left
  · intro W hW; go_simp; with_reducible rfl
  try simp only [Act.put, List.setIfInBounds_toArray, List.set_cons_zero, List.set_cons_succ]
  refine wpAnyH_take (i := 4) (oi := ⟨some 103, _, _, _, _, _⟩) (v := ?_) rfl (by kernel_rfl) (by kernel_rfl) (by kernel_rfl) (fun _ _ _ h => h) (Or.inl ⟨by rfl, ?_⟩) hS ?_
  rotate_left
  · intro W hW; go_simp; with_reducible rfl
  try simp only [Act.put, List.setIfInBounds_toArray, List.set_cons_zero, List.set_cons_succ]
  refine wpAnyH_take (i := 5) (oi := ⟨some 104, _, _, _, _, _⟩) (v := ?_) rfl (by kernel_rfl) (by kernel_rfl) (by kernel_rfl) (fun _ _ _ h => h) (Or.inl ⟨by rfl, ?_⟩) hS ?_
  rotate_left
  · intro W hW; go_simp; with_reducible rfl
  try simp only [Act.put, List.setIfInBounds_toArray, List.set_cons_zero, List.set_cons_succ]
  refine wpAnyH_take (i := 6) (oi := ⟨some 105, _, _, _, _, _⟩) (v := ?_) rfl (by kernel_rfl) (by kernel_rfl) (by kernel_rfl) (fun _ _ _ h => h) (Or.inl ⟨by rfl, ?_⟩) hS ?_
  rotate_left
  · intro W hW; go_simp; with_reducible rfl
  try simp only [Act.put, List.setIfInBounds_toArray, List.set_cons_zero, List.set_cons_succ]
  refine wpAnyH_take (i := 7) (oi := ⟨some 106, _, _, _, _, _⟩) (v := ?_) rfl (by kernel_rfl) (by kernel_rfl) (by kernel_rfl) (fun _ _ _ h => h) (Or.inl ⟨by rfl, ?_⟩) hS ?_
  rotate_left
  · intro W hW; go_simp; with_reducible rfl
  try simp only [Act.put, List.setIfInBounds_toArray, List.set_cons_zero, List.set_cons_succ]
  refine wpAnyH_take (i := 8) (oi := ⟨some 107, _, _, _, _, _⟩) (v := ?_) rfl (by kernel_rfl) (by kernel_rfl) (by kernel_rfl) (fun _ _ _ h => h) (Or.inl ⟨by rfl, ?_⟩) hS ?_
  rotate_left
  · intro W hW; go_simp; with_reducible rfl
  try simp only [Act.put, List.setIfInBounds_toArray, List.set_cons_zero, List.set_cons_succ]
  refine wpAnyH_take (i := 9) (oi := ⟨some 108, _, _, _, _, _⟩) (v := ?_) rfl (by kernel_rfl) (by kernel_rfl) (by kernel_rfl) (fun _ _ _ h => h) (Or.inl ⟨by rfl, ?_⟩) hS ?_
  rotate_left
  · intro W hW; go_simp; with_reducible rfl
  try simp only [Act.put, List.setIfInBounds_toArray, List.set_cons_zero, List.set_cons_succ]
  refine wpAnyH_take (i := 10) (oi := ⟨some 109, _, _, _, _, _⟩) (v := ?_) rfl (by kernel_rfl) (by kernel_rfl) (by kernel_rfl) (fun _ _ _ h => h) (Or.inl ⟨by rfl, ?_⟩) hS ?_
  rotate_left
  · intro W hW; go_simp; with_reducible rfl
  try simp only [Act.put, List.setIfInBounds_toArray, List.set_cons_zero, List.set_cons_succ]
  refine wpAnyH_take (i := 11) (oi := ⟨some 110, _, _, _, _, _⟩) (v := ?_) rfl (by kernel_rfl) (by kernel_rfl) (by kernel_rfl) (fun _ _ _ h => h) (Or.inl ⟨by rfl, ?_⟩) hS ?_
  rotate_left
  · intro W hW; go_simp; with_reducible rfl
  try simp only [Act.put, List.setIfInBounds_toArray, List.set_cons_zero, List.set_cons_succ]
  refine wpAnyH_take (i := 12) (oi := ⟨some 111, _, _, _, _, _⟩) (v := ?_) rfl (by kernel_rfl) (by kernel_rfl) (by kernel_rfl) (fun _ _ _ h => h) (Or.inl ⟨by rfl, ?_⟩) hS ?_
  rotate_left
  · intro W hW; go_simp; with_reducible rfl
  try simp only [Act.put, List.setIfInBounds_toArray, List.set_cons_zero, List.set_cons_succ]
  refine wpAnyH_take (i := 13) (oi := ⟨some 112, _, _, _, _, _⟩) (v := ?_) rfl (by kernel_rfl) (by kernel_rfl) (by kernel_rfl) (fun _ _ _ h => h) (Or.inl ⟨by rfl, ?_⟩) hS ?_
  rotate_left
  · intro W hW; go_simp; with_reducible rfl
  try simp only [Act.put, List.setIfInBounds_toArray, List.set_cons_zero, List.set_cons_succ]
  refine wpAnyH_take (i := 14) (oi := ⟨some 113, _, _, _, _, _⟩) (v := ?_) rfl (by kernel_rfl) (by kernel_rfl) (by kernel_rfl) (fun _ _ _ h => h) (Or.inl ⟨by rfl, ?_⟩) hS ?_
  rotate_left
  · intro W hW; go_simp; with_reducible rfl
  try simp only [Act.put, List.setIfInBounds_toArray, List.set_cons_zero, List.set_cons_succ]
  refine wpAnyH_take (i := 16) (oi := ⟨some 115, _, _, _, _, _⟩) (v := ?_) rfl (by kernel_rfl) (by kernel_rfl) (by kernel_rfl) (fun _ _ _ h => h) (Or.inl ⟨by rfl, ?_⟩) hS ?_
  rotate_left
  · intro W hW; go_simp; with_reducible rfl
  try simp only [Act.put, List.setIfInBounds_toArray, List.set_cons_zero, List.set_cons_succ]
  refine wpAnyH_ready (rs := [15]) (by kernel_rfl) (by simp) ?_
  refine AllReadyH.cons (o := ⟨some 114, _, _, _, _, _⟩) rfl (fun Kr hKr => ?_) AllReadyH.nil
  -- operation 15: a call
  go_simp
  refine (theirs_any ⟨RPE, RPA, RPI, RPC, A3, n3, c3⟩ _).mono ?_
  rintro e V1 ⟨rfl, hx⟩
  show Kr _ _
  refine hKr.out _ _ ?_ (fun _ => ?_)
  · exact since_trans hS hx
  clear hKr Kr
  replace hS : Since w9 V1 := since_trans hS hx
  try simp only [Act.put, List.setIfInBounds_toArray, List.set_cons_zero, List.set_cons_succ]
  refine wpAnyH_ready (rs := [17]) (by kernel_rfl) (by simp) ?_
  refine AllReadyH.cons (o := ⟨some 116, _, _, _, _, _⟩) rfl (fun Kr hKr => ?_) AllReadyH.nil
  -- operation 17: a call
  go_simp
  refine (same_any RPE RPA RPI RPC A3 A4 n3 c3 n4 c4 RPD _ (HU.out.up hS) (HV.out.up hS)).mono ?_
  rintro e V2 ⟨rfl, hx⟩
  show Kr _ _
  refine hKr.out _ _ ?_ (fun _ => ?_)
  · exact since_trans hS hx
  clear hKr Kr
  replace hS : Since w9 V2 := since_trans hS hx
  try simp only [Act.put, List.setIfInBounds_toArray, List.set_cons_zero, List.set_cons_succ]
  refine wpAnyH_take (i := 18) (oi := ⟨some 117, _, _, _, _, _⟩) (v := ?_) rfl (by kernel_rfl) (by kernel_rfl) (by kernel_rfl) (fun _ _ _ h => h) (Or.inl ⟨by rfl, ?_⟩) hS ?_
  rotate_left
  · intro W hW; go_simp; with_reducible rfl
  try simp only [Act.put, List.setIfInBounds_toArray, List.set_cons_zero, List.set_cons_succ]
  refine wpAnyH_take (i := 19) (oi := ⟨some 118, _, _, _, _, _⟩) (v := ?_) rfl (by kernel_rfl) (by kernel_rfl) (by kernel_rfl) (fun _ _ _ h => h) (Or.inl ⟨by rfl, ?_⟩) hS ?_
  rotate_left
  · intro W hW; go_simp; with_reducible rfl
  try simp only [Act.put, List.setIfInBounds_toArray, List.set_cons_zero, List.set_cons_succ]
  refine wpAnyH_take (i := 20) (oi := ⟨some 119, _, _, _, _, _⟩) (v := ?_) rfl (by kernel_rfl) (by kernel_rfl) (by kernel_rfl) (fun _ _ _ h => h) (Or.inl ⟨by rfl, ?_⟩) hS ?_
  rotate_left
  · intro W hW; go_simp; with_reducible rfl
  try simp only [Act.put, List.setIfInBounds_toArray, List.set_cons_zero, List.set_cons_succ]
  refine wpAnyH_take (i := 21) (oi := ⟨some 120, _, _, _, _, _⟩) (v := ?_) rfl (by kernel_rfl) (by kernel_rfl) (by kernel_rfl) (fun _ _ _ h => h) (Or.inl ⟨by rfl, ?_⟩) hS ?_
  rotate_left
  · intro W hW; go_simp; with_reducible rfl
  try simp only [Act.put, List.setIfInBounds_toArray, List.set_cons_zero, List.set_cons_succ]
  refine wpAnyH_take (i := 22) (oi := ⟨some 121, _, _, _, _, _⟩) (v := ?_) rfl (by kernel_rfl) (by kernel_rfl) (by kernel_rfl) (fun _ _ _ h => h) (Or.inl ⟨by rfl, ?_⟩) hS ?_
  rotate_left
  · intro W hW; go_simp; with_reducible rfl
  try simp only [Act.put, List.setIfInBounds_toArray, List.set_cons_zero, List.set_cons_succ]
  refine wpAnyH_take (i := 23) (oi := ⟨some 122, _, _, _, _, _⟩) (v := ?_) rfl (by kernel_rfl) (by kernel_rfl) (by kernel_rfl) (fun _ _ _ h => h) (Or.inl ⟨by rfl, ?_⟩) hS ?_
  rotate_left
  · intro W hW; go_simp; with_reducible rfl
  try simp only [Act.put, List.setIfInBounds_toArray, List.set_cons_zero, List.set_cons_succ]
  refine wpAnyH_take (i := 24) (oi := ⟨some 123, _, _, _, _, _⟩) (v := ?_) rfl (by kernel_rfl) (by kernel_rfl) (by kernel_rfl) (fun _ _ _ h => h) (Or.inl ⟨by rfl, ?_⟩) hS ?_
  rotate_left
  · intro W hW; go_simp; with_reducible rfl
  try simp only [Act.put, List.setIfInBounds_toArray, List.set_cons_zero, List.set_cons_succ]
  refine wpAnyH_take (i := 25) (oi := ⟨some 124, _, _, _, _, _⟩) (v := ?_) rfl (by kernel_rfl) (by kernel_rfl) (by kernel_rfl) (fun _ _ _ h => h) (Or.inl ⟨by rfl, ?_⟩) hS ?_
  rotate_left
  · intro W hW; go_simp; with_reducible rfl
  try simp only [Act.put, List.setIfInBounds_toArray, List.set_cons_zero, List.set_cons_succ]
  refine wpAnyH_take (i := 26) (oi := ⟨some 125, _, _, _, _, _⟩) (v := ?_) rfl (by kernel_rfl) (by kernel_rfl) (by kernel_rfl) (fun _ _ _ h => h) (Or.inl ⟨by rfl, ?_⟩) hS ?_
  rotate_left
  · intro W hW; go_simp; with_reducible rfl
  try simp only [Act.put, List.setIfInBounds_toArray, List.set_cons_zero, List.set_cons_succ]
  refine wpAnyH_ready (rs := [27]) (by kernel_rfl) (by simp) ?_
  refine AllReadyH.cons (o := ⟨some 126, _, _, _, _, _⟩) rfl (fun Kr hKr => ?_) AllReadyH.nil
  -- operation 27: a call
  go_simp
  refine (lists_any A5 A6 c5 c6 n6 CL (Lib.hid HN5.out.symm) (by rw [HN5.out]; exact Nat.le_trans HCL.out (by omega)) _ (HC5.out.up hS) (HC6.out.up hS)).mono ?_
  rintro e V3 ⟨rfl, hx⟩
  show Kr _ _
  refine hKr.out _ _ ?_ (fun _ => ?_)
  · exact since_trans hS hx
  clear hKr Kr
  replace hS : Since w9 V3 := since_trans hS hx
  try simp only [Act.put, List.setIfInBounds_toArray, List.set_cons_zero, List.set_cons_succ]
  refine wpAnyH_take (i := 28) (oi := ⟨some 127, _, _, _, _, _⟩) (v := ?_) rfl (by kernel_rfl) (by kernel_rfl) (by kernel_rfl) (fun _ _ _ h => h) (Or.inl ⟨by rfl, ?_⟩) hS ?_
  rotate_left
  · intro W hW; go_simp; with_reducible rfl
  try simp only [Act.put, List.setIfInBounds_toArray, List.set_cons_zero, List.set_cons_succ]
  refine wpAnyH_take (i := 29) (oi := ⟨some 128, _, _, _, _, _⟩) (v := ?_) rfl (by kernel_rfl) (by kernel_rfl) (by kernel_rfl) (fun _ _ _ h => h) (Or.inl ⟨by rfl, ?_⟩) hS ?_
  rotate_left
  · intro W hW; go_simp; with_reducible rfl
  try simp only [Act.put, List.setIfInBounds_toArray, List.set_cons_zero, List.set_cons_succ]
  refine wpAnyH_take (i := 30) (oi := ⟨some 129, _, _, _, _, _⟩) (v := ?_) rfl (by kernel_rfl) (by kernel_rfl) (by kernel_rfl) (fun _ _ _ h => h) (Or.inl ⟨by rfl, ?_⟩) hS ?_
  rotate_left
  · intro W hW; go_simp; with_reducible rfl
  try simp only [Act.put, List.setIfInBounds_toArray, List.set_cons_zero, List.set_cons_succ]
  refine wpAnyH_take (i := 31) (oi := ⟨some 130, _, _, _, _, _⟩) (v := ?_) rfl (by kernel_rfl) (by kernel_rfl) (by kernel_rfl) (fun _ _ _ h => h) (Or.inl ⟨by rfl, ?_⟩) hS ?_
  rotate_left
  · intro W hW; go_simp; with_reducible rfl
  try simp only [Act.put, List.setIfInBounds_toArray, List.set_cons_zero, List.set_cons_succ]
  refine wpAnyH_take (i := 32) (oi := ⟨some 131, _, _, _, _, _⟩) (v := ?_) rfl (by kernel_rfl) (by kernel_rfl) (by kernel_rfl) (fun _ _ _ h => h) (Or.inl ⟨by rfl, ?_⟩) hS ?_
  rotate_left
  · intro W hW; go_simp; with_reducible rfl
  try simp only [Act.put, List.setIfInBounds_toArray, List.set_cons_zero, List.set_cons_succ]
  refine wpAnyH_take (i := 33) (oi := ⟨some 132, _, _, _, _, _⟩) (v := ?_) rfl (by kernel_rfl) (by kernel_rfl) (by kernel_rfl) (fun _ _ _ h => h) (Or.inl ⟨by rfl, ?_⟩) hS ?_
  rotate_left
  · intro W hW; go_simp; with_reducible rfl
  try simp only [Act.put, List.setIfInBounds_toArray, List.set_cons_zero, List.set_cons_succ]
  refine wpAnyH_take (i := 34) (oi := ⟨some 133, _, _, _, _, _⟩) (v := ?_) rfl (by kernel_rfl) (by kernel_rfl) (by kernel_rfl) (fun _ _ _ h => h) (Or.inl ⟨by rfl, ?_⟩) hS ?_
  rotate_left
  · intro W hW; go_simp; with_reducible rfl
  try simp only [Act.put, List.setIfInBounds_toArray, List.set_cons_zero, List.set_cons_succ]
  refine wpAnyH_take (i := 35) (oi := ⟨some 134, _, _, _, _, _⟩) (v := ?_) rfl (by kernel_rfl) (by kernel_rfl) (by kernel_rfl) (fun _ _ _ h => h) (Or.inl ⟨by rfl, ?_⟩) hS ?_
  rotate_left
  · intro W hW; go_simp; with_reducible rfl
  try simp only [Act.put, List.setIfInBounds_toArray, List.set_cons_zero, List.set_cons_succ]
  refine wpAnyH_take (i := 36) (oi := ⟨some 135, _, _, _, _, _⟩) (v := ?_) rfl (by kernel_rfl) (by kernel_rfl) (by kernel_rfl) (fun _ _ _ h => h) (Or.inl ⟨by rfl, ?_⟩) hS ?_
  rotate_left
  · intro W hW; go_simp; with_reducible rfl
  try simp only [Act.put, List.setIfInBounds_toArray, List.set_cons_zero, List.set_cons_succ]
  refine wpAnyH_take (i := 37) (oi := ⟨some 136, _, _, _, _, _⟩) (v := ?_) rfl (by kernel_rfl) (by kernel_rfl) (by kernel_rfl) (fun _ _ _ h => h) (Or.inl ⟨by rfl, ?_⟩) hS ?_
  rotate_left
  · intro W hW; go_simp; with_reducible rfl
  try simp only [Act.put, List.setIfInBounds_toArray, List.set_cons_zero, List.set_cons_succ]
  refine wpAnyH_take (i := 38) (oi := ⟨some 137, _, _, _, _, _⟩) (v := ?_) rfl (by kernel_rfl) (by kernel_rfl) (by kernel_rfl) (fun _ _ _ h => h) (Or.inl ⟨by rfl, ?_⟩) hS ?_
  rotate_left
  · intro W hW; go_simp; with_reducible rfl
  try simp only [Act.put, List.setIfInBounds_toArray, List.set_cons_zero, List.set_cons_succ]
  refine wpAnyH_take (i := 39) (oi := ⟨some 138, _, _, _, _, _⟩) (v := ?_) rfl (by kernel_rfl) (by kernel_rfl) (by kernel_rfl) (fun _ _ _ h => h) (Or.inl ⟨by rfl, ?_⟩) hS ?_
  rotate_left
  · intro W hW; go_simp; with_reducible rfl
  try simp only [Act.put, List.setIfInBounds_toArray, List.set_cons_zero, List.set_cons_succ]
  refine wpAnyH_take (i := 40) (oi := ⟨some 139, _, _, _, _, _⟩) (v := ?_) rfl (by kernel_rfl) (by kernel_rfl) (by kernel_rfl) (fun _ _ _ h => h) (Or.inl ⟨by rfl, ?_⟩) hS ?_
  rotate_left
  · intro W hW; go_simp; with_reducible rfl
  try simp only [Act.put, List.setIfInBounds_toArray, List.set_cons_zero, List.set_cons_succ]
  refine wpAnyH_take (i := 41) (oi := ⟨some 140, _, _, _, _, _⟩) (v := ?_) rfl (by kernel_rfl) (by kernel_rfl) (by kernel_rfl) (fun _ _ _ h => h) (Or.inl ⟨by rfl, ?_⟩) hS ?_
  rotate_left
  · intro W hW; go_simp; with_reducible rfl
  try simp only [Act.put, List.setIfInBounds_toArray, List.set_cons_zero, List.set_cons_succ]
  refine wpAnyH_take (i := 42) (oi := ⟨some 141, _, _, _, _, _⟩) (v := ?_) rfl (by kernel_rfl) (by kernel_rfl) (by kernel_rfl) (fun _ _ _ h => h) (Or.inl ⟨by rfl, ?_⟩) hS ?_
  rotate_left
  · intro W hW; go_simp; with_reducible rfl
  try simp only [Act.put, List.setIfInBounds_toArray, List.set_cons_zero, List.set_cons_succ]
  refine wpAnyH_take (i := 43) (oi := ⟨some 142, _, _, _, _, _⟩) (v := ?_) rfl (by kernel_rfl) (by kernel_rfl) (by kernel_rfl) (fun _ _ _ h => h) (Or.inl ⟨by rfl, ?_⟩) hS ?_
  rotate_left
  · intro W hW; go_simp; with_reducible rfl
  try simp only [Act.put, List.setIfInBounds_toArray, List.set_cons_zero, List.set_cons_succ]
  refine wpAnyH_take (i := 44) (oi := ⟨some 143, _, _, _, _, _⟩) (v := ?_) rfl (by kernel_rfl) (by kernel_rfl) (by kernel_rfl) (fun _ _ _ h => h) (Or.inl ⟨by rfl, ?_⟩) hS ?_
  rotate_left
  · intro W hW; go_simp; with_reducible rfl
  try simp only [Act.put, List.setIfInBounds_toArray, List.set_cons_zero, List.set_cons_succ]
  refine wpAnyH_take (i := 45) (oi := ⟨some 144, _, _, _, _, _⟩) (v := ?_) rfl (by kernel_rfl) (by kernel_rfl) (by kernel_rfl) (fun _ _ _ h => h) (Or.inl ⟨by rfl, ?_⟩) hS ?_
  rotate_left
  · intro W hW; go_simp; with_reducible rfl
  try simp only [Act.put, List.setIfInBounds_toArray, List.set_cons_zero, List.set_cons_succ]
  refine wpAnyH_take (i := 46) (oi := ⟨some 145, _, _, _, _, _⟩) (v := ?_) rfl (by kernel_rfl) (by kernel_rfl) (by kernel_rfl) (fun _ _ _ h => h) (Or.inl ⟨by rfl, ?_⟩) hS ?_
  rotate_left
  · intro W hW; go_simp; with_reducible rfl
  try simp only [Act.put, List.setIfInBounds_toArray, List.set_cons_zero, List.set_cons_succ]
  refine wpAnyH_take (i := 47) (oi := ⟨some 146, _, _, _, _, _⟩) (v := ?_) rfl (by kernel_rfl) (by kernel_rfl) (by kernel_rfl) (fun _ _ _ h => h) (Or.inl ⟨by rfl, ?_⟩) hS ?_
  rotate_left
  · intro W hW; go_simp; with_reducible rfl
  try simp only [Act.put, List.setIfInBounds_toArray, List.set_cons_zero, List.set_cons_succ]
  refine wpAnyH_take (i := 48) (oi := ⟨some 147, _, _, _, _, _⟩) (v := ?_) rfl (by kernel_rfl) (by kernel_rfl) (by kernel_rfl) (fun _ _ _ h => h) (Or.inl ⟨by rfl, ?_⟩) hS ?_
  rotate_left
  · intro W hW; go_simp; with_reducible rfl
  try simp only [Act.put, List.setIfInBounds_toArray, List.set_cons_zero, List.set_cons_succ]
  refine wpAnyH_take (i := 49) (oi := ⟨some 148, _, _, _, _, _⟩) (v := ?_) rfl (by kernel_rfl) (by kernel_rfl) (by kernel_rfl) (fun _ _ _ h => h) (Or.inl ⟨by rfl, ?_⟩) hS ?_
  rotate_left
  · intro W hW; go_simp; with_reducible rfl
  try simp only [Act.put, List.setIfInBounds_toArray, List.set_cons_zero, List.set_cons_succ]
  refine wpAnyH_take (i := 50) (oi := ⟨some 149, _, _, _, _, _⟩) (v := ?_) rfl (by kernel_rfl) (by kernel_rfl) (by kernel_rfl) (fun _ _ _ h => h) (Or.inl ⟨by rfl, ?_⟩) hS ?_
  rotate_left
  · intro W hW; go_simp; with_reducible rfl
  try simp only [Act.put, List.setIfInBounds_toArray, List.set_cons_zero, List.set_cons_succ]
  refine wpAnyH_take (i := 51) (oi := ⟨some 150, _, _, _, _, _⟩) (v := ?_) rfl (by kernel_rfl) (by kernel_rfl) (by kernel_rfl) (fun _ _ _ h => h) (Or.inl ⟨by rfl, ?_⟩) hS ?_
  rotate_left
  · intro W hW; go_simp; with_reducible rfl
  try simp only [Act.put, List.setIfInBounds_toArray, List.set_cons_zero, List.set_cons_succ]
  refine wpAnyH_take (i := 52) (oi := ⟨some 151, _, _, _, _, _⟩) (v := ?_) rfl (by kernel_rfl) (by kernel_rfl) (by kernel_rfl) (fun _ _ _ h => h) (Or.inl ⟨by rfl, ?_⟩) hS ?_
  rotate_left
  · intro W hW; go_simp; with_reducible rfl
  try simp only [Act.put, List.setIfInBounds_toArray, List.set_cons_zero, List.set_cons_succ]
  refine wpAnyH_take (i := 53) (oi := ⟨some 152, _, _, _, _, _⟩) (v := ?_) rfl (by kernel_rfl) (by kernel_rfl) (by kernel_rfl) (fun _ _ _ h => h) (Or.inl ⟨by rfl, ?_⟩) hS ?_
  rotate_left
  · intro W hW; go_simp; with_reducible rfl
  try simp only [Act.put, List.setIfInBounds_toArray, List.set_cons_zero, List.set_cons_succ]
  refine wpAnyH_take (i := 54) (oi := ⟨some 153, _, _, _, _, _⟩) (v := ?_) rfl (by kernel_rfl) (by kernel_rfl) (by kernel_rfl) (fun _ _ _ h => h) (Or.inl ⟨by rfl, ?_⟩) hS ?_
  rotate_left
  · intro W hW; go_simp; with_reducible rfl
  try simp only [Act.put, List.setIfInBounds_toArray, List.set_cons_zero, List.set_cons_succ]
  refine wpAnyH_take (i := 55) (oi := ⟨some 154, _, _, _, _, _⟩) (v := ?_) rfl (by kernel_rfl) (by kernel_rfl) (by kernel_rfl) (fun _ _ _ h => h) (Or.inl ⟨by rfl, ?_⟩) hS ?_
  rotate_left
  · intro W hW; go_simp; with_reducible rfl
  try simp only [Act.put, List.setIfInBounds_toArray, List.set_cons_zero, List.set_cons_succ]
  refine wpAnyH_take (i := 56) (oi := ⟨some 155, _, _, _, _, _⟩) (v := ?_) rfl (by kernel_rfl) (by kernel_rfl) (by kernel_rfl) (fun _ _ _ h => h) (Or.inl ⟨by rfl, ?_⟩) hS ?_
  rotate_left
  · intro W hW; go_simp; with_reducible rfl
  try simp only [Act.put, List.setIfInBounds_toArray, List.set_cons_zero, List.set_cons_succ]
  refine wpAnyH_take (i := 57) (oi := ⟨some 156, _, _, _, _, _⟩) (v := ?_) rfl (by kernel_rfl) (by kernel_rfl) (by kernel_rfl) (fun _ _ _ h => h) (Or.inl ⟨by rfl, ?_⟩) hS ?_
  rotate_left
  · intro W hW; go_simp; with_reducible rfl
  try simp only [Act.put, List.setIfInBounds_toArray, List.set_cons_zero, List.set_cons_succ]
  refine wpAnyH_take (i := 58) (oi := ⟨some 157, _, _, _, _, _⟩) (v := ?_) rfl (by kernel_rfl) (by kernel_rfl) (by kernel_rfl) (fun _ _ _ h => h) (Or.inl ⟨by rfl, ?_⟩) hS ?_
  rotate_left
  · intro W hW; go_simp; with_reducible rfl
  try simp only [Act.put, List.setIfInBounds_toArray, List.set_cons_zero, List.set_cons_succ]
  refine wpAnyH_take (i := 60) (oi := ⟨some 159, _, _, _, _, _⟩) (v := ?_) rfl (by kernel_rfl) (by kernel_rfl) (by kernel_rfl) (fun _ _ _ h => h) (Or.inl ⟨by rfl, ?_⟩) hS ?_
  rotate_left
  · intro W hW; go_simp; with_reducible rfl
  try simp only [Act.put, List.setIfInBounds_toArray, List.set_cons_zero, List.set_cons_succ]
  refine wpAnyH_take (i := 61) (oi := ⟨some 160, _, _, _, _, _⟩) (v := ?_) rfl (by kernel_rfl) (by kernel_rfl) (by kernel_rfl) (fun _ _ _ h => h) (Or.inl ⟨by rfl, ?_⟩) hS ?_
  rotate_left
  · intro W hW; go_simp; with_reducible rfl
  try simp only [Act.put, List.setIfInBounds_toArray, List.set_cons_zero, List.set_cons_succ]
  refine wpAnyH_ready (rs := [59]) (by kernel_rfl) (by simp) ?_
  refine AllReadyH.cons (o := ⟨some 158, _, _, _, _, _⟩) rfl (fun Kr hKr => ?_) AllReadyH.nil
  -- operation 59: a call
  go_simp
  refine (HN1.out _).mono ?_
  rintro e V4 ⟨rfl, hx⟩
  show Kr _ _
  refine hKr.out _ _ ?_ (fun _ => ?_)
  · exact since_trans hS hx
  clear hKr Kr
  replace hS : Since w9 V4 := since_trans hS hx
  try simp only [Act.put, List.setIfInBounds_toArray, List.set_cons_zero, List.set_cons_succ]
  refine wpAnyH_ready (rs := [62]) (by kernel_rfl) (by simp) ?_
  refine AllReadyH.cons (o := ⟨some 161, _, _, _, _, _⟩) rfl (fun Kr hKr => ?_) AllReadyH.nil
  -- operation 62: a call
  go_simp
  refine (HN2.out _).mono ?_
  rintro e V5 ⟨rfl, hx⟩
  show Kr _ _
  refine hKr.out _ _ ?_ (fun _ => ?_)
  · exact since_trans hS hx
  clear hKr Kr
  replace hS : Since w9 V5 := since_trans hS hx
  try simp only [Act.put, List.setIfInBounds_toArray, List.set_cons_zero, List.set_cons_succ]
  refine wpAnyH_take (i := 63) (oi := ⟨some 162, _, _, _, _, _⟩) (v := ?_) rfl (by kernel_rfl) (by kernel_rfl) (by kernel_rfl) (fun _ _ _ h => h) (Or.inl ⟨by rfl, ?_⟩) hS ?_
  rotate_left
  · intro W hW; go_simp; with_reducible rfl
  try simp only [Act.put, List.setIfInBounds_toArray, List.set_cons_zero, List.set_cons_succ]
  refine wpAnyH_take (i := 64) (oi := ⟨some 163, _, _, _, _, _⟩) (v := ?_) rfl (by kernel_rfl) (by kernel_rfl) (by kernel_rfl) (fun _ _ _ h => h) (Or.inl ⟨by rfl, ?_⟩) hS ?_
  rotate_left
  · intro W hW; go_simp; with_reducible rfl
  try simp only [Act.put, List.setIfInBounds_toArray, List.set_cons_zero, List.set_cons_succ]
  refine wpAnyH_take (i := 65) (oi := ⟨some 164, _, _, _, _, _⟩) (v := ?_) rfl (by kernel_rfl) (by kernel_rfl) (by kernel_rfl) (fun _ _ _ h => h) (Or.inl ⟨by rfl, ?_⟩) hS ?_
  rotate_left
  · intro W hW; go_simp; with_reducible rfl
  try simp only [Act.put, List.setIfInBounds_toArray, List.set_cons_zero, List.set_cons_succ]
  refine wpAnyH_take (i := 66) (oi := ⟨some 165, _, _, _, _, _⟩) (v := ?_) rfl (by kernel_rfl) (by kernel_rfl) (by kernel_rfl) (fun _ _ _ h => h) (Or.inl ⟨by rfl, ?_⟩) hS ?_
  rotate_left
  · intro W hW; go_simp; with_reducible rfl
  try simp only [Act.put, List.setIfInBounds_toArray, List.set_cons_zero, List.set_cons_succ]
  refine wpAnyH_take (i := 67) (oi := ⟨some 166, _, _, _, _, _⟩) (v := ?_) rfl (by kernel_rfl) (by kernel_rfl) (by kernel_rfl) (fun _ _ _ h => h) (Or.inl ⟨by rfl, ?_⟩) hS ?_
  rotate_left
  · intro W hW; go_simp; with_reducible rfl
  try simp only [Act.put, List.setIfInBounds_toArray, List.set_cons_zero, List.set_cons_succ]
  refine wpAnyH_take (i := 69) (oi := ⟨some 168, _, _, _, _, _⟩) (v := ?_) rfl (by kernel_rfl) (by kernel_rfl) (by kernel_rfl) (fun _ _ _ h => h) (Or.inl ⟨by rfl, ?_⟩) hS ?_
  rotate_left
  · intro W hW; go_simp; with_reducible rfl
  try simp only [Act.put, List.setIfInBounds_toArray, List.set_cons_zero, List.set_cons_succ]
  refine wpAnyH_take (i := 70) (oi := ⟨some 169, _, _, _, _, _⟩) (v := ?_) rfl (by kernel_rfl) (by kernel_rfl) (by kernel_rfl) (fun _ _ _ h => h) (Or.inl ⟨by rfl, ?_⟩) hS ?_
  rotate_left
  · intro W hW; go_simp; with_reducible rfl
  try simp only [Act.put, List.setIfInBounds_toArray, List.set_cons_zero, List.set_cons_succ]
  refine wpAnyH_ready (rs := [68]) (by kernel_rfl) (by simp) ?_
  refine AllReadyH.cons (o := ⟨some 167, _, _, _, _, _⟩) rfl (fun Kr hKr => ?_) AllReadyH.nil
  -- operation 68: a call
  go_simp
  refine (HN3.out _).mono ?_
  rintro e V6 ⟨rfl, hx⟩
  show Kr _ _
  refine hKr.out _ _ ?_ (fun _ => ?_)
  · exact since_trans hS hx
  clear hKr Kr
  replace hS : Since w9 V6 := since_trans hS hx
  try simp only [Act.put, List.setIfInBounds_toArray, List.set_cons_zero, List.set_cons_succ]
  refine wpAnyH_ready (rs := [71]) (by kernel_rfl) (by simp) ?_
  refine AllReadyH.cons (o := ⟨some 170, _, _, _, _, _⟩) rfl (fun Kr hKr => ?_) AllReadyH.nil
  -- operation 71: a call
  go_simp
  refine (HN4.out _).mono ?_
  rintro e V7 ⟨rfl, hx⟩
  show Kr _ _
  refine hKr.out _ _ ?_ (fun _ => ?_)
  · exact since_trans hS hx
  clear hKr Kr
  replace hS : Since w9 V7 := since_trans hS hx
  try simp only [Act.put, List.setIfInBounds_toArray, List.set_cons_zero, List.set_cons_succ]
  refine wpAnyH_take (i := 72) (oi := ⟨some 171, _, _, _, _, _⟩) (v := ?_) rfl (by kernel_rfl) (by kernel_rfl) (by kernel_rfl) (fun _ _ _ h => h) (Or.inl ⟨by rfl, ?_⟩) hS ?_
  rotate_left
  · intro W hW; go_simp; with_reducible rfl
  try simp only [Act.put, List.setIfInBounds_toArray, List.set_cons_zero, List.set_cons_succ]
  refine wpAnyH_take (i := 73) (oi := ⟨some 172, _, _, _, _, _⟩) (v := ?_) rfl (by kernel_rfl) (by kernel_rfl) (by kernel_rfl) (fun _ _ _ h => h) (Or.inl ⟨by rfl, ?_⟩) hS ?_
  rotate_left
  · intro W hW; go_simp; with_reducible rfl
  try simp only [Act.put, List.setIfInBounds_toArray, List.set_cons_zero, List.set_cons_succ]
  refine wpAnyH_take (i := 74) (oi := ⟨some 10, _, _, _, _, _⟩) (v := ?_) rfl (by kernel_rfl) (by kernel_rfl) (by kernel_rfl) (fun _ _ _ h => h) (Or.inl ⟨by rfl, ?_⟩) hS ?_
  rotate_left
  · intro W hW; go_simp; with_reducible rfl
  try simp only [Act.put, List.setIfInBounds_toArray, List.set_cons_zero, List.set_cons_succ]
  refine wpAnyH_done (by kernel_rfl) ?_ _
  go_wp2_with fail
  go_ret
  exact ⟨by simp, below_two HB.out hS⟩

end Go.Proofs.Ytofekbipbndbbaa
