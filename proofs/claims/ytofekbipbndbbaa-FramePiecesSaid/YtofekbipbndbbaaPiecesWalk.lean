/-
  FramePieces: the walk: a piece that is written is read; what is read is written to the same sector.
-/
import Derived.Test.YtofekbipbndbbaaMask6
namespace Go.Proofs.Ytofekbipbndbbaa
open Go.RowKit Crc Wm

set_option maxHeartbeats 4000000 in
set_option maxRecDepth 100000 in
theorem pieces_walk (q : Pv) (D : List UInt8) (A : Option Addr) (c L : Nat) (b : List UInt8) (w : World) (hq : Lies w q.ad q.c q.n D) (hl : Lies w A c L b) (hL : L ≤ 140737488351232) : Calls Try.prog 6 #[pvV q, .slice A L c] w fun e w' => e = .returned (.bool true) ∧ Below w.heap.size w w' := by
  have HQ := Lib.hid (Bp.new w q 24)
  have HB := Lib.hid (below_new w (.cells (pvC q) 24))
  have HLI := Lib.hid hl
  have HBL := Lib.hid hl.len
  have HD := Lib.hid hq
  have HPC : Hid (q.pc D = ⟨q.E, q.A, q.I, q.C, D⟩) := Lib.hid rfl
  have HMM := Lib.hid (pc_may q D hq.len)
  clear hl hq
  obtain ⟨E, PA, I, C, ad, n, cq⟩ := q
  simp only at HD HPC
  have q4 := HQ.out.c4
  simp only at q4
  by_cases hbig : 200 < n ∨ 200 < L
  · rcases Nat.lt_or_ge 200 n with hn | hn
    · have hd : decide ((n : Int) > 200) = true := decide_eq_true (by omega)
      clear q4
      go_enter Try.func6, Try.ntmps6
      go_wp2_with fail
      refine (awake_any _).mono ?_
      rintro e w0 ⟨rfl, hb⟩
      have q4 := (HQ.out.below hb).c4
      replace HB := Lib.hid (below_two HB.out hb)
      simp only at q4
      clear hb
      go_wp2_with fail
      go_ret
      exact ⟨rfl, HB.out⟩
    · have hd : decide ((n : Int) > 200) = false := decide_eq_false (by omega)
      have hd2 : decide ((L : Int) > 200) = true := decide_eq_true (by omega)
      clear q4
      go_enter Try.func6, Try.ntmps6
      go_wp2_with fail
      refine (awake_any _).mono ?_
      rintro e w0 ⟨rfl, hb⟩
      have q4 := (HQ.out.below hb).c4
      replace HB := Lib.hid (below_two HB.out hb)
      simp only at q4
      clear hb
      go_wp2_with fail
      go_ret
      exact ⟨rfl, HB.out⟩
  have hd : decide ((n : Int) > 200) = false := decide_eq_false (by omega)
  have hd2 : decide ((L : Int) > 200) = false := decide_eq_false (by omega)
  have hn200 : n ≤ 200 := by omega
  have hL200 : L ≤ 200 := by omega
  have hbx : Hid (w.heap.size + 1 ≤ (w.alloc (.cells (pvC ⟨E, PA, I, C, ad, n, cq⟩) 24)).heap.size) := by show _ ≤ _; simp
  clear q4 hbig
  go_enter Try.func6, Try.ntmps6
  go_wp2_with fail
  refine (awake_any _).mono ?_
  rintro e w0 ⟨rfl, hb⟩
  replace HQ := Lib.hid (HQ.out.below hb)
  replace HB := Lib.hid (below_two HB.out hb)
  clear hb
  have q0 := HQ.out.c0
  have q1 := HQ.out.c1
  have q2 := HQ.out.c2
  have q3 := HQ.out.c3
  have q4 := HQ.out.c4
  simp only at q0 q1 q2 q3 q4
  go_wp2_with fail
  refine (ours_any ⟨E, PA, I, C, ad, n, cq⟩ w0).mono ?_
  rintro e w1 ⟨rfl, hb⟩
  replace HQ := Lib.hid (HQ.out.below hb)
  replace HB := Lib.hid (below_two HB.out hb)
  clear hb q0 q1 q2 q3 q4
  go_wp2_with fail
  refine (write_any ⟨E, PA, I, C, ad, n, cq⟩ D w1 (HD.out.up HB.out) (by show n ≤ _; omega)).mono ?_
  rintro e w2 ⟨A2, n2, c2, rfl, ho2, hb⟩
  replace HQ := Lib.hid (HQ.out.below hb)
  replace HB := Lib.hid (below_two HB.out hb)
  have HO2 := Lib.hid ho2
  clear ho2 hb
  obtain ⟨p, hp⟩ : ∃ p, Pv.pc ⟨E, PA, I, C, ad, n, cq⟩ D = p := ⟨_, rfl⟩
  rw [hp] at HO2 HPC HMM ⊢
  clear hp
  -- the second half, alike in both ways
  have HTAIL : Hid (∀ W, Below w.heap.size w W → Calls Try.prog 14 #[.slice A L c] W (PieceOut W (readP b) (readE b))) := Lib.hid (fun W hW => read_any A c L b W (HLI.out.up hW) (by omega))
  by_cases hm : p.May
  · have hE : p.writeE = 0 := by unfold Pc.writeE; rw [if_pos hm]
    have hW : p.writeB = p.sector := by unfold Pc.writeB; rw [if_pos hm]
    obtain ⟨hr1, hr2⟩ := read_write p hm
    have hsl := length_sector p hm.len
    rw [hW] at HO2
    rw [hE]
    have hn2 : n2 = 64 := by rw [← HO2.out.len, hsl]
    subst hn2
    have hcall := read_any A2 c2 64 p.sector w2 HO2.out.lies (by omega)
    rw [hr1, hr2] at hcall
    have HCA := Lib.hid hcall
    clear hE hW hm hr1 hr2 hsl hcall HMM
    go_wp2_with fail
    refine HCA.out.mono ?_
    rintro e w3 ⟨A3, n3, c3, rfl, ho3, hb3⟩
    rw [HPC.out] at ho3 ⊢
    simp only at ho3 ⊢
    have hb4 := below_new w3 (.cells (pvC ⟨E, PA, I, C, A3, n3, c3⟩) 31)
    have HR := Lib.hid (Bp.new w3 ⟨E, PA, I, C, A3, n3, c3⟩ 31)
    have HD3 := Lib.hid (ho3.below hb4)
    replace HQ := Lib.hid ((HQ.out.below hb3).below hb4)
    replace HB := Lib.hid (below_two (below_two HB.out hb3) hb4)
    clear ho3 hb3 hb4 HCA HO2
    go_wp2_with fail
    generalize hw4 : w3.alloc (.cells #[.int .i64 E, .int .i64 PA, .int .i64 I, .int .i64 C, .slice A3 n3 c3] 31) = w4
    replace HQ : Hid (Bp w4 w.heap.size ⟨E, PA, I, C, ad, n, cq⟩ 24) := by rw [← hw4]; exact HQ
    replace HR : Hid (Bp w4 w3.heap.size ⟨E, PA, I, C, A3, n3, c3⟩ 31) := by rw [← hw4]; exact HR
    replace HB : Hid (Below w.heap.size w w4) := by rw [← hw4]; exact HB
    have HD4 : Hid (Lies w4 A3 c3 n3 D) := Lib.hid (by have := HD3.out.lies; rw [← hw4]; exact this)
    clear hw4 HD3
    have HDW := Lib.hid (HD.out.up HB.out)
    have p0 : ∀ V, Since w4 V → V.cell? ⟨w3.heap.size, 0, none⟩ = some (.int .i64 E) := fun V hV => (HR.out.below hV).c0
    have p1 : ∀ V, Since w4 V → V.cell? ⟨w3.heap.size, 1, none⟩ = some (.int .i64 PA) := fun V hV => (HR.out.below hV).c1
    have p2 : ∀ V, Since w4 V → V.cell? ⟨w3.heap.size, 2, none⟩ = some (.int .i64 I) := fun V hV => (HR.out.below hV).c2
    have p3 : ∀ V, Since w4 V → V.cell? ⟨w3.heap.size, 3, none⟩ = some (.int .i64 C) := fun V hV => (HR.out.below hV).c3
    have p4 : ∀ V, Since w4 V → V.cell? ⟨w3.heap.size, 4, none⟩ = some (.slice A3 n3 c3) := fun V hV => (HR.out.below hV).c4
    have s0 : ∀ V, Since w4 V → V.cell? ⟨w.heap.size, 0, none⟩ = some (.int .i64 E) := fun V hV => (HQ.out.below hV).c0
    have s1 : ∀ V, Since w4 V → V.cell? ⟨w.heap.size, 1, none⟩ = some (.int .i64 PA) := fun V hV => (HQ.out.below hV).c1
    have s2 : ∀ V, Since w4 V → V.cell? ⟨w.heap.size, 2, none⟩ = some (.int .i64 I) := fun V hV => (HQ.out.below hV).c2
    have s3 : ∀ V, Since w4 V → V.cell? ⟨w.heap.size, 3, none⟩ = some (.int .i64 C) := fun V hV => (HQ.out.below hV).c3
    have s4 : ∀ V, Since w4 V → V.cell? ⟨w.heap.size, 4, none⟩ = some (.slice ad n cq) := fun V hV => (HQ.out.below hV).c4
    refine wp_region_since (by kernel_rfl) ?_
    have hS : Since w4 (World.drew w4) := (Below.refl _ _).drew
    refine wpAnyH_take (i := 0) (oi := ⟨some 38, _, _, _, _, _⟩) (v := ?_) rfl (by kernel_rfl) (by kernel_rfl) (by kernel_rfl) (fun _ _ _ h => h) (Or.inl ⟨by rfl, ?_⟩) hS ?_
    rotate_left
    · intro W hW; go_simp; with_reducible rfl
    try simp only [Act.put, List.setIfInBounds_toArray, List.set_cons_zero, List.set_cons_succ]
    refine wpAnyH_take (i := 1) (oi := ⟨some 39, _, _, _, _, _⟩) (v := ?_) rfl (by kernel_rfl) (by kernel_rfl) (by kernel_rfl) (fun _ _ _ h => h) (Or.inl ⟨by rfl, ?_⟩) hS ?_
    rotate_left
    · intro W hW; go_simp; with_reducible rfl
    try simp only [Act.put, List.setIfInBounds_toArray, List.set_cons_zero, List.set_cons_succ]
    refine wpAnyH_take (i := 2) (oi := ⟨some 40, _, _, _, _, _⟩) (v := ?_) rfl (by kernel_rfl) (by kernel_rfl) (by kernel_rfl) (fun _ _ _ h => h) (Or.inl ⟨by rfl, ?_⟩) hS ?_
    rotate_left
    · intro W hW; go_simp; with_reducible rfl
    try simp only [Act.put, List.setIfInBounds_toArray, List.set_cons_zero, List.set_cons_succ]
    refine wpAnyH_take (i := 3) (oi := ⟨some 41, _, _, _, _, _⟩) (v := ?_) rfl (by kernel_rfl) (by kernel_rfl) (by kernel_rfl) (fun _ _ _ h => h) (Or.inl ⟨by rfl, ?_⟩) hS ?_
    rotate_left
    · intro W hW; go_simp; with_reducible rfl
    try simp only [Act.put, List.setIfInBounds_toArray, List.set_cons_zero, List.set_cons_succ]
    refine wpAnyH_take (i := 5) (oi := ⟨some 43, _, _, _, _, _⟩) (v := ?_) rfl (by kernel_rfl) (by kernel_rfl) (by kernel_rfl) (fun _ _ _ h => h) (Or.inl ⟨by rfl, ?_⟩) hS ?_
    rotate_left
    · intro W hW; go_simp; with_reducible rfl
    try simp only [Act.put, List.setIfInBounds_toArray, List.set_cons_zero, List.set_cons_succ]
    refine wpAnyH_ready (rs := [4]) (by kernel_rfl) (by simp) ?_
    refine AllReadyH.cons (o := ⟨some 42, _, _, _, _, _⟩) rfl (fun Kr hKr => ?_) AllReadyH.nil
    -- operation 4: a call
    go_simp
    refine (theirs_any ⟨E, PA, I, C, A3, n3, c3⟩ _).mono ?_
    rintro e w5 ⟨rfl, hx⟩
    show Kr _ _
    refine hKr.out _ _ ?_ (fun _ => ?_)
    · exact since_trans hS hx
    clear hKr Kr
    replace hS : Since w4 w5 := since_trans hS hx
    try simp only [Act.put, List.setIfInBounds_toArray, List.set_cons_zero, List.set_cons_succ]
    refine wpAnyH_ready (rs := [6]) (by kernel_rfl) (by simp) ?_
    refine AllReadyH.cons (o := ⟨some 44, _, _, _, _, _⟩) rfl (fun Kr hKr => ?_) AllReadyH.nil
    -- operation 6: a call
    go_simp
    refine (same_any E PA I C A3 ad n3 c3 n cq D _ (HD4.out.up hS) (HDW.out.up hS)).mono ?_
    rintro e w6 ⟨rfl, hx⟩
    show Kr _ _
    refine hKr.out _ _ ?_ (fun _ => ?_)
    · exact since_trans hS hx
    clear hKr Kr
    replace hS : Since w4 w6 := since_trans hS hx
    try simp only [Act.put, List.setIfInBounds_toArray, List.set_cons_zero, List.set_cons_succ]
    refine wpAnyH_take (i := 7) (oi := ⟨some 45, _, _, _, _, _⟩) (v := ?_) rfl (by kernel_rfl) (by kernel_rfl) (by kernel_rfl) (fun _ _ _ h => h) (Or.inl ⟨by rfl, ?_⟩) hS ?_
    rotate_left
    · intro W hW; go_simp; with_reducible rfl
    try simp only [Act.put, List.setIfInBounds_toArray, List.set_cons_zero, List.set_cons_succ]
    refine wpAnyH_take (i := 8) (oi := ⟨some 46, _, _, _, _, _⟩) (v := ?_) rfl (by kernel_rfl) (by kernel_rfl) (by kernel_rfl) (fun _ _ _ h => h) (Or.inl ⟨by rfl, ?_⟩) hS ?_
    rotate_left
    · intro W hW; go_simp; with_reducible rfl
    try simp only [Act.put, List.setIfInBounds_toArray, List.set_cons_zero, List.set_cons_succ]
    refine wpAnyH_take (i := 9) (oi := ⟨some 47, _, _, _, _, _⟩) (v := ?_) rfl (by kernel_rfl) (by kernel_rfl) (by kernel_rfl) (fun _ _ _ h => h) (Or.inl ⟨by rfl, ?_⟩) hS ?_
    rotate_left
    · intro W hW; go_simp; with_reducible rfl
    try simp only [Act.put, List.setIfInBounds_toArray, List.set_cons_zero, List.set_cons_succ]
    refine wpAnyH_take (i := 10) (oi := ⟨some 48, _, _, _, _, _⟩) (v := ?_) rfl (by kernel_rfl) (by kernel_rfl) (by kernel_rfl) (fun _ _ _ h => h) (Or.inl ⟨by rfl, ?_⟩) hS ?_
    rotate_left
    · intro W hW; go_simp; with_reducible rfl
    try simp only [Act.put, List.setIfInBounds_toArray, List.set_cons_zero, List.set_cons_succ]
    refine wpAnyH_take (i := 11) (oi := ⟨some 49, _, _, _, _, _⟩) (v := ?_) rfl (by kernel_rfl) (by kernel_rfl) (by kernel_rfl) (fun _ _ _ h => h) (Or.inl ⟨by rfl, ?_⟩) hS ?_
    rotate_left
    · intro W hW; go_simp; with_reducible rfl
    try simp only [Act.put, List.setIfInBounds_toArray, List.set_cons_zero, List.set_cons_succ]
    refine wpAnyH_take (i := 12) (oi := ⟨some 50, _, _, _, _, _⟩) (v := ?_) rfl (by kernel_rfl) (by kernel_rfl) (by kernel_rfl) (fun _ _ _ h => h) (Or.inl ⟨by rfl, ?_⟩) hS ?_
    rotate_left
    · intro W hW; go_simp; with_reducible rfl
    try simp only [Act.put, List.setIfInBounds_toArray, List.set_cons_zero, List.set_cons_succ]
    refine wpAnyH_take (i := 13) (oi := ⟨some 51, _, _, _, _, _⟩) (v := ?_) rfl (by kernel_rfl) (by kernel_rfl) (by kernel_rfl) (fun _ _ _ h => h) (Or.inl ⟨by rfl, ?_⟩) hS ?_
    rotate_left
    · intro W hW; go_simp; with_reducible rfl
    try simp only [Act.put, List.setIfInBounds_toArray, List.set_cons_zero, List.set_cons_succ]
    refine wpAnyH_done (by kernel_rfl) ?_ _
    replace HB := Lib.hid (below_two HB.out hS)
    clear p0 p1 p2 p3 p4 s0 s1 s2 s3 s4 HQ HR hS
    go_wp2_with fail
    refine (HTAIL.out _ HB.out).mono ?_
    rintro e w7 ⟨A7, n7, c7, rfl, ho7, hb7⟩
    have HO7 := Lib.hid ho7
    replace HB := Lib.hid (below_two HB.out hb7)
    clear ho7 hb7 HTAIL
    by_cases hr : readE b = 0
    · have hpm := readP_may b hr
      have hps := write_read b hr
      rw [hr]
      generalize readP b = p2 at *
      obtain ⟨RE, RA, RI, RC, RD⟩ := p2
      simp only at HO7 ⊢
      have hb8 := below_new w7 (.cells (pvC ⟨RE, RA, RI, RC, A7, n7, c7⟩) 31)
      have HR8 := Lib.hid (Bp.new w7 ⟨RE, RA, RI, RC, A7, n7, c7⟩ 31)
      have HD8 := Lib.hid (HO7.out.below hb8)
      replace HB := Lib.hid (below_two HB.out hb8)
      have q0 := HR8.out.c0
      have q1 := HR8.out.c1
      have q2 := HR8.out.c2
      have q3 := HR8.out.c3
      have q4 := HR8.out.c4
      simp only at q0 q1 q2 q3 q4
      have hn7 : n7 ≤ 44 := by have h1 := hpm.len; have h2 := HO7.out.len; simp only at h1; omega
      have hcall := write_any ⟨RE, RA, RI, RC, A7, n7, c7⟩ RD _ HD8.out.lies (by show n7 ≤ _; omega)
      have hE2 : (Pv.pc ⟨RE, RA, RI, RC, A7, n7, c7⟩ RD).writeE = 0 := by unfold Pc.writeE; rw [if_pos]; exact hpm
      have hW2 : (Pv.pc ⟨RE, RA, RI, RC, A7, n7, c7⟩ RD).writeB = b := by unfold Pc.writeB; rw [if_pos]; exact hps; exact hpm
      rw [hE2, hW2] at hcall
      have HCA := Lib.hid hcall
      clear hr hpm hps hb8 hE2 hW2 hcall HO7
      go_wp2_with fail
      refine HCA.out.mono ?_
      rintro e w9 ⟨A9, n9, c9, rfl, ho9, hb9⟩
      have k1 := ho9.lies.conv
      have k2 := ((HLI.out.up HB.out).up hb9).conv
      replace HB := Lib.hid (below_two HB.out hb9)
      clear ho9 hb9 q0 q1 q2 q3 q4 HCA
      go_wp2_with fail
      go_ret
      exact ⟨by simp, HB.out⟩
    · have hne : (readE b != 0) = true := by rw [bne_iff_ne]; exact hr
      have hpn := readP_not b hr
      rw [hpn] at HO7 ⊢
      have hdd : Pc.none.D = [] := rfl
      rw [hdd] at HO7
      generalize readE b = RE at *
      have hb8 := below_new w7 (.cells (pvC ⟨0, 0, 0, 0, A7, n7, c7⟩) 31)
      have HR8 := Lib.hid (Bp.new w7 ⟨0, 0, 0, 0, A7, n7, c7⟩ 31)
      have HD8 := Lib.hid (HO7.out.below hb8)
      replace HB := Lib.hid (below_two HB.out hb8)
      have hz : (Value.tuple #[.agg #[.int .i64 Pc.none.E, .int .i64 Pc.none.A, .int .i64 Pc.none.I, .int .i64 Pc.none.C, .slice A7 n7 c7], .int .i64 RE]) = .tuple #[.agg #[.int .i64 0, .int .i64 0, .int .i64 0, .int .i64 0, .slice A7 n7 c7], .int .i64 RE] := rfl
      rw [hz]
      have q0 := HR8.out.c0
      have q1 := HR8.out.c1
      have q2 := HR8.out.c2
      have q3 := HR8.out.c3
      have q4 := HR8.out.c4
      simp only at q0 q1 q2 q3 q4
      clear hr hpn hdd hb8 hz HO7
      go_wp2_with fail
      refine (theirs_any ⟨0, 0, 0, 0, A7, n7, c7⟩ _).mono ?_
      rintro e w9 ⟨rfl, hb9⟩
      have HD9 := Lib.hid (HD8.out.below hb9)
      replace HB := Lib.hid (below_two HB.out hb9)
      clear hb9 q0 q1 q2 q3 q4 HR8 HD8
      go_wp2_with fail
      refine (same_any 0 0 0 0 A7 none n7 c7 0 0 [] w9 HD9.out.lies ⟨.inl rfl, rfl, Nat.le_refl _⟩).mono ?_
      rintro e w10 ⟨rfl, hb10⟩
      replace HB := Lib.hid (below_two HB.out hb10)
      clear hb10
      go_wp2_with fail
      go_ret
      exact ⟨rfl, HB.out⟩
  · have hE : p.writeE = 1 := by unfold Pc.writeE; rw [if_neg hm]
    rw [hE]
    clear hE hm
    go_wp2_with fail
    refine (HTAIL.out _ HB.out).mono ?_
    rintro e w7 ⟨A7, n7, c7, rfl, ho7, hb7⟩
    have HO7 := Lib.hid ho7
    replace HB := Lib.hid (below_two HB.out hb7)
    clear ho7 hb7 HTAIL
    by_cases hr : readE b = 0
    · have hpm := readP_may b hr
      have hps := write_read b hr
      rw [hr]
      generalize readP b = p2 at *
      obtain ⟨RE, RA, RI, RC, RD⟩ := p2
      simp only at HO7 ⊢
      have hb8 := below_new w7 (.cells (pvC ⟨RE, RA, RI, RC, A7, n7, c7⟩) 31)
      have HR8 := Lib.hid (Bp.new w7 ⟨RE, RA, RI, RC, A7, n7, c7⟩ 31)
      have HD8 := Lib.hid (HO7.out.below hb8)
      replace HB := Lib.hid (below_two HB.out hb8)
      have q0 := HR8.out.c0
      have q1 := HR8.out.c1
      have q2 := HR8.out.c2
      have q3 := HR8.out.c3
      have q4 := HR8.out.c4
      simp only at q0 q1 q2 q3 q4
      have hn7 : n7 ≤ 44 := by have h1 := hpm.len; have h2 := HO7.out.len; simp only at h1; omega
      have hcall := write_any ⟨RE, RA, RI, RC, A7, n7, c7⟩ RD _ HD8.out.lies (by show n7 ≤ _; omega)
      have hE2 : (Pv.pc ⟨RE, RA, RI, RC, A7, n7, c7⟩ RD).writeE = 0 := by unfold Pc.writeE; rw [if_pos]; exact hpm
      have hW2 : (Pv.pc ⟨RE, RA, RI, RC, A7, n7, c7⟩ RD).writeB = b := by unfold Pc.writeB; rw [if_pos]; exact hps; exact hpm
      rw [hE2, hW2] at hcall
      have HCA := Lib.hid hcall
      clear hr hpm hps hb8 hE2 hW2 hcall HO7
      go_wp2_with fail
      refine HCA.out.mono ?_
      rintro e w9 ⟨A9, n9, c9, rfl, ho9, hb9⟩
      have k1 := ho9.lies.conv
      have k2 := ((HLI.out.up HB.out).up hb9).conv
      replace HB := Lib.hid (below_two HB.out hb9)
      clear ho9 hb9 q0 q1 q2 q3 q4 HCA
      go_wp2_with fail
      go_ret
      exact ⟨by simp, HB.out⟩
    · have hne : (readE b != 0) = true := by rw [bne_iff_ne]; exact hr
      have hpn := readP_not b hr
      rw [hpn] at HO7 ⊢
      have hdd : Pc.none.D = [] := rfl
      rw [hdd] at HO7
      generalize readE b = RE at *
      have hb8 := below_new w7 (.cells (pvC ⟨0, 0, 0, 0, A7, n7, c7⟩) 31)
      have HR8 := Lib.hid (Bp.new w7 ⟨0, 0, 0, 0, A7, n7, c7⟩ 31)
      have HD8 := Lib.hid (HO7.out.below hb8)
      replace HB := Lib.hid (below_two HB.out hb8)
      have hz : (Value.tuple #[.agg #[.int .i64 Pc.none.E, .int .i64 Pc.none.A, .int .i64 Pc.none.I, .int .i64 Pc.none.C, .slice A7 n7 c7], .int .i64 RE]) = .tuple #[.agg #[.int .i64 0, .int .i64 0, .int .i64 0, .int .i64 0, .slice A7 n7 c7], .int .i64 RE] := rfl
      rw [hz]
      have q0 := HR8.out.c0
      have q1 := HR8.out.c1
      have q2 := HR8.out.c2
      have q3 := HR8.out.c3
      have q4 := HR8.out.c4
      simp only at q0 q1 q2 q3 q4
      clear hr hpn hdd hb8 hz HO7
      go_wp2_with fail
      refine (theirs_any ⟨0, 0, 0, 0, A7, n7, c7⟩ _).mono ?_
      rintro e w9 ⟨rfl, hb9⟩
      have HD9 := Lib.hid (HD8.out.below hb9)
      replace HB := Lib.hid (below_two HB.out hb9)
      clear hb9 q0 q1 q2 q3 q4 HR8 HD8
      go_wp2_with fail
      refine (same_any 0 0 0 0 A7 none n7 c7 0 0 [] w9 HD9.out.lies ⟨.inl rfl, rfl, Nat.le_refl _⟩).mono ?_
      rintro e w10 ⟨rfl, hb10⟩
      replace HB := Lib.hid (below_two HB.out hb10)
      clear hb10
      go_wp2_with fail
      go_ret
      exact ⟨rfl, HB.out⟩

end Go.Proofs.Ytofekbipbndbbaa
