/-
  SuperIs: the walk: whether any super may be, its sector, any bytes' one, and where all stands: the program's answer is the document's.
-/
import Derived.Test.YtojidejlohpeaaaWake8
import Derived.Test.YtojidejlohpeaaaRefDec
namespace Go.Proofs.Ytojidejlohpeaaa
set_option maxRecDepth 100000
open Go.RowKit Crc Wm Sup

set_option maxHeartbeats 4000000 in
theorem is_walk (s : Sup) (A : Option Addr) (n c : Nat) (l : List UInt8) (w : World) (hl : Lies w A c n l) : Calls Try.prog 3 #[supV s, .slice A n c] w fun e w' => e = .returned (.bool true) ∧ Below w.heap.size w w' := by
  have HL := Lib.hid hl
  have HS0 : Hid (SupAt (w.alloc (.cells (supC s) 23)) w.heap.size 23 s) := Lib.hid (heap_alloc_new w _)
  have HB0 := Lib.hid (below_new w (.cells (supC s) 23))
  clear hl
  unfold supV
  obtain ⟨C, hC⟩ : ∃ C, C = supC s := ⟨_, rfl⟩
  rw [← hC] at HS0 HB0 ⊢
  clear hC
  rcases Nat.lt_or_ge 200 n with hgt | hle
  · have hd : decide ((200 : Int) < (n : Int)) = true := decide_eq_true (by omega)
    go_enter Try.func3, Try.ntmps3
    go_upto_region 1 with fail
    generalize w.alloc (.cells C 23) = w0 at *
    go_wp2_with fail
    refine (awake_any w0).mono ?_
    rintro e w1 ⟨rfl, hb1⟩
    have HB1 := Lib.hid (HB0.out.trans (hb1.mono HB0.out.size))
    clear hb1 HS0 HB0
    go_wp2_with fail
    go_ret
    exact ⟨rfl, HB1.out⟩
  have hd : decide ((200 : Int) < (n : Int)) = false := decide_eq_false (by omega)
  go_enter Try.func3, Try.ntmps3
  go_upto_region 1 with fail
  generalize w.alloc (.cells C 23) = w0 at *
  go_wp2_with fail
  refine (awake_any w0).mono ?_
  rintro e w1 ⟨rfl, hb1⟩
  have HS1 := Lib.hid (HS0.out.below hb1)
  have HB1 := Lib.hid (HB0.out.trans (hb1.mono HB0.out.size))
  clear hb1 HS0 HB0
  go_wp2_with (refine wpList_load_sup tyR HS1.out rfl (.tmp 2) rfl rfl ?_)
  refine (ours_any w1 s).mono ?_
  rintro e w2 ⟨rfl, hb2⟩
  go_wp2_with fail
  refine (enc_any w2 s).mono ?_
  rintro e w3 ⟨A3, n3, c3, rfl, hn3, ho3, hb3⟩
  clear hn3
  have HO3 := Lib.hid ho3.lies
  have HS3 := Lib.hid (HS1.out.below (below_two hb2 hb3))
  have HB3 := Lib.hid (HB1.out.trans ((below_two hb2 hb3).mono HB1.out.size))
  clear hb2 hb3 ho3 HS1 HB1
  go_wp2_with (refine wpList_load_sup tyR HS3.out rfl (.tmp 2) rfl rfl ?_)
  refine (refenc_any w3 s).mono ?_
  rintro e w4 ⟨A4, n4, c4, rfl, hn4, ho4, hb4⟩
  clear hn4
  have HO4 := Lib.hid ho4.lies
  have HX4 := Lib.hid (HO3.out.up hb4)
  have HS4 := Lib.hid (HS3.out.below hb4)
  have HB4 := Lib.hid (HB3.out.trans (hb4.mono HB3.out.size))
  clear hb4 ho4 HS3 HB3 HO3
  go_wp2_with fail
  refine (dec_any A c n l w4 (HL.out.up HB4.out) (by omega)).mono ?_
  rintro e w5 ⟨rfl, hb5⟩
  have HLL := Lib.hid (HL.out.up HB4.out)
  have HB5 := Lib.hid hb5
  clear hb5
  obtain ⟨d, hdd⟩ : ∃ d, d = decS l := ⟨_, rfl⟩
  obtain ⟨E, hE⟩ : ∃ E, E = decE l := ⟨_, rfl⟩
  rw [← hdd, ← hE]
  have HDE := Lib.hid (show _ ∧ _ from ⟨hdd, hE⟩)
  clear hdd hE
  go_wp2_with (refine wpList_store_sup tyP (zero_new w5 _) rfl (.tmp 10) (.tmp 41) rfl rfl d rfl ?_; intro w6 hs6 hg6; have HD6 := Lib.hid hs6; have HB6 := Lib.hid (below_two HB5.out (box_below hg6)); clear hs6 hg6)
  have HL6 := Lib.hid (HLL.out.up HB6.out)
  have HS6 := Lib.hid (HS4.out.below HB6.out)
  have HO6 := Lib.hid (HO4.out.up HB6.out)
  have HX6 := Lib.hid (HX4.out.up HB6.out)
  have HP6 := Lib.hid (HB4.out.trans (HB6.out.mono HB4.out.size))
  clear HB6 HB5 HLL HS4 HO4 HX4 HB4
  refine (refdec_any A c n l w6 HL6.out (by omega)).mono ?_
  rintro e w7 ⟨rfl, hb7⟩
  have HB7 := Lib.hid hb7
  clear hb7
  rw [← HDE.out.1, ← HDE.out.2]
  go_wp2_with (first
    | (refine wpList_load_sup tyR HS8.out rfl (.tmp 2) rfl rfl ?_)
    | (refine wpList_store_sup tyR (zero_new w7 _) rfl (.tmp 12) (.tmp 46) rfl rfl d rfl ?_; intro w8 hs8 hg8; have HR8 := Lib.hid hs8; have HB8 := Lib.hid (below_two HB7.out (box_below hg8)); have HD8 := Lib.hid (HD6.out.below HB8.out); have HS8 := Lib.hid (HS6.out.below HB8.out); have HO8 := Lib.hid (HO6.out.up HB8.out); have HX8 := Lib.hid (HX6.out.up HB8.out); have HP8 := Lib.hid (HP6.out.trans (HB8.out.mono HP6.out.size)); clear hs8 hg8))
  refine (ours_any w8 s).mono ?_
  rintro e w9 ⟨rfl, hb9⟩
  go_wp2_with fail
  refine (layout_any w9 s).mono ?_
  rintro e w10 ⟨rfl, hb10⟩
  obtain ⟨i0, i1, i2, i3, hlv⟩ : ∃ i0 i1 i2 i3 : Int, layV s = .tuple #[.int .i64 i0, .int .i64 i1, .int .i64 i2, .int .i64 i3] := ⟨_, _, _, _, rfl⟩
  rw [hlv]
  have HLV := Lib.hid hlv
  have HB10 := Lib.hid (below_two hb9 hb10)
  have HS10 := Lib.hid (HS8.out.below HB10.out)
  clear hb9 hb10 hlv
  go_wp2_with (refine wpList_load_sup tyR HS10.out rfl (.tmp 2) rfl rfl ?_)
  refine (reflayout_any w10 s).mono ?_
  rintro e w11 ⟨rfl, hb11⟩
  rw [HLV.out]
  have HB11 := Lib.hid (below_two HB10.out hb11)
  have HSX := Lib.hid (HS8.out.below HB11.out)
  have HDX := Lib.hid (HD8.out.below HB11.out)
  have HRX := Lib.hid (HR8.out.below HB11.out)
  have HOX := Lib.hid (HO8.out.up HB11.out)
  have HXX := Lib.hid (HX8.out.up HB11.out)
  have HPX := Lib.hid (HP8.out.trans (HB11.out.mono HP8.out.size))
  clear hb11 HB10 HB11 HS10 HS8 HD8 HR8 HO8 HX8 HP8 HB7 HB8 HL6 HS6 HO6 HX6 HP6 HD6 HLV HDE
  go_upto_region 10 with fail
  have hcx : ∀ V, Since w11 V → (convert 24 9 (.slice A3 n3 c3)).run Try.prog V = .ok (.string ⟨s.encB.toArray⟩) V := fun V hV => (HXX.out.up hV).conv
  have hcy : ∀ V, Since w11 V → (convert 24 9 (.slice A4 n4 c4)).run Try.prog V = .ok (.string ⟨s.encB.toArray⟩) V := fun V hV => (HOX.out.up hV).conv
  have s0 : ∀ V, Since w11 V → V.cell? ⟨w.heap.size, 0, none⟩ = some (.int .i64 s.V) := fun V hV => (HSX.out.below hV).cell (i := 0) (by omega)
  have s1 : ∀ V, Since w11 V → V.cell? ⟨w.heap.size, 1, none⟩ = some (.int .i64 s.E) := fun V hV => (HSX.out.below hV).cell (i := 1) (by omega)
  have s2 : ∀ V, Since w11 V → V.cell? ⟨w.heap.size, 2, none⟩ = some (.int .i64 s.B) := fun V hV => (HSX.out.below hV).cell (i := 2) (by omega)
  have s3 : ∀ V, Since w11 V → V.cell? ⟨w.heap.size, 3, none⟩ = some (.int .i64 s.C) := fun V hV => (HSX.out.below hV).cell (i := 3) (by omega)
  have s4 : ∀ V, Since w11 V → V.cell? ⟨w.heap.size, 4, none⟩ = some (.int .i64 s.L) := fun V hV => (HSX.out.below hV).cell (i := 4) (by omega)
  have s5 : ∀ V, Since w11 V → V.cell? ⟨w.heap.size, 5, none⟩ = some (.int .i64 s.H) := fun V hV => (HSX.out.below hV).cell (i := 5) (by omega)
  have s6 : ∀ V, Since w11 V → V.cell? ⟨w.heap.size, 6, none⟩ = some (.int .i64 s.A) := fun V hV => (HSX.out.below hV).cell (i := 6) (by omega)
  have d0 : ∀ V, Since w11 V → V.cell? ⟨w5.heap.size, 0, none⟩ = some (.int .i64 d.V) := fun V hV => (HDX.out.below hV).cell (i := 0) (by omega)
  have d1 : ∀ V, Since w11 V → V.cell? ⟨w5.heap.size, 1, none⟩ = some (.int .i64 d.E) := fun V hV => (HDX.out.below hV).cell (i := 1) (by omega)
  have d2 : ∀ V, Since w11 V → V.cell? ⟨w5.heap.size, 2, none⟩ = some (.int .i64 d.B) := fun V hV => (HDX.out.below hV).cell (i := 2) (by omega)
  have d3 : ∀ V, Since w11 V → V.cell? ⟨w5.heap.size, 3, none⟩ = some (.int .i64 d.C) := fun V hV => (HDX.out.below hV).cell (i := 3) (by omega)
  have d4 : ∀ V, Since w11 V → V.cell? ⟨w5.heap.size, 4, none⟩ = some (.int .i64 d.L) := fun V hV => (HDX.out.below hV).cell (i := 4) (by omega)
  have d5 : ∀ V, Since w11 V → V.cell? ⟨w5.heap.size, 5, none⟩ = some (.int .i64 d.H) := fun V hV => (HDX.out.below hV).cell (i := 5) (by omega)
  have d6 : ∀ V, Since w11 V → V.cell? ⟨w5.heap.size, 6, none⟩ = some (.int .i64 d.A) := fun V hV => (HDX.out.below hV).cell (i := 6) (by omega)
  have r0 : ∀ V, Since w11 V → V.cell? ⟨w7.heap.size, 0, none⟩ = some (.int .i64 d.V) := fun V hV => (HRX.out.below hV).cell (i := 0) (by omega)
  have r1 : ∀ V, Since w11 V → V.cell? ⟨w7.heap.size, 1, none⟩ = some (.int .i64 d.E) := fun V hV => (HRX.out.below hV).cell (i := 1) (by omega)
  have r2 : ∀ V, Since w11 V → V.cell? ⟨w7.heap.size, 2, none⟩ = some (.int .i64 d.B) := fun V hV => (HRX.out.below hV).cell (i := 2) (by omega)
  have r3 : ∀ V, Since w11 V → V.cell? ⟨w7.heap.size, 3, none⟩ = some (.int .i64 d.C) := fun V hV => (HRX.out.below hV).cell (i := 3) (by omega)
  have r4 : ∀ V, Since w11 V → V.cell? ⟨w7.heap.size, 4, none⟩ = some (.int .i64 d.L) := fun V hV => (HRX.out.below hV).cell (i := 4) (by omega)
  have r5 : ∀ V, Since w11 V → V.cell? ⟨w7.heap.size, 5, none⟩ = some (.int .i64 d.H) := fun V hV => (HRX.out.below hV).cell (i := 5) (by omega)
  have r6 : ∀ V, Since w11 V → V.cell? ⟨w7.heap.size, 6, none⟩ = some (.int .i64 d.A) := fun V hV => (HRX.out.below hV).cell (i := 6) (by omega)
  obtain ⟨xb, hxb⟩ : ∃ xb, xb = s.encB := ⟨_, rfl⟩
  rw [← hxb] at hcx hcy
  obtain ⟨q, HQ⟩ : ∃ q, Hid (q = decide s.May) := ⟨_, Lib.hid rfl⟩
  have nq : ∀ V, Since w11 V → (binOp .eql 23 (supV d) (.agg #[.int .i64 d.V, .int .i64 d.E, .int .i64 d.B, .int .i64 d.C, .int .i64 d.L, .int .i64 d.H, .int .i64 d.A])).run Try.prog V = .ok (.bool true) V := fun V _ => by
    have h := run_ref_eql d d V
    rw [supEq_self] at h
    exact h
  have ng : ∀ V, Since w11 V → (eqGuard .eql 23 (.tmp 86) (.tmp 87) (supV d) (.agg #[.int .i64 d.V, .int .i64 d.E, .int .i64 d.B, .int .i64 d.C, .int .i64 d.L, .int .i64 d.H, .int .i64 d.A])).run Try.prog V = .ok () V := fun V _ => run_ref_guard .eql _ _ d d V
  clear hxb
  refine wp_region_since (by kernel_rfl) ?_
  have hS : Since w11 (World.drew w11) := (Below.refl _ _).drew
  refine wpAnyH_take (i := 0) (oi := ⟨some 63, _, _, _, _, _⟩) (v := ?_) rfl (by kernel_rfl) (by kernel_rfl) (by kernel_rfl) (fun _ _ _ h => h) (Or.inl ⟨by rfl, ?_⟩) hS ?_
  rotate_left
  · intro W hW; go_simp; with_reducible rfl
  try simp only [Act.put, List.setIfInBounds_toArray, List.set_cons_zero, List.set_cons_succ]
  refine wpAnyH_take (i := 1) (oi := ⟨some 64, _, _, _, _, _⟩) (v := ?_) rfl (by kernel_rfl) (by kernel_rfl) (by kernel_rfl) (fun _ _ _ h => h) (Or.inl ⟨by rfl, ?_⟩) hS ?_
  rotate_left
  · intro W hW; go_simp; with_reducible rfl
  try simp only [Act.put, List.setIfInBounds_toArray, List.set_cons_zero, List.set_cons_succ]
  refine wpAnyH_take (i := 2) (oi := ⟨some 65, _, _, _, _, _⟩) (v := ?_) rfl (by kernel_rfl) (by kernel_rfl) (by kernel_rfl) (fun _ _ _ h => h) (Or.inl ⟨by rfl, ?_⟩) hS ?_
  rotate_left
  · intro W hW; go_simp; with_reducible rfl
  try simp only [Act.put, List.setIfInBounds_toArray, List.set_cons_zero, List.set_cons_succ]
  refine wpAnyH_take (i := 5) (oi := ⟨some 68, _, _, _, _, _⟩) (v := ?_) rfl (by kernel_rfl) (by kernel_rfl) (by kernel_rfl) (fun _ _ _ h => h) (Or.inl ⟨by rfl, ?_⟩) hS ?_
  rotate_left
  · intro W hW; go_simp; with_reducible rfl
  try simp only [Act.put, List.setIfInBounds_toArray, List.set_cons_zero, List.set_cons_succ]
  refine wpAnyH_ready (rs := [3]) (by kernel_rfl) (by simp) ?_
  refine AllReadyH.cons (o := ⟨some 66, _, _, _, _, _⟩) rfl (fun Kr hKr => ?_) AllReadyH.nil
  -- operation 3: a call
  go_simp
  refine (ours_any _ s).mono ?_
  rintro e V1 ⟨rfl, hx⟩
  show Kr _ _
  refine hKr.out _ _ ?_ (fun _ => ?_)
  · exact since_trans hS hx
  clear hKr Kr
  replace hS : Since w11 V1 := since_trans hS hx
  try simp only [Act.put, List.setIfInBounds_toArray, List.set_cons_zero, List.set_cons_succ]
  refine wpAnyH_ready (rs := [4]) (by kernel_rfl) (by simp) ?_
  refine AllReadyH.cons (o := ⟨some 67, _, _, _, _, _⟩) rfl (fun Kr hKr => ?_) AllReadyH.nil
  -- operation 4: a call
  go_simp
  refine (sane_any _ s).mono ?_
  rintro e V2 ⟨rfl, hx⟩
  rw [← HQ.out]
  show Kr _ _
  refine hKr.out _ _ ?_ (fun _ => ?_)
  · exact since_trans hS hx
  clear hKr Kr
  replace hS : Since w11 V2 := since_trans hS hx
  try simp only [Act.put, List.setIfInBounds_toArray, List.set_cons_zero, List.set_cons_succ]
  refine wpAnyH_ready (rs := [6]) (by kernel_rfl) (by simp) ?_
  refine AllReadyH.cons (o := ⟨some 69, _, _, _, _, _⟩) rfl (fun Kr hKr => ?_) AllReadyH.nil
  -- operation 6: a call
  go_simp
  refine (refsane_any _ s).mono ?_
  rintro e V3 ⟨rfl, hx⟩
  rw [← HQ.out]
  show Kr _ _
  refine hKr.out _ _ ?_ (fun _ => ?_)
  · exact since_trans hS hx
  clear hKr Kr
  replace hS : Since w11 V3 := since_trans hS hx
  try simp only [Act.put, List.setIfInBounds_toArray, List.set_cons_zero, List.set_cons_succ]
  refine wpAnyH_take (i := 7) (oi := ⟨some 70, _, _, _, _, _⟩) (v := ?_) rfl (by kernel_rfl) (by kernel_rfl) (by kernel_rfl) (fun _ _ _ h => h) (Or.inl ⟨by rfl, ?_⟩) hS ?_
  rotate_left
  · intro W hW; go_simp; with_reducible rfl
  try simp only [Act.put, List.setIfInBounds_toArray, List.set_cons_zero, List.set_cons_succ]
  refine wpAnyH_take (i := 8) (oi := ⟨some 71, _, _, _, _, _⟩) (v := ?_) rfl (by kernel_rfl) (by kernel_rfl) (by kernel_rfl) (fun _ _ _ h => h) (Or.inl ⟨by rfl, ?_⟩) hS ?_
  rotate_left
  · intro W hW; go_simp; with_reducible rfl
  try simp only [Act.put, List.setIfInBounds_toArray, List.set_cons_zero, List.set_cons_succ]
  refine wpAnyH_take (i := 9) (oi := ⟨some 72, _, _, _, _, _⟩) (v := ?_) rfl (by kernel_rfl) (by kernel_rfl) (by kernel_rfl) (fun _ _ _ h => h) (Or.inl ⟨by rfl, ?_⟩) hS ?_
  rotate_left
  · intro W hW; go_simp; with_reducible rfl
  try simp only [Act.put, List.setIfInBounds_toArray, List.set_cons_zero, List.set_cons_succ]
  refine wpAnyH_take (i := 10) (oi := ⟨some 73, _, _, _, _, _⟩) (v := ?_) rfl (by kernel_rfl) (by kernel_rfl) (by kernel_rfl) (fun _ _ _ h => h) (Or.inl ⟨by rfl, ?_⟩) hS ?_
  rotate_left
  · intro W hW; go_simp; with_reducible rfl
  try simp only [Act.put, List.setIfInBounds_toArray, List.set_cons_zero, List.set_cons_succ]
  refine wpAnyH_take (i := 11) (oi := ⟨some 74, _, _, _, _, _⟩) (v := ?_) rfl (by kernel_rfl) (by kernel_rfl) (by kernel_rfl) (fun _ _ _ h => h) (Or.inl ⟨by rfl, ?_⟩) hS ?_
  rotate_left
  · intro W hW; go_simp; with_reducible rfl
  try simp only [Act.put, List.setIfInBounds_toArray, List.set_cons_zero, List.set_cons_succ]
  refine wpAnyH_take (i := 12) (oi := ⟨some 75, _, _, _, _, _⟩) (v := ?_) rfl (by kernel_rfl) (by kernel_rfl) (by kernel_rfl) (fun _ _ _ h => h) (Or.inl ⟨by rfl, ?_⟩) hS ?_
  rotate_left
  · intro W hW; go_simp; with_reducible rfl
  try simp only [Act.put, List.setIfInBounds_toArray, List.set_cons_zero, List.set_cons_succ]
  refine wpAnyH_take (i := 13) (oi := ⟨some 76, _, _, _, _, _⟩) (v := ?_) rfl (by kernel_rfl) (by kernel_rfl) (by kernel_rfl) (fun _ _ _ h => h) (Or.inl ⟨by rfl, ?_⟩) hS ?_
  rotate_left
  · intro W hW; go_simp; with_reducible rfl
  try simp only [Act.put, List.setIfInBounds_toArray, List.set_cons_zero, List.set_cons_succ]
  refine wpAnyH_take (i := 14) (oi := ⟨some 77, _, _, _, _, _⟩) (v := ?_) rfl (by kernel_rfl) (by kernel_rfl) (by kernel_rfl) (fun _ _ _ h => h) (Or.inl ⟨by rfl, ?_⟩) hS ?_
  rotate_left
  · intro W hW; go_simp; with_reducible rfl
  try simp only [Act.put, List.setIfInBounds_toArray, List.set_cons_zero, List.set_cons_succ]
  refine wpAnyH_take (i := 15) (oi := ⟨some 78, _, _, _, _, _⟩) (v := ?_) rfl (by kernel_rfl) (by kernel_rfl) (by kernel_rfl) (fun _ _ _ h => h) (Or.inl ⟨by rfl, ?_⟩) hS ?_
  rotate_left
  · intro W hW; go_simp; with_reducible rfl
  try simp only [Act.put, List.setIfInBounds_toArray, List.set_cons_zero, List.set_cons_succ]
  refine wpAnyH_take (i := 16) (oi := ⟨some 79, _, _, _, _, _⟩) (v := ?_) rfl (by kernel_rfl) (by kernel_rfl) (by kernel_rfl) (fun _ _ _ h => h) (Or.inl ⟨by rfl, ?_⟩) hS ?_
  rotate_left
  · intro W hW; go_simp; with_reducible rfl
  try simp only [Act.put, List.setIfInBounds_toArray, List.set_cons_zero, List.set_cons_succ]
  refine wpAnyH_take (i := 17) (oi := ⟨some 80, _, _, _, _, _⟩) (v := ?_) rfl (by kernel_rfl) (by kernel_rfl) (by kernel_rfl) (fun _ _ _ h => h) (Or.inl ⟨by rfl, ?_⟩) hS ?_
  rotate_left
  · intro W hW; go_simp; with_reducible rfl
  try simp only [Act.put, List.setIfInBounds_toArray, List.set_cons_zero, List.set_cons_succ]
  refine wpAnyH_take (i := 18) (oi := ⟨some 81, _, _, _, _, _⟩) (v := ?_) rfl (by kernel_rfl) (by kernel_rfl) (by kernel_rfl) (fun _ _ _ h => h) (Or.inl ⟨by rfl, ?_⟩) hS ?_
  rotate_left
  · intro W hW; go_simp; with_reducible rfl
  try simp only [Act.put, List.setIfInBounds_toArray, List.set_cons_zero, List.set_cons_succ]
  refine wpAnyH_take (i := 19) (oi := ⟨some 82, _, _, _, _, _⟩) (v := ?_) rfl (by kernel_rfl) (by kernel_rfl) (by kernel_rfl) (fun _ _ _ h => h) (Or.inl ⟨by rfl, ?_⟩) hS ?_
  rotate_left
  · intro W hW; go_simp; with_reducible rfl
  try simp only [Act.put, List.setIfInBounds_toArray, List.set_cons_zero, List.set_cons_succ]
  refine wpAnyH_take (i := 20) (oi := ⟨some 83, _, _, _, _, _⟩) (v := ?_) rfl (by kernel_rfl) (by kernel_rfl) (by kernel_rfl) (fun _ _ _ h => h) (Or.inl ⟨by rfl, ?_⟩) hS ?_
  rotate_left
  · intro W hW; go_simp; with_reducible rfl
  try simp only [Act.put, List.setIfInBounds_toArray, List.set_cons_zero, List.set_cons_succ]
  refine wpAnyH_take (i := 21) (oi := ⟨some 84, _, _, _, _, _⟩) (v := ?_) rfl (by kernel_rfl) (by kernel_rfl) (by kernel_rfl) (fun _ _ _ h => h) (Or.inl ⟨by rfl, ?_⟩) hS ?_
  rotate_left
  · intro W hW; go_simp; with_reducible rfl
  try simp only [Act.put, List.setIfInBounds_toArray, List.set_cons_zero, List.set_cons_succ]
  refine wpAnyH_take (i := 22) (oi := ⟨some 85, _, _, _, _, _⟩) (v := ?_) rfl (by kernel_rfl) (by kernel_rfl) (by kernel_rfl) (fun _ _ _ h => h) (Or.inl ⟨by rfl, ?_⟩) hS ?_
  rotate_left
  · intro W hW; go_simp; with_reducible rfl
  try simp only [Act.put, List.setIfInBounds_toArray, List.set_cons_zero, List.set_cons_succ]
  refine wpAnyH_take (i := 24) (oi := ⟨some 87, _, _, _, _, _⟩) (v := ?_) rfl (by kernel_rfl) (by kernel_rfl) (by kernel_rfl) (fun _ _ _ h => h) (Or.inl ⟨by rfl, ?_⟩) hS ?_
  rotate_left
  · intro W hW; go_simp; with_reducible rfl
  try simp only [Act.put, List.setIfInBounds_toArray, List.set_cons_zero, List.set_cons_succ]
  refine wpAnyH_ready (rs := [23]) (by kernel_rfl) (by simp) ?_
  refine AllReadyH.cons (o := ⟨some 86, _, _, _, _, _⟩) rfl (fun Kr hKr => ?_) AllReadyH.nil
  -- operation 23: a call
  go_simp
  refine (theirs_any _ d).mono ?_
  rintro e V4 ⟨rfl, hx⟩
  show Kr _ _
  refine hKr.out _ _ ?_ (fun _ => ?_)
  · exact since_trans hS hx
  clear hKr Kr
  replace hS : Since w11 V4 := since_trans hS hx
  try simp only [Act.put, List.setIfInBounds_toArray, List.set_cons_zero, List.set_cons_succ]
  refine wpAnyH_take (i := 25) (oi := ⟨some 88, _, _, _, _, _⟩) (v := ?_) rfl (by kernel_rfl) (by kernel_rfl) (by kernel_rfl) (fun _ _ _ h => h) (Or.inl ⟨by rfl, ?_⟩) hS ?_
  rotate_left
  · intro W hW; go_simp; with_reducible rfl
  try simp only [Act.put, List.setIfInBounds_toArray, List.set_cons_zero, List.set_cons_succ]
  refine wpAnyH_take (i := 26) (oi := ⟨some 89, _, _, _, _, _⟩) (v := ?_) rfl (by kernel_rfl) (by kernel_rfl) (by kernel_rfl) (fun _ _ _ h => h) (Or.inl ⟨by rfl, ?_⟩) hS ?_
  rotate_left
  · intro W hW; go_simp; with_reducible rfl
  try simp only [Act.put, List.setIfInBounds_toArray, List.set_cons_zero, List.set_cons_succ]
  refine wpAnyH_take (i := 27) (oi := ⟨some 90, _, _, _, _, _⟩) (v := ?_) rfl (by kernel_rfl) (by kernel_rfl) (by kernel_rfl) (fun _ _ _ h => h) (Or.inl ⟨by rfl, ?_⟩) hS ?_
  rotate_left
  · intro W hW; go_simp; with_reducible rfl
  try simp only [Act.put, List.setIfInBounds_toArray, List.set_cons_zero, List.set_cons_succ]
  refine wpAnyH_take (i := 28) (oi := ⟨some 91, _, _, _, _, _⟩) (v := ?_) rfl (by kernel_rfl) (by kernel_rfl) (by kernel_rfl) (fun _ _ _ h => h) (Or.inl ⟨by rfl, ?_⟩) hS ?_
  rotate_left
  · intro W hW; go_simp; with_reducible rfl
  try simp only [Act.put, List.setIfInBounds_toArray, List.set_cons_zero, List.set_cons_succ]
  refine wpAnyH_take (i := 29) (oi := ⟨some 92, _, _, _, _, _⟩) (v := ?_) rfl (by kernel_rfl) (by kernel_rfl) (by kernel_rfl) (fun _ _ _ h => h) (Or.inl ⟨by rfl, ?_⟩) hS ?_
  rotate_left
  · intro W hW; go_simp; with_reducible rfl
  try simp only [Act.put, List.setIfInBounds_toArray, List.set_cons_zero, List.set_cons_succ]
  refine wpAnyH_take (i := 30) (oi := ⟨some 93, _, _, _, _, _⟩) (v := ?_) rfl (by kernel_rfl) (by kernel_rfl) (by kernel_rfl) (fun _ _ _ h => h) (Or.inl ⟨by rfl, ?_⟩) hS ?_
  rotate_left
  · intro W hW; go_simp; with_reducible rfl
  try simp only [Act.put, List.setIfInBounds_toArray, List.set_cons_zero, List.set_cons_succ]
  refine wpAnyH_take (i := 31) (oi := ⟨some 94, _, _, _, _, _⟩) (v := ?_) rfl (by kernel_rfl) (by kernel_rfl) (by kernel_rfl) (fun _ _ _ h => h) (Or.inl ⟨by rfl, ?_⟩) hS ?_
  rotate_left
  · intro W hW; go_simp; with_reducible rfl
  try simp only [Act.put, List.setIfInBounds_toArray, List.set_cons_zero, List.set_cons_succ]
  refine wpAnyH_take (i := 32) (oi := ⟨some 95, _, _, _, _, _⟩) (v := ?_) rfl (by kernel_rfl) (by kernel_rfl) (by kernel_rfl) (fun _ _ _ h => h) (Or.inl ⟨by rfl, ?_⟩) hS ?_
  rotate_left
  · intro W hW; go_simp; with_reducible rfl
  try simp only [Act.put, List.setIfInBounds_toArray, List.set_cons_zero, List.set_cons_succ]
  refine wpAnyH_take (i := 33) (oi := ⟨some 96, _, _, _, _, _⟩) (v := ?_) rfl (by kernel_rfl) (by kernel_rfl) (by kernel_rfl) (fun _ _ _ h => h) (Or.inl ⟨by rfl, ?_⟩) hS ?_
  rotate_left
  · intro W hW; go_simp; with_reducible rfl
  try simp only [Act.put, List.setIfInBounds_toArray, List.set_cons_zero, List.set_cons_succ]
  refine wpAnyH_take (i := 34) (oi := ⟨some 97, _, _, _, _, _⟩) (v := ?_) rfl (by kernel_rfl) (by kernel_rfl) (by kernel_rfl) (fun _ _ _ h => h) (Or.inl ⟨by rfl, ?_⟩) hS ?_
  rotate_left
  · intro W hW; go_simp; with_reducible rfl
  try simp only [Act.put, List.setIfInBounds_toArray, List.set_cons_zero, List.set_cons_succ]
  refine wpAnyH_take (i := 35) (oi := ⟨some 98, _, _, _, _, _⟩) (v := ?_) rfl (by kernel_rfl) (by kernel_rfl) (by kernel_rfl) (fun _ _ _ h => h) (Or.inl ⟨by rfl, ?_⟩) hS ?_
  rotate_left
  · intro W hW; go_simp; with_reducible rfl
  try simp only [Act.put, List.setIfInBounds_toArray, List.set_cons_zero, List.set_cons_succ]
  refine wpAnyH_take (i := 36) (oi := ⟨some 99, _, _, _, _, _⟩) (v := ?_) rfl (by kernel_rfl) (by kernel_rfl) (by kernel_rfl) (fun _ _ _ h => h) (Or.inl ⟨by rfl, ?_⟩) hS ?_
  rotate_left
  · intro W hW; go_simp; with_reducible rfl
  try simp only [Act.put, List.setIfInBounds_toArray, List.set_cons_zero, List.set_cons_succ]
  refine wpAnyH_take (i := 37) (oi := ⟨some 100, _, _, _, _, _⟩) (v := ?_) rfl (by kernel_rfl) (by kernel_rfl) (by kernel_rfl) (fun _ _ _ h => h) (Or.inl ⟨by rfl, ?_⟩) hS ?_
  rotate_left
  · intro W hW; go_simp; with_reducible rfl
  try simp only [Act.put, List.setIfInBounds_toArray, List.set_cons_zero, List.set_cons_succ]
  refine wpAnyH_take (i := 38) (oi := ⟨some 101, _, _, _, _, _⟩) (v := ?_) rfl (by kernel_rfl) (by kernel_rfl) (by kernel_rfl) (fun _ _ _ h => h) (Or.inl ⟨by rfl, ?_⟩) hS ?_
  rotate_left
  · intro W hW; go_simp; with_reducible rfl
  try simp only [Act.put, List.setIfInBounds_toArray, List.set_cons_zero, List.set_cons_succ]
  refine wpAnyH_take (i := 39) (oi := ⟨some 102, _, _, _, _, _⟩) (v := ?_) rfl (by kernel_rfl) (by kernel_rfl) (by kernel_rfl) (fun _ _ _ h => h) (Or.inl ⟨by rfl, ?_⟩) hS ?_
  rotate_left
  · intro W hW; go_simp; with_reducible rfl
  try simp only [Act.put, List.setIfInBounds_toArray, List.set_cons_zero, List.set_cons_succ]
  refine wpAnyH_take (i := 40) (oi := ⟨some 103, _, _, _, _, _⟩) (v := ?_) rfl (by kernel_rfl) (by kernel_rfl) (by kernel_rfl) (fun _ _ _ h => h) (Or.inl ⟨by rfl, ?_⟩) hS ?_
  rotate_left
  · intro W hW; go_simp; with_reducible rfl
  try simp only [Act.put, List.setIfInBounds_toArray, List.set_cons_zero, List.set_cons_succ]
  refine wpAnyH_take (i := 41) (oi := ⟨some 104, _, _, _, _, _⟩) (v := ?_) rfl (by kernel_rfl) (by kernel_rfl) (by kernel_rfl) (fun _ _ _ h => h) (Or.inl ⟨by rfl, ?_⟩) hS ?_
  rotate_left
  · intro W hW; go_simp; with_reducible rfl
  try simp only [Act.put, List.setIfInBounds_toArray, List.set_cons_zero, List.set_cons_succ]
  refine wpAnyH_take (i := 42) (oi := ⟨some 105, _, _, _, _, _⟩) (v := ?_) rfl (by kernel_rfl) (by kernel_rfl) (by kernel_rfl) (fun _ _ _ h => h) (Or.inl ⟨by rfl, ?_⟩) hS ?_
  rotate_left
  · intro W hW; go_simp; with_reducible rfl
  try simp only [Act.put, List.setIfInBounds_toArray, List.set_cons_zero, List.set_cons_succ]
  refine wpAnyH_take (i := 43) (oi := ⟨some 106, _, _, _, _, _⟩) (v := ?_) rfl (by kernel_rfl) (by kernel_rfl) (by kernel_rfl) (fun _ _ _ h => h) (Or.inl ⟨by rfl, ?_⟩) hS ?_
  rotate_left
  · intro W hW; go_simp; with_reducible rfl
  try simp only [Act.put, List.setIfInBounds_toArray, List.set_cons_zero, List.set_cons_succ]
  refine wpAnyH_take (i := 44) (oi := ⟨some 107, _, _, _, _, _⟩) (v := ?_) rfl (by kernel_rfl) (by kernel_rfl) (by kernel_rfl) (fun _ _ _ h => h) (Or.inl ⟨by rfl, ?_⟩) hS ?_
  rotate_left
  · intro W hW; go_simp; with_reducible rfl
  try simp only [Act.put, List.setIfInBounds_toArray, List.set_cons_zero, List.set_cons_succ]
  refine wpAnyH_take (i := 45) (oi := ⟨some 108, _, _, _, _, _⟩) (v := ?_) rfl (by kernel_rfl) (by kernel_rfl) (by kernel_rfl) (fun _ _ _ h => h) (Or.inl ⟨by rfl, ?_⟩) hS ?_
  rotate_left
  · intro W hW; go_simp; with_reducible rfl
  try simp only [Act.put, List.setIfInBounds_toArray, List.set_cons_zero, List.set_cons_succ]
  refine wpAnyH_take (i := 46) (oi := ⟨some 109, _, _, _, _, _⟩) (v := ?_) rfl (by kernel_rfl) (by kernel_rfl) (by kernel_rfl) (fun _ _ _ h => h) (Or.inl ⟨by rfl, ?_⟩) hS ?_
  rotate_left
  · intro W hW; go_simp; with_reducible rfl
  try simp only [Act.put, List.setIfInBounds_toArray, List.set_cons_zero, List.set_cons_succ]
  refine wpAnyH_take (i := 47) (oi := ⟨some 110, _, _, _, _, _⟩) (v := ?_) rfl (by kernel_rfl) (by kernel_rfl) (by kernel_rfl) (fun _ _ _ h => h) (Or.inl ⟨by rfl, ?_⟩) hS ?_
  rotate_left
  · intro W hW; go_simp; with_reducible rfl
  try simp only [Act.put, List.setIfInBounds_toArray, List.set_cons_zero, List.set_cons_succ]
  refine wpAnyH_take (i := 48) (oi := ⟨some 111, _, _, _, _, _⟩) (v := ?_) rfl (by kernel_rfl) (by kernel_rfl) (by kernel_rfl) (fun _ _ _ h => h) (Or.inl ⟨by rfl, ?_⟩) hS ?_
  rotate_left
  · intro W hW; go_simp; with_reducible rfl
  try simp only [Act.put, List.setIfInBounds_toArray, List.set_cons_zero, List.set_cons_succ]
  refine wpAnyH_take (i := 49) (oi := ⟨some 112, _, _, _, _, _⟩) (v := ?_) rfl (by kernel_rfl) (by kernel_rfl) (by kernel_rfl) (fun _ _ _ h => h) (Or.inl ⟨by rfl, ?_⟩) hS ?_
  rotate_left
  · intro W hW; go_simp; with_reducible rfl
  try simp only [Act.put, List.setIfInBounds_toArray, List.set_cons_zero, List.set_cons_succ]
  refine wpAnyH_take (i := 50) (oi := ⟨some 113, _, _, _, _, _⟩) (v := ?_) rfl (by kernel_rfl) (by kernel_rfl) (by kernel_rfl) (fun _ _ _ h => h) (Or.inl ⟨by rfl, ?_⟩) hS ?_
  rotate_left
  · intro W hW; go_simp; with_reducible rfl
  try simp only [Act.put, List.setIfInBounds_toArray, List.set_cons_zero, List.set_cons_succ]
  refine wpAnyH_take (i := 51) (oi := ⟨some 114, _, _, _, _, _⟩) (v := ?_) rfl (by kernel_rfl) (by kernel_rfl) (by kernel_rfl) (fun _ _ _ h => h) (Or.inl ⟨by rfl, ?_⟩) hS ?_
  rotate_left
  · intro W hW; go_simp; with_reducible rfl
  try simp only [Act.put, List.setIfInBounds_toArray, List.set_cons_zero, List.set_cons_succ]
  refine wpAnyH_take (i := 52) (oi := ⟨some 4, _, _, _, _, _⟩) (v := ?_) rfl (by kernel_rfl) (by kernel_rfl) (by kernel_rfl) (fun _ _ _ h => h) (Or.inl ⟨by rfl, ?_⟩) hS ?_
  rotate_left
  · intro W hW; go_simp; with_reducible rfl
  try simp only [Act.put, List.setIfInBounds_toArray, List.set_cons_zero, List.set_cons_succ]
  refine wpAnyH_done (by kernel_rfl) ?_ _
  have HBE := Lib.hid (HPX.out.trans ((show Below _ _ _ from hS).mono HPX.out.size))
  go_wp2_with fail
  go_ret
  exact ⟨rfl, HBE.out⟩

end Go.Proofs.Ytojidejlohpeaaa
