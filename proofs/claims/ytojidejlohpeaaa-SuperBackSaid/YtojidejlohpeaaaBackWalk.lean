/-
  SuperBack: the walk: there and back; a sector that tells something is its own again; one bit turned it tells nothing.
-/
import Derived.Test.YtojidejlohpeaaaWake8
import Derived.Test.YtojidejlohpeaaaIn7
import Derived.Laws.ShiftsVarLaws
namespace Go.Proofs.Ytojidejlohpeaaa
set_option maxRecDepth 100000
open Go.RowKit Crc Wm Sup

/-- a byte with one bit turned -/
def turned (x : UInt8) (J : Nat) : UInt8 := x ^^^ UInt8.ofNat (2 ^ J)
theorem turned_val (x : UInt8) (J : Nat) : bits .xor .u8 (x.toNat : Int) ((2 : Int) ^ J % 256) = ((turned x J).toNat : Int) := by
  have hx : x.toNat < 256 := x.toNat_lt
  have h2 : (2 : Int) ^ J % 256 = ((2 ^ J % 256 : Nat) : Int) := by
    rw [Int.natCast_emod, Int.natCast_pow]
    rfl
  rw [h2, u8_xor_nat _ _ hx (Nat.mod_lt _ (by omega))]
  unfold turned
  rw [UInt8.toNat_xor, UInt8.toNat_ofNat']
theorem turned_ne (x : UInt8) (J : Nat) (hJ : J < 8) : turned x J ≠ x := by
  intro h
  unfold turned at h
  have h2 : UInt8.ofNat (2 ^ J) = 0 := by
    have := congrArg (x ^^^ ·) h
    simpa [← UInt8.xor_assoc] using this
  have h3 := congrArg UInt8.toNat h2
  rw [UInt8.toNat_ofNat'] at h3
  have h4 : 2 ^ J % 256 = 0 := h3
  rcases J with _ | _ | _ | _ | _ | _ | _ | _ | J
  all_goals first | (exfalso; omega) | cases h4

set_option maxHeartbeats 4000000 in
theorem back_walk (s : Sup) (A : Option Addr) (n c : Nat) (l : List UInt8) (z : Int) (w : World) (hl : Lies w A c n l) : Calls Try.prog 5 #[supV s, .slice A n c, .int .i64 z] w fun e w' => e = .returned (.bool true) ∧ Below w.heap.size w w' := by
  have HL := Lib.hid hl
  have HS0 : Hid (SupAt (w.alloc (.cells (supC s) 23)) w.heap.size 23 s) := Lib.hid (heap_alloc_new w _)
  have HB0 := Lib.hid (below_new w (.cells (supC s) 23))
  clear hl
  unfold supV
  obtain ⟨C, hC⟩ : ∃ C, C = supC s := ⟨_, rfl⟩
  rw [← hC] at HS0 HB0 ⊢
  clear hC
  rcases Nat.lt_or_ge 200 n with hgt | hle
  · have hd : decide ((200 : Int) < (n : Int)) = true := decide_eq_true (by omega)
    go_enter Try.func5, Try.ntmps5
    go_upto_region 1 with fail
    generalize w.alloc (.cells C 23) = w0 at *
    go_wp2_with fail
    refine (awake_any w0).mono ?_
    rintro e w1 ⟨rfl, hb1⟩
    have HB1 := Lib.hid (HB0.out.trans (hb1.mono HB0.out.size))
    clear hb1 HS0 HB0
    go_wp2_with fail
    go_ret
    exact ⟨rfl, HB1.out⟩
  have hd : decide ((200 : Int) < (n : Int)) = false := decide_eq_false (by omega)
  obtain ⟨k, hk, hzk⟩ := low z 511 9 (by decide) (by omega)
  obtain ⟨I, J, hIJ, hI, hJ⟩ : ∃ I J : Nat, k = 8 * I + J ∧ I < 64 ∧ J < 8 := ⟨k / 8, k % 8, by omega, by omega, by omega⟩
  have hzIJ : bits .and .i64 z 511 = 8 * (I : Int) + (J : Int) := by rw [hzk, hIJ]; omega
  clear hzk hIJ hk
  go_enter Try.func5, Try.ntmps5
  go_upto_region 1 with fail
  generalize w.alloc (.cells C 23) = w0 at *
  go_wp2_with fail
  refine (awake_any w0).mono ?_
  rintro e w1 ⟨rfl, hb1⟩
  have HS1 := Lib.hid (HS0.out.below hb1)
  have HB1 := Lib.hid (HB0.out.trans (hb1.mono HB0.out.size))
  clear hb1 HS0 HB0
  go_wp2_with (refine wpList_load_sup tyR HS1.out rfl (.tmp 3) rfl rfl ?_)
  refine (ours_any w1 s).mono ?_
  rintro e w2 ⟨rfl, hb2⟩
  go_wp2_with fail
  refine (enc_any w2 s).mono ?_
  rintro e w3 ⟨A3, n3, c3, rfl, hn3, ho3, hb3⟩
  have HS3 := Lib.hid (HS1.out.below (below_two hb2 hb3))
  have HB3 := Lib.hid (HB1.out.trans ((below_two hb2 hb3).mono HB1.out.size))
  have HW2 := Lib.hid (Nat.le_trans HB1.out.size hb2.size)
  clear HS1 HB1

  by_cases hm : s.May
  case neg =>
    have hE : s.encE = 1 := if_neg hm
    rw [hE]
    clear hE hm hn3 ho3 hb2 hb3
    go_wp2_with fail

    refine (dec_any A c n l w3 (HL.out.up HB3.out) (by omega)).mono ?_
    rintro e x1 ⟨rfl, hbx⟩
    have HBX := Lib.hid (HB3.out.trans (hbx.mono HB3.out.size))
    clear hbx
    by_cases hj : decE l = 0
    · rw [hj]
      have HM := Lib.hid (decS_may hj)
      have HQ := Lib.hid (enc_dec hj)
      clear hj
      obtain ⟨d, hd2⟩ : ∃ d, d = decS l := ⟨_, rfl⟩
      rw [← hd2] at HM HQ ⊢
      clear hd2
      go_wp2_with (first
        | (refine wpList_load_sup tyP HX2.out rfl (.tmp 15) rfl rfl ?_)
        | (refine wpList_store_sup tyP (zero_new x1 _) rfl (.tmp 15) (.tmp 76) rfl rfl d rfl ?_; intro x2 hs2 hg2; have HX2 := Lib.hid hs2; have HB2 := Lib.hid (HBX.out.trans ((box_below hg2).mono HBX.out.size)); clear hs2 hg2))
      refine (enc_any x2 d).mono ?_
      rintro e x3 ⟨A9, n9, c9, rfl, hn9, ho9, hb9⟩
      have hE : d.encE = 0 := if_pos HM.out
      have hB : d.encB = l := (if_pos HM.out).trans HQ.out
      rw [hE]
      rw [hB] at ho9
      have HB4 := Lib.hid (HB2.out.trans (hb9.mono HB2.out.size))
      have k1 := ho9.lies.conv
      have k2 := (HL.out.up HB4.out).conv
      clear hn9 ho9 hb9 hE hB
      go_wp2_with fail
      go_ret
      exact ⟨rfl, HB4.out⟩
    · have e1 : (decE l == 0) = false := beq_eq_false_iff_ne.2 hj
      rw [decE_not hj]
      clear hj
      go_wp2_with (refine wpList_store_sup tyP (zero_new x1 _) rfl (.tmp 15) (.tmp 76) rfl rfl Sup.zero rfl ?_; intro x2 hs2 hg2; have HB2 := Lib.hid (HBX.out.trans ((box_below hg2).mono HBX.out.size)); obtain ⟨c0, c1, c2, c3, c4, c5, c6⟩ := SupAt.seven hs2; have hq : (binOp .eql 29 (.agg #[.int .i64 0, .int .i64 0, .int .i64 0, .int .i64 0, .int .i64 0, .int .i64 0, .int .i64 0]) (.agg #[.int .i64 0, .int .i64 0, .int .i64 0, .int .i64 0, .int .i64 0, .int .i64 0, .int .i64 0])).run Try.prog x2 = .ok (.bool true) x2 := (run_sup_eql Sup.zero Sup.zero x2).trans (by rw [supEq_self]); clear hs2 hg2)
      go_ret
      exact ⟨rfl, HB2.out⟩
  have hE : s.encE = 0 := if_pos hm
  have hB : s.encB = s.sector := if_pos hm
  rw [hE]
  rw [hB] at ho3 hn3
  rw [length_sector] at hn3
  subst hn3
  have HO3 := Lib.hid (ho3.base_le HW2.out)
  have HM := Lib.hid hm
  have HDS := Lib.hid (dec_enc s hm)
  clear hE hB hm hb2 hb3 ho3
  go_wp2_with fail
  refine (dec_any A3 c3 64 s.sector w3 HO3.out.lies (by omega)).mono ?_
  rintro e w4 ⟨rfl, hb4⟩
  rw [HDS.out.1, HDS.out.2]
  have HS4 := Lib.hid (HS3.out.below hb4)
  have HB4 := Lib.hid (HB3.out.trans (hb4.mono HB3.out.size))
  have HO4 := Lib.hid (HO3.out.below hb4)
  clear hb4 HS3 HB3 HO3
  go_upto_region 7 with (refine wpList_store_sup tyP (zero_new w4 _) rfl (.tmp 10) (.tmp 35) rfl rfl s rfl ?_; intro w5 hs5 hg5; have HX5 := Lib.hid hs5; have HS5 := Lib.hid (HS4.out.below (box_below hg5)); have HB5 := Lib.hid (HB4.out.trans ((box_below hg5).mono HB4.out.size)); have HO5 := Lib.hid (HO4.out.below (box_below hg5)); clear hs5 hg5 HS4 HB4 HO4)

  have s0 : ∀ V, Since w5 V → V.cell? ⟨w.heap.size, 0, none⟩ = some (.int .i64 s.V) := fun V hV => (HS5.out.below hV).cell (i := 0) (by omega)
  have s1 : ∀ V, Since w5 V → V.cell? ⟨w.heap.size, 1, none⟩ = some (.int .i64 s.E) := fun V hV => (HS5.out.below hV).cell (i := 1) (by omega)
  have s2 : ∀ V, Since w5 V → V.cell? ⟨w.heap.size, 2, none⟩ = some (.int .i64 s.B) := fun V hV => (HS5.out.below hV).cell (i := 2) (by omega)
  have s3 : ∀ V, Since w5 V → V.cell? ⟨w.heap.size, 3, none⟩ = some (.int .i64 s.C) := fun V hV => (HS5.out.below hV).cell (i := 3) (by omega)
  have s4 : ∀ V, Since w5 V → V.cell? ⟨w.heap.size, 4, none⟩ = some (.int .i64 s.L) := fun V hV => (HS5.out.below hV).cell (i := 4) (by omega)
  have s5 : ∀ V, Since w5 V → V.cell? ⟨w.heap.size, 5, none⟩ = some (.int .i64 s.H) := fun V hV => (HS5.out.below hV).cell (i := 5) (by omega)
  have s6 : ∀ V, Since w5 V → V.cell? ⟨w.heap.size, 6, none⟩ = some (.int .i64 s.A) := fun V hV => (HS5.out.below hV).cell (i := 6) (by omega)
  have x0 : ∀ V, Since w5 V → V.cell? ⟨w4.heap.size, 0, none⟩ = some (.int .i64 s.V) := fun V hV => (HX5.out.below hV).cell (i := 0) (by omega)
  have x1 : ∀ V, Since w5 V → V.cell? ⟨w4.heap.size, 1, none⟩ = some (.int .i64 s.E) := fun V hV => (HX5.out.below hV).cell (i := 1) (by omega)
  have x2 : ∀ V, Since w5 V → V.cell? ⟨w4.heap.size, 2, none⟩ = some (.int .i64 s.B) := fun V hV => (HX5.out.below hV).cell (i := 2) (by omega)
  have x3 : ∀ V, Since w5 V → V.cell? ⟨w4.heap.size, 3, none⟩ = some (.int .i64 s.C) := fun V hV => (HX5.out.below hV).cell (i := 3) (by omega)
  have x4 : ∀ V, Since w5 V → V.cell? ⟨w4.heap.size, 4, none⟩ = some (.int .i64 s.L) := fun V hV => (HX5.out.below hV).cell (i := 4) (by omega)
  have x5 : ∀ V, Since w5 V → V.cell? ⟨w4.heap.size, 5, none⟩ = some (.int .i64 s.H) := fun V hV => (HX5.out.below hV).cell (i := 5) (by omega)
  have x6 : ∀ V, Since w5 V → V.cell? ⟨w4.heap.size, 6, none⟩ = some (.int .i64 s.A) := fun V hV => (HX5.out.below hV).cell (i := 6) (by omega)
  have nq : ∀ V, Since w5 V → (binOp .neq 29 (.agg #[.int .i64 s.V, .int .i64 s.E, .int .i64 s.B, .int .i64 s.C, .int .i64 s.L, .int .i64 s.H, .int .i64 s.A]) (supV s)).run Try.prog V = .ok (.bool false) V := fun V _ => (run_sup_neq s s V).trans (by rw [supEq_self]; rfl)
  have ng : ∀ V, Since w5 V → (eqGuard .neq 29 (.tmp 40) (.tmp 42) (.agg #[.int .i64 s.V, .int .i64 s.E, .int .i64 s.B, .int .i64 s.C, .int .i64 s.L, .int .i64 s.H, .int .i64 s.A]) (supV s)).run Try.prog V = .ok () V := fun V _ => run_sup_guard .neq _ _ s s V
  refine wp_region_since (by kernel_rfl) ?_
  have hS : Since w5 (World.drew w5) := (Below.refl _ _).drew
  refine wpAnyH_take (i := 0) (oi := ⟨some 37, _, _, _, _, _⟩) (v := ?_) rfl (by kernel_rfl) (by kernel_rfl) (by kernel_rfl) (fun _ _ _ h => h) (Or.inl ⟨by rfl, ?_⟩) hS ?_
  rotate_left
  · intro W hW; go_simp; with_reducible rfl
  try simp only [Act.put, List.setIfInBounds_toArray, List.set_cons_zero, List.set_cons_succ]
  refine wpAnyH_take (i := 1) (oi := ⟨some 38, _, _, _, _, _⟩) (v := ?_) rfl (by kernel_rfl) (by kernel_rfl) (by kernel_rfl) (fun _ _ _ h => h) (Or.inl ⟨by rfl, ?_⟩) hS ?_
  rotate_left
  · intro W hW; go_simp; with_reducible rfl
  try simp only [Act.put, List.setIfInBounds_toArray, List.set_cons_zero, List.set_cons_succ]
  refine wpAnyH_take (i := 2) (oi := ⟨some 39, _, _, _, _, _⟩) (v := ?_) rfl (by kernel_rfl) (by kernel_rfl) (by kernel_rfl) (fun _ _ _ h => h) (Or.inl ⟨by rfl, ?_⟩) hS ?_
  rotate_left
  · intro W hW; go_simp; with_reducible rfl
  try simp only [Act.put, List.setIfInBounds_toArray, List.set_cons_zero, List.set_cons_succ]
  refine wpAnyH_take (i := 3) (oi := ⟨some 40, _, _, _, _, _⟩) (v := ?_) rfl (by kernel_rfl) (by kernel_rfl) (by kernel_rfl) (fun _ _ _ h => h) (Or.inl ⟨by rfl, ?_⟩) hS ?_
  rotate_left
  · intro W hW; go_simp; with_reducible rfl
  try simp only [Act.put, List.setIfInBounds_toArray, List.set_cons_zero, List.set_cons_succ]
  refine wpAnyH_take (i := 4) (oi := ⟨some 41, _, _, _, _, _⟩) (v := ?_) rfl (by kernel_rfl) (by kernel_rfl) (by kernel_rfl) (fun _ _ _ h => h) (Or.inl ⟨by rfl, ?_⟩) hS ?_
  rotate_left
  · intro W hW; go_simp; with_reducible rfl
  try simp only [Act.put, List.setIfInBounds_toArray, List.set_cons_zero, List.set_cons_succ]
  refine wpAnyH_ready (rs := [5]) (by kernel_rfl) (by simp) ?_
  refine AllReadyH.cons (o := ⟨some 42, _, _, _, _, _⟩) rfl (fun Kr hKr => ?_) AllReadyH.nil
  -- operation 5: a call
  go_simp
  refine (ours_any _ s).mono ?_
  rintro e V1 ⟨rfl, hx⟩
  show Kr _ _
  refine hKr.out _ _ ?_ (fun _ => ?_)
  · exact since_trans hS hx
  clear hKr Kr
  replace hS : Since w5 V1 := since_trans hS hx
  try simp only [Act.put, List.setIfInBounds_toArray, List.set_cons_zero, List.set_cons_succ]
  refine wpAnyH_take (i := 6) (oi := ⟨some 43, _, _, _, _, _⟩) (v := ?_) rfl (by kernel_rfl) (by kernel_rfl) (by kernel_rfl) (fun _ _ _ h => h) (Or.inl ⟨by rfl, ?_⟩) hS ?_
  rotate_left
  · intro W hW; go_simp; with_reducible rfl
  try simp only [Act.put, List.setIfInBounds_toArray, List.set_cons_zero, List.set_cons_succ]
  refine wpAnyH_take (i := 7) (oi := ⟨some 44, _, _, _, _, _⟩) (v := ?_) rfl (by kernel_rfl) (by kernel_rfl) (by kernel_rfl) (fun _ _ _ h => h) (Or.inl ⟨by rfl, ?_⟩) hS ?_
  rotate_left
  · intro W hW; go_simp; with_reducible rfl
  try simp only [Act.put, List.setIfInBounds_toArray, List.set_cons_zero, List.set_cons_succ]
  refine wpAnyH_take (i := 8) (oi := ⟨some 45, _, _, _, _, _⟩) (v := ?_) rfl (by kernel_rfl) (by kernel_rfl) (by kernel_rfl) (fun _ _ _ h => h) (Or.inl ⟨by rfl, ?_⟩) hS ?_
  rotate_left
  · intro W hW; go_simp; with_reducible rfl
  try simp only [Act.put, List.setIfInBounds_toArray, List.set_cons_zero, List.set_cons_succ]
  refine wpAnyH_take (i := 9) (oi := ⟨some 46, _, _, _, _, _⟩) (v := ?_) rfl (by kernel_rfl) (by kernel_rfl) (by kernel_rfl) (fun _ _ _ h => h) (Or.inl ⟨by rfl, ?_⟩) hS ?_
  rotate_left
  · intro W hW; go_simp; with_reducible rfl
  try simp only [Act.put, List.setIfInBounds_toArray, List.set_cons_zero, List.set_cons_succ]
  refine wpAnyH_take (i := 10) (oi := ⟨some 47, _, _, _, _, _⟩) (v := ?_) rfl (by kernel_rfl) (by kernel_rfl) (by kernel_rfl) (fun _ _ _ h => h) (Or.inl ⟨by rfl, ?_⟩) hS ?_
  rotate_left
  · intro W hW; go_simp; with_reducible rfl
  try simp only [Act.put, List.setIfInBounds_toArray, List.set_cons_zero, List.set_cons_succ]
  refine wpAnyH_take (i := 11) (oi := ⟨some 48, _, _, _, _, _⟩) (v := ?_) rfl (by kernel_rfl) (by kernel_rfl) (by kernel_rfl) (fun _ _ _ h => h) (Or.inl ⟨by rfl, ?_⟩) hS ?_
  rotate_left
  · intro W hW; go_simp; with_reducible rfl
  try simp only [Act.put, List.setIfInBounds_toArray, List.set_cons_zero, List.set_cons_succ]
  refine wpAnyH_take (i := 12) (oi := ⟨some 49, _, _, _, _, _⟩) (v := ?_) rfl (by kernel_rfl) (by kernel_rfl) (by kernel_rfl) (fun _ _ _ h => h) (Or.inl ⟨by rfl, ?_⟩) hS ?_
  rotate_left
  · intro W hW; go_simp; with_reducible rfl
  try simp only [Act.put, List.setIfInBounds_toArray, List.set_cons_zero, List.set_cons_succ]
  refine wpAnyH_done (by kernel_rfl) ?_ _
  have hbV : Below w5.heap.size w5 V1 := hS
  have HO6 := Lib.hid (HO5.out.below hbV)
  have HB6 := Lib.hid (HB5.out.trans (hbV.mono HB5.out.size))
  clear hbV hS HO5 HB5 HS5 HX5 nq ng s0 s1 s2 s3 s4 s5 s6 x0 x1 x2 x3 x4 x5 x6
  obtain ⟨g, rfl, hg1, hg2, hgc, hgf⟩ := HO6.out.at_ (by omega)
  have hIl : I < s.sector.length := by rw [length_sector]; exact hI
  obtain ⟨x, hx2⟩ : ∃ x, Hid (s.sector[I] = x) := ⟨_, Lib.hid rfl⟩
  have hc1 : V1.cell? ⟨g, I, none⟩ = some (.int .u8 (x.toNat : Int)) := hgc I x (by rw [List.getElem?_eq_getElem hIl, hx2.out])
  have hf1 := hgf I
  have hd8 : (8 * (I : Int) + (J : Int)) / 8 = (I : Int) := by omega
  have hm8 : (8 * (I : Int) + (J : Int)) % 8 = (J : Int) := by omega
  have hx255 : x.toNat < 256 := x.toNat_lt
  clear hgc hgf
  go_wp2_with fail
  have htv := turned_val x J
  have HO7 : Hid (Owns (V1.setCell ⟨g, I, none⟩ (.int .u8 (bits .xor .u8 (x.toNat : Int) ((2 : Int) ^ J % 256)))) w.heap.size (some ⟨g, 0, none⟩) c3 64 (s.sector.set I (turned x J))) := by
    show Owns _ _ _ _ _ _
    rw [htv]
    exact HO6.out.set_ I (turned x J) hI
  have HB7 : Hid (Below w.heap.size w (V1.setCell ⟨g, I, none⟩ (.int .u8 (bits .xor .u8 (x.toNat : Int) ((2 : Int) ^ J % 256))))) := HB6.out.setCell (by exact hg2) _
  have hdt := dec_turned s I (turned x J) hIl (by rw [hx2.out]; exact turned_ne x J hJ)
  have HDT := Lib.hid (show _ ∧ _ from ⟨hdt, decE_not (l := s.sector.set I (turned x J)) (by rw [hdt]; decide)⟩)
  clear htv hdt HO6 HB6 hc1 hf1 hd8 hm8
  refine (dec_any (some ⟨g, 0, none⟩) c3 64 (s.sector.set I (turned x J)) _ HO7.out.lies (by omega)).mono ?_
  rintro e w8 ⟨rfl, hb8⟩
  rw [HDT.out.1, HDT.out.2]
  have HB8 := Lib.hid (HB7.out.trans (hb8.mono HB7.out.size))
  clear hb8 HB7 HO7 HDT
  go_wp2_with (refine wpList_store_sup tyP (zero_new w8 _) rfl (.tmp 13) (.tmp 69) rfl rfl Sup.zero rfl ?_; intro w9 hs9 hg9; have HB9 := Lib.hid (HB8.out.trans ((box_below hg9).mono HB8.out.size)); clear hs9 hg9 HB8)

  refine (dec_any A c n l w9 (HL.out.up HB9.out) (by omega)).mono ?_
  rintro e x1 ⟨rfl, hbx⟩
  have HBX := Lib.hid (HB9.out.trans (hbx.mono HB9.out.size))
  clear hbx
  by_cases hj : decE l = 0
  · rw [hj]
    have HM := Lib.hid (decS_may hj)
    have HQ := Lib.hid (enc_dec hj)
    clear hj
    obtain ⟨d, hd2⟩ : ∃ d, d = decS l := ⟨_, rfl⟩
    rw [← hd2] at HM HQ ⊢
    clear hd2
    go_wp2_with (first
      | (refine wpList_load_sup tyP HX2.out rfl (.tmp 15) rfl rfl ?_)
      | (refine wpList_store_sup tyP (zero_new x1 _) rfl (.tmp 15) (.tmp 76) rfl rfl d rfl ?_; intro x2 hs2 hg2; have HX2 := Lib.hid hs2; have HB2 := Lib.hid (HBX.out.trans ((box_below hg2).mono HBX.out.size)); clear hs2 hg2))
    refine (enc_any x2 d).mono ?_
    rintro e x3 ⟨A9, n9, c9, rfl, hn9, ho9, hb9⟩
    have hE : d.encE = 0 := if_pos HM.out
    have hB : d.encB = l := (if_pos HM.out).trans HQ.out
    rw [hE]
    rw [hB] at ho9
    have HB4 := Lib.hid (HB2.out.trans (hb9.mono HB2.out.size))
    have k1 := ho9.lies.conv
    have k2 := (HL.out.up HB4.out).conv
    clear hn9 ho9 hb9 hE hB
    go_wp2_with fail
    go_ret
    exact ⟨rfl, HB4.out⟩
  · have e1 : (decE l == 0) = false := beq_eq_false_iff_ne.2 hj
    rw [decE_not hj]
    clear hj
    go_wp2_with (refine wpList_store_sup tyP (zero_new x1 _) rfl (.tmp 15) (.tmp 76) rfl rfl Sup.zero rfl ?_; intro x2 hs2 hg2; have HB2 := Lib.hid (HBX.out.trans ((box_below hg2).mono HBX.out.size)); obtain ⟨c0, c1, c2, c3, c4, c5, c6⟩ := SupAt.seven hs2; have hq : (binOp .eql 29 (.agg #[.int .i64 0, .int .i64 0, .int .i64 0, .int .i64 0, .int .i64 0, .int .i64 0, .int .i64 0]) (.agg #[.int .i64 0, .int .i64 0, .int .i64 0, .int .i64 0, .int .i64 0, .int .i64 0, .int .i64 0])).run Try.prog x2 = .ok (.bool true) x2 := (run_sup_eql Sup.zero Sup.zero x2).trans (by rw [supEq_self]); clear hs2 hg2)
    go_ret
    exact ⟨rfl, HB2.out⟩

end Go.Proofs.Ytojidejlohpeaaa
