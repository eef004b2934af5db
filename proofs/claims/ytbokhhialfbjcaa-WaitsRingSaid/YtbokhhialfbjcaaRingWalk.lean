/-
  WaitsRing, walked.
-/
import Derived.Test.YtbokhhialfbjcaaQueueWalk
namespace Go.Proofs.Ytbokhhialfbjcaa
set_option maxRecDepth 100000
set_option linter.unusedVariables false
set_option linter.unusedSimpArgs false
open Go.RowKit Go.Shelf Go.Sort

theorem wp_alloc_queue {o : Oper} {a : Act} {W : World} {K : Act → World → Prop} {Q : Exit → Act → World → Prop} (ho : o.op = .alloc 35)
    (h : ∀ w' g, W.heap.size ≤ g → Qb w' g none 0 0 → Below W.heap.size W w' → K (a.put o.dst (.pointer (some ⟨g, 0, none⟩))) w') : o.wp Try.prog a W K Q := by
  unfold Oper.wp execOp
  simp only [ho]
  go_simp
  exact h _ _ (Nat.le_refl _) (Bk.new W _ _) (below_new W _)
theorem rg_new {k i : Nat} : ∀ w ∈ rgQ k i, w.x ≠ i := by
  intro w hw
  obtain ⟨j, hj, rfl⟩ := rgQ_mem hw
  show j ≠ i
  omega
/-- one number's row -/
theorem id_one {W : World} {g x : Nat} (h : RI.At W (some ⟨g, 0, none⟩) [x]) : IdAt W (some ⟨g, 0, none⟩) [x] := by
  obtain ⟨b, o, e, hb, hc⟩ := RI_cell h (i := 0) (x := x) rfl
  injection e with e
  injection e with e1 e2
  subst e1; subst e2
  refine .inr ⟨g, rfl, hb, fun j y hy => ?_⟩
  cases j with
  | zero =>
    have : y = x := by simpa using hy.symm
    subst this
    exact hc
  | succ j => simp at hy
theorem vic_range {T : Tr} {k : Nat} (E : List (Nat × Nat)) (h : stuckL T E = List.range k) (hk : 1 ≤ k) : vicI T E = ((k - 1 : Nat) : Int) := by
  obtain ⟨j, rfl⟩ : ∃ j, k = j + 1 := ⟨k - 1, by omega⟩
  unfold vicI
  rw [h, List.range_succ]
  simp

set_option maxHeartbeats 4000000 in
theorem ring_walk (n out : Int) (w : World) : Calls Try.prog 4 #[.int .i64 n, .int .i64 out] w fun e w' => e = .returned (.bool true) ∧ Below w.heap.size w w' := by
  obtain ⟨x, hx, hlow⟩ := low n 7 3 (by decide) (by omega)
  have hx8 : x < 8 := hx
  obtain ⟨k, hk⟩ : ∃ k, k = 2 + x := ⟨_, rfl⟩
  have hkc : (2 : Int) + (x : Int) = (k : Int) := by omega
  have hkw : IntKind.i64.wrap (k : Int) = (k : Int) := by rw [IntKind.wrap_i64]; omega
  have hk2 : 2 ≤ k := by omega
  have hk10 : k ≤ 10 := by omega
  clear hk hx hx8
  go_enter Try.func4, Try.ntmps4
  go_wp2_with fail
  refine (awake_any w).mono ?_
  rintro e w1 ⟨rfl, hb1⟩
  have HB1 := Lib.hid hb1
  clear hb1
  obtain ⟨g, hg⟩ : ∃ g, g = w1.heap.size := ⟨_, rfl⟩
  go_upto_region 4 with (first | (refine wpList_store_tree rfl (.tmp 7) (.tmp 26) rfl rfl rfl (TB.new w1 none 0 0 0) ?_; intro w2 hu hg2; have HU2 := Lib.hid hu; have HG2 := Lib.hid hg2; clear hu hg2) | fail)
  rw [← hg]
  rw [← hg] at HU2 HG2
  have t2 : Below w1.heap.size w1 w2 := (below_new w1 _).grown HG2.out (by simp) (fun k e => by injection e with e; omega)
  have HT2 := Lib.hid (show Tp w2 g none 0 0 0 ⟨[], 0⟩ from ⟨HU2.out, .inl ⟨rfl, rfl⟩, rfl, rfl⟩)
  have HB2 := Lib.hid (HB1.out.trans (t2.mono HB1.out.size))
  have HGW := Lib.hid (show w.heap.size ≤ g by rw [hg]; exact HB1.out.size)
  clear t2 hg HG2 HB1 HU2 hlow hkc hkw
  obtain ⟨h, hh⟩ : ∃ h, h = w2.heap.size := ⟨_, rfl⟩
  go_wp2_with (first | (refine wpList_store_table rfl (.tmp 8) (.tmp 27) rfl rfl rfl (KB.new w2 none 0 0) ?_; intro w3 hu hg2; have HU3 := Lib.hid hu; have HG3 := Lib.hid hg2; clear hu hg2) | fail)
  rw [← hh]
  rw [← hh] at HU3 HG3
  have t3 : Below w2.heap.size w2 w3 := (below_new w2 _).grown HG3.out (by simp) (fun k e => by injection e with e; omega)
  have HT3 := Lib.hid (HT2.out.below t3)
  have HL3 := Lib.hid (show Lp w3 h none 0 0 (wrL 0) from ⟨HU3.out, .inl rfl, rfl, Nat.le_refl _, .inl rfl⟩)
  have HB3 := Lib.hid (HB2.out.trans (t3.mono HB2.out.size))
  have HGH := Lib.hid (show g < h by rw [hh]; exact HT2.out.t.lt)
  clear t3 hh HG3 HU3 HT2 HB2
  go_loopw [9] (fun iv wr => ∃ (i : Nat) (T : Tr) (A : Option Addr) (kk : Nat) (B : Option Addr) (m : Nat), iv = .int .i64 (i : Int) ∧ i ≤ k ∧ Hid (Tops T i) ∧ Hid (Tp wr g A i kk (i : Int) T) ∧ Hid (Lp wr h B i m (wrL i)) ∧ Hid (Below w.heap.size w wr)) (fun iv _ => k - (intOf iv).toNat)
  case atStart => exact ⟨0, ⟨[], 0⟩, none, 0, none, 0, rfl, Nat.zero_le _, tops_nil, HT3.out, HL3.out, HB3.out⟩
  case round =>
    obtain ⟨i, T, A, kk, B, m, rfl, hi, HTO, HT, HL, HB⟩ := hrel
    clear HT3 HL3 HB3 w3
    obtain ⟨wo, rfl⟩ : ∃ wo, wo = wr := ⟨_, rfl⟩
    rcases Nat.lt_or_ge i k with hlt | hge
    · have c0 := HT.out.t.c0
      have c1 := HT.out.t.c1
      go_wp2_with fail
      refine (top_any A T i kk wo HTO.out (by omega) HT.out.x).mono ?_
      rintro e w2 ⟨A2, k2, rfl, hx2, hb2⟩
      have HX2 := Lib.hid hx2
      have HU2 := Lib.hid ((HT.out.t.below hb2).below (below_new w2 (.cells #[.slice none 0 0, .int .i64 0] 30)))
      have HL2 := Lib.hid (HL.out.below hb2)
      have HB2 := Lib.hid (HB.out.trans (hb2.mono HB.out.size))
      have HGS := Lib.hid (HT.out.t.below hb2).lt
      clear hx2 hb2 c0 c1
      go_upto_region 12 with (first
        | (refine wpList_store_tree rfl (.tmp 10) (.tmp 36) rfl rfl rfl (TB.new w2 none 0 0 0) ?_; intro w3 hu3 hg3; have k0 := hu3.c0; have k1 := hu3.c1; have HG3 := Lib.hid hg3; have HUG := Lib.hid (HU2.out.far hg3 (fun e => by injection e with e; have := HGS.out; omega)); clear hu3 hg3)
        | (refine wpList_store_tree rfl (.tmp 7) (.tmp 46) rfl rfl rfl HUG.out ?_; intro w4 hu4 hg4; have HU4 := Lib.hid hu4; have HG4 := Lib.hid hg4; clear hu4 hg4)
        | fail)
      have t3 : Below w2.heap.size w2 w3 := (below_new w2 _).grown HG3.out (by simp) (fun k e => by injection e with e; omega)
      have HTO2 := Lib.hid (HTO.out.begun (by omega))
      obtain ⟨ci, hci⟩ : ∃ ci, ci = (i : Int) + 1 := ⟨_, rfl⟩
      have HCI := Lib.hid (show ((i + 1 : Nat) : Int) = ci by rw [hci]; omega)
      rw [← hci] at HU4 ⊢
      have HT4 := Lib.hid (show Tp w4 g A2 (i + 1) k2 ci (T.begun (-1)) from ⟨HU4.out, (HX2.out.below t3).box HUG.out HG4.out, HTO2.out.n, by rw [HTO2.out.c, HCI.out]⟩)
      have HL4 := Lib.hid ((HL2.out.below t3).farT HUG.out HG4.out (by have := HGH.out; omega))
      have HB4 := Lib.hid ((HB2.out.trans (t3.mono HB2.out.size)).grown HG4.out (Nat.le_trans HB2.out.size t3.size) (fun k e => by injection e with e; have := HGW.out; omega))
      clear t3 hci HX2 HU2 HL2 HB2 HUG HG3 HG4 HU4 k0 k1 HT HL HB
      have c0 := HT4.out.t.c0
      have c1 := HT4.out.t.c1
      have c2 := HL4.out.t.c0
      have HASK := Lib.hid (askt_any B (wrL i) i m A2 (T.begun (-1)) (i + 1) k2 ci (i : Int) (i : Int) 2 w4 HL4.out.hn HL4.out.hk HL4.out.s (lg_wrL i (by omega)) HTO2.out.n HTO2.out.good (by omega) (.inr rfl) (ask_wrL HTO2.out) (i + 1) (by rw [ins_wrL, wrL_len]) HL4.out.x HT4.out.x)
      rw [ins_wrL] at HASK
      go_wp2_with fail
      refine HASK.out.mono ?_
      rintro e w5 ⟨B5, m5, rfl, hk5, hs5, hl5, hb5⟩
      have HK5 := Lib.hid hk5
      have HS5 := Lib.hid hs5
      have HL5 := Lib.hid hl5
      have HT5 := Lib.hid (HT4.out.below hb5)
      have HU5 := Lib.hid ((HL4.out.t.below hb5).below (below_new w5 (.cells #[.slice none 0 0] 33)))
      have HB5 := Lib.hid (HB4.out.trans (hb5.mono HB4.out.size))
      have HHS := Lib.hid (HL4.out.t.below hb5).lt
      clear hk5 hs5 hl5 hb5 c0 c1 c2 HASK HT4 HL4 HB4
      go_wp2_with (first
        | (refine wpList_store_table rfl (.tmp 13) (.tmp 53) rfl rfl rfl (KB.new w5 none 0 0) ?_; intro w6 hu6 hg6; have k0 := hu6.c0; have HG6 := Lib.hid hg6; have HUH := Lib.hid (HU5.out.far hg6 (fun e => by injection e with e; have := HHS.out; omega)); clear hu6 hg6)
        | (refine wpList_store_table rfl (.tmp 8) (.tmp 57) rfl rfl rfl HUH.out ?_; intro w7 hu7 hg7; have HU7 := Lib.hid hu7; have HG7 := Lib.hid hg7; clear hu7 hg7)
        | fail)
      have t6 : Below w5.heap.size w5 w6 := (below_new w5 _).grown HG6.out (by simp) (fun k e => by injection e with e; omega)
      go_roundw
      case rel =>
        refine ⟨i + 1, T.begun (-1), A2, k2, B5, m5, by simp, by omega, HTO2.out, ?_, ⟨HU7.out, (HL5.out.below t6).boxK HUH.out HG7.out, by rw [wrL_len], HK5.out, HS5.out⟩, (HB5.out.trans (t6.mono HB5.out.size)).grown HG7.out (Nat.le_trans HB5.out.size t6.size) (fun k e => by injection e with e; have := HGW.out; have := HGH.out; omega)⟩
        show Tp _ _ _ _ _ ((i + 1 : Nat) : Int) _
        rw [HCI.out]
        exact (HT5.out.below t6).farK HUH.out HG7.out (by have := HGH.out; omega)
      case measure => simp [intOf]; omega
    · obtain ⟨hik⟩ : Nonempty (i = k) := ⟨by omega⟩
      subst hik
      obtain ⟨k, hkk⟩ : ∃ k, k = i := ⟨_, rfl⟩
      subst hkk
      obtain ⟨q, hq⟩ : ∃ q, q = wo.heap.size := ⟨_, rfl⟩
      go_wp2_with (first | (refine wpList_store_queue rfl (.tmp 15) (.tmp 58) rfl rfl rfl (Bk.new wo #[.slice none 0 0] _) ?_; intro w3 hu hg2; have HU3 := Lib.hid hu; have HG3 := Lib.hid hg2; clear hu hg2) | fail)
      rw [← hq]
      rw [← hq] at HU3 HG3
      have t3 : Below wo.heap.size wo w3 := (below_new wo _).grown HG3.out (by simp) (fun k e => by injection e with e; omega)
      have HT3 := Lib.hid (HT.out.below t3)
      have HL3 := Lib.hid (HL.out.below t3)
      have HQ3 := Lib.hid (show Qp w3 q none 0 0 (rgQ k 0) from ⟨HU3.out, .inl rfl, rfl, Nat.le_refl _, .inl rfl⟩)
      have HB3 := Lib.hid (HB.out.trans (t3.mono HB.out.size))
      have HHQ := Lib.hid (show h < q by rw [hq]; exact HL.out.t.lt)
      clear t3 hq HG3 HU3 HT HL HB
      go_loopw [16] (fun iv wr => ∃ (i : Nat) (C : Option Addr) (nn : Nat), iv = .int .i64 (i : Int) ∧ i ≤ k ∧ Hid (SQ (rgQ k i)) ∧ Hid (Qp wr q C i nn (rgQ k i)) ∧ Hid (Tp wr g A k kk (k : Int) T) ∧ Hid (Lp wr h B k m (wrL k)) ∧ Hid (Below w.heap.size w wr)) (fun iv _ => k - (intOf iv).toNat)
      case atStart => exact ⟨0, none, 0, rfl, Nat.zero_le _, sqp0, HQ3.out, HT3.out, HL3.out, HB3.out⟩
      case round =>
        obtain ⟨i, C, nn, rfl, hi2, HSQ, HQ, HT, HL, HB⟩ := hrel
        clear HQ3 HT3 HL3 HB3 w3
        obtain ⟨wo, rfl⟩ : ∃ wo, wo = wr := ⟨_, rfl⟩
        rcases Nat.lt_or_ge i k with hlt | hge2
        · obtain ⟨z, hz⟩ : ∃ z : Nat, z = (i + 1) % k := ⟨_, rfl⟩
          have hzk : z < k := by rw [hz]; exact Nat.mod_lt _ (by omega)
          have hmod : ((i : Int) + 1) % (k : Int) = (z : Int) := by rw [hz]; simp
          have hmod2 : Int.tmod ((i : Int) + 1) (k : Int) = (z : Int) := by rw [Int.tmod_eq_emod_of_nonneg (by omega)]; exact hmod
          have hw1 : IntKind.i64.wrap ((i : Int) + 1) = (i : Int) + 1 := by rw [IntKind.wrap_i64]; omega
          have hw3 : IntKind.i64.wrap (z : Int) = (z : Int) := by rw [IntKind.wrap_i64]; omega
          have hnz : ((k : Int) == 0) = false := by simp; omega
          have hnz2 : ¬ (k : Int) = 0 := by omega
          have hnz3 : ¬ k = 0 := by omega
          have HMAY := Lib.hid (show MayW ⟨i, (z : Int), 1⟩ from ⟨by show i < 64; omega, ⟨by show (0 : Int) ≤ (z : Int); omega, by show (z : Int) < 256; omega⟩, .inl rfl⟩)
          have HADD := Lib.hid (show addE (rgQ k i) ⟨i, (z : Int), 1⟩ = 0 from add_new rg_new (by rw [rgQ_len]; omega))
          have HSN := Lib.hid (sq_snoc HSQ.out HMAY.out HADD.out)
          have HE := Lib.hid (show rgQ k (i + 1) = rgQ k i ++ [⟨i, (z : Int), 1⟩] by rw [rgQ_succ, hz])
          have HAK := Lib.hid (fun V (hV : Since wo V) => addq_any C (rgQ k i) i nn V HQ.out.hn HQ.out.hk HQ.out.s HSQ.out ⟨i, (z : Int), 1⟩ HMAY.out HADD.out (HQ.out.x.below hV))
          have s0 : ∀ V, Since wo V → V.cell? ⟨q, 0, none⟩ = some (.slice C i nn) := fun V hV => (HQ.out.t.below hV).c 0 _ rfl
          clear hz
          go_upto_region 20 with fail
          go_cut [17, 18] from 59 to 77 (fun pv ev wc => ∃ (C6 : Option Addr) (n6 h6 : Nat), pv = .pointer (some ⟨h6, 0, none⟩) ∧ ev = .int .i64 0 ∧ Hid (Qb wc h6 C6 (i + 1) n6) ∧ Hid (RW.At wc C6 (rgQ k i ++ [⟨i, (z : Int), 1⟩])) ∧ Hid (i + 1 ≤ n6 ∧ Sp C6) ∧ Hid (Since wo wc))
          case first =>
            refine wp_region_since (by kernel_rfl) ?_
            have hS : Since wo (World.drew wo) := (Below.refl _ _).drew
            refine wpAnyH_take (i := 0) (oi := ⟨some 65, _, _, _, _, _⟩) (v := ?_) rfl (by kernel_rfl) (by kernel_rfl) (by kernel_rfl) (fun _ _ _ h => h) (Or.inl ⟨by rfl, ?_⟩) hS ?_
            rotate_left
            · intro W hW; go_simp; with_reducible rfl
            try simp only [Act.put, List.setIfInBounds_toArray, List.set_cons_zero, List.set_cons_succ]
            refine wpAnyH_take (i := 1) (oi := ⟨some 66, _, _, _, _, _⟩) (v := ?_) rfl (by kernel_rfl) (by kernel_rfl) (by kernel_rfl) (fun _ _ _ h => h) (Or.inl ⟨by rfl, ?_⟩) hS ?_
            rotate_left
            · intro W hW; go_simp; with_reducible rfl
            try simp only [Act.put, List.setIfInBounds_toArray, List.set_cons_zero, List.set_cons_succ]
            refine wpAnyH_take (i := 2) (oi := ⟨some 67, _, _, _, _, _⟩) (v := ?_) rfl (by kernel_rfl) (by kernel_rfl) (by kernel_rfl) (fun _ _ _ h => h) (Or.inl ⟨by rfl, ?_⟩) hS ?_
            rotate_left
            · intro W hW; go_simp; with_reducible rfl
            try simp only [Act.put, List.setIfInBounds_toArray, List.set_cons_zero, List.set_cons_succ]
            refine wpAnyH_take (i := 3) (oi := ⟨some 68, _, _, _, _, _⟩) (v := ?_) rfl (by kernel_rfl) (by kernel_rfl) (by kernel_rfl) (fun _ _ _ h => h) (Or.inl ⟨by rfl, ?_⟩) hS ?_
            rotate_left
            · intro W hW; go_simp; with_reducible rfl
            try simp only [Act.put, List.setIfInBounds_toArray, List.set_cons_zero, List.set_cons_succ]
            refine wpAnyH_take (i := 4) (oi := ⟨some 69, _, _, _, _, _⟩) (v := ?_) rfl (by kernel_rfl) (by kernel_rfl) (by kernel_rfl) (fun _ _ _ h => h) (Or.inl ⟨by rfl, ?_⟩) hS ?_
            rotate_left
            · intro W hW; go_simp; with_reducible rfl
            try simp only [Act.put, List.setIfInBounds_toArray, List.set_cons_zero, List.set_cons_succ]
            refine wpAnyH_take (i := 5) (oi := ⟨some 70, _, _, _, _, _⟩) (v := ?_) rfl (by kernel_rfl) (by kernel_rfl) (by kernel_rfl) (fun _ _ _ h => h) (Or.inl ⟨by rfl, ?_⟩) hS ?_
            rotate_left
            · intro W hW; go_simp; with_reducible rfl
            try simp only [Act.put, List.setIfInBounds_toArray, List.set_cons_zero, List.set_cons_succ]
            refine wpAnyH_take (i := 6) (oi := ⟨some 71, _, _, _, _, _⟩) (v := ?_) rfl (by kernel_rfl) (by kernel_rfl) (by kernel_rfl) (fun _ _ _ h => h) (Or.inl ⟨by rfl, ?_⟩) hS ?_
            rotate_left
            · intro W hW; go_simp; with_reducible rfl
            try simp only [Act.put, List.setIfInBounds_toArray, List.set_cons_zero, List.set_cons_succ]
            refine wpAnyH_ready (rs := [7, 11]) (by kernel_rfl) (by simp) ?_
            refine AllReadyH.cons (o := ⟨some 72, _, _, _, _, _⟩) rfl (fun Kr hKr => ?_) (AllReadyH.cons (o := ⟨some 17, _, _, _, _, _⟩) rfl (fun Kr hKr => ?_) AllReadyH.nil)
            · skip
              -- operation 7: a call
              go_simp
              refine (HAK.out _ hS).mono ?_
              rintro e w6 ⟨C6, n6, rfl, hk6, hs6, hx6, hb6⟩
              show Kr _ _
              refine hKr.out _ _ ?_ (fun _ => ?_)
              · exact since_trans hS hb6
              clear hKr Kr
              replace hS : Since wo w6 := since_trans hS hb6
              try simp only [Act.put, List.setIfInBounds_toArray, List.set_cons_zero, List.set_cons_succ]
              refine wpAnyH_take (i := 8) (oi := ⟨some 64, _, _, _, _, _⟩) (v := ?_) rfl (by kernel_rfl) (by kernel_rfl) (by kernel_rfl) (fun _ _ _ h => h) (Or.inl ⟨by rfl, ?_⟩) hS ?_
              rotate_left
              · intro W hW; go_simp; with_reducible rfl
              try simp only [Act.put, List.setIfInBounds_toArray, List.set_cons_zero, List.set_cons_succ]
              refine wpAnyH_take (i := 9) (oi := ⟨some 73, _, _, _, _, _⟩) (v := ?_) rfl (by kernel_rfl) (by kernel_rfl) (by kernel_rfl) (fun _ _ _ h => h) (Or.inl ⟨by rfl, ?_⟩) hS ?_
              rotate_left
              · intro W hW; go_simp; with_reducible rfl
              try simp only [Act.put, List.setIfInBounds_toArray, List.set_cons_zero, List.set_cons_succ]
              refine wpAnyH_take (i := 10) (oi := ⟨some 74, _, _, _, _, _⟩) (v := ?_) rfl (by kernel_rfl) (by kernel_rfl) (by kernel_rfl) (fun _ _ _ h => h) (Or.inl ⟨by rfl, ?_⟩) hS ?_
              rotate_left
              · intro W hW; go_simp; with_reducible rfl
              try simp only [Act.put, List.setIfInBounds_toArray, List.set_cons_zero, List.set_cons_succ]
              refine wpAnyH_ready (rs := [11]) (by kernel_rfl) (by simp) ?_
              refine AllReadyH.cons (o := ⟨some 17, _, _, _, _, _⟩) rfl (fun Kr hKr => ?_) AllReadyH.nil
              -- operation 11: a step
              refine wp_alloc_queue rfl ?_
              intro w20 g20 hg20 hk20 hb20
              have hG20 : wo.heap.size ≤ g20 := Nat.le_trans (Below.size hS) hg20
              show Kr _ _
              refine hKr.out _ _ ?_ (fun _ => ?_)
              · exact since_trans hS hb20
              clear hKr Kr
              replace hS : Since wo w20 := since_trans hS hb20
              try simp only [Act.put, List.setIfInBounds_toArray, List.set_cons_zero, List.set_cons_succ]
              refine wpAnyH_ready (rs := [12]) (by kernel_rfl) (by simp) ?_
              refine AllReadyH.cons (o := ⟨none, _, _, _, _, _⟩) rfl (fun Kr hKr => ?_) AllReadyH.nil
              -- operation 12: a step
              refine wp_store_queue (.tmp 17) (.tmp 73) rfl rfl rfl (by first | exact hk20 | exact Bk.below hk20 hb6) ?_
              intro w7 hk7 hg7
              show Kr _ _
              refine hKr.out _ _ ?_ (fun _ => ?_)
              · exact Below.grown hS hg7 hS.size (fun q e => by injection e with e; omega)
              clear hKr Kr
              replace hS : Since wo w7 := Below.grown hS hg7 hS.size (fun q e => by injection e with e; omega)
              try simp only [Act.put, List.setIfInBounds_toArray, List.set_cons_zero, List.set_cons_succ]
              refine wpAnyH_take (i := 13) (oi := ⟨some 18, _, _, _, _, _⟩) (v := ?_) rfl (by kernel_rfl) (by kernel_rfl) (by kernel_rfl) (fun _ _ _ h => h) (Or.inl ⟨by rfl, ?_⟩) hS ?_
              rotate_left
              · intro W hW; go_simp; with_reducible rfl
              try simp only [Act.put, List.setIfInBounds_toArray, List.set_cons_zero, List.set_cons_succ]
              refine wpAnyH_done (by kernel_rfl) ?_ _
              have hx7 : RW.At w7 C6 (rgQ k i ++ [⟨i, (z : Int), 1⟩]) := by first | exact RW_store (hx6.below hb20) hk20 rfl (by simp) hg7 | exact RW_store hx6 (Bk.below hk20 hb6) rfl (by simp) hg7
              go_wp2_with fail
              go_meet
              case rel => exact ⟨C6, n6, g20, rfl, rfl, hk7, hx7, ⟨hk6, hs6⟩, hS⟩
            · skip
              -- operation 11: a step
              refine wp_alloc_queue rfl ?_
              intro w20 g20 hg20 hk20 hb20
              have hG20 : wo.heap.size ≤ g20 := Nat.le_trans (Below.size hS) hg20
              show Kr _ _
              refine hKr.out _ _ ?_ (fun _ => ?_)
              · exact since_trans hS hb20
              clear hKr Kr
              replace hS : Since wo w20 := since_trans hS hb20
              try simp only [Act.put, List.setIfInBounds_toArray, List.set_cons_zero, List.set_cons_succ]
              refine wpAnyH_ready (rs := [7]) (by kernel_rfl) (by simp) ?_
              refine AllReadyH.cons (o := ⟨some 72, _, _, _, _, _⟩) rfl (fun Kr hKr => ?_) AllReadyH.nil
              -- operation 7: a call
              go_simp
              refine (HAK.out _ hS).mono ?_
              rintro e w6 ⟨C6, n6, rfl, hk6, hs6, hx6, hb6⟩
              show Kr _ _
              refine hKr.out _ _ ?_ (fun _ => ?_)
              · exact since_trans hS hb6
              clear hKr Kr
              replace hS : Since wo w6 := since_trans hS hb6
              try simp only [Act.put, List.setIfInBounds_toArray, List.set_cons_zero, List.set_cons_succ]
              refine wpAnyH_take (i := 8) (oi := ⟨some 64, _, _, _, _, _⟩) (v := ?_) rfl (by kernel_rfl) (by kernel_rfl) (by kernel_rfl) (fun _ _ _ h => h) (Or.inl ⟨by rfl, ?_⟩) hS ?_
              rotate_left
              · intro W hW; go_simp; with_reducible rfl
              try simp only [Act.put, List.setIfInBounds_toArray, List.set_cons_zero, List.set_cons_succ]
              refine wpAnyH_take (i := 9) (oi := ⟨some 73, _, _, _, _, _⟩) (v := ?_) rfl (by kernel_rfl) (by kernel_rfl) (by kernel_rfl) (fun _ _ _ h => h) (Or.inl ⟨by rfl, ?_⟩) hS ?_
              rotate_left
              · intro W hW; go_simp; with_reducible rfl
              try simp only [Act.put, List.setIfInBounds_toArray, List.set_cons_zero, List.set_cons_succ]
              refine wpAnyH_take (i := 10) (oi := ⟨some 74, _, _, _, _, _⟩) (v := ?_) rfl (by kernel_rfl) (by kernel_rfl) (by kernel_rfl) (fun _ _ _ h => h) (Or.inl ⟨by rfl, ?_⟩) hS ?_
              rotate_left
              · intro W hW; go_simp; with_reducible rfl
              try simp only [Act.put, List.setIfInBounds_toArray, List.set_cons_zero, List.set_cons_succ]
              refine wpAnyH_ready (rs := [12]) (by kernel_rfl) (by simp) ?_
              refine AllReadyH.cons (o := ⟨none, _, _, _, _, _⟩) rfl (fun Kr hKr => ?_) AllReadyH.nil
              -- operation 12: a step
              refine wp_store_queue (.tmp 17) (.tmp 73) rfl rfl rfl (by first | exact hk20 | exact Bk.below hk20 hb6) ?_
              intro w7 hk7 hg7
              show Kr _ _
              refine hKr.out _ _ ?_ (fun _ => ?_)
              · exact Below.grown hS hg7 hS.size (fun q e => by injection e with e; omega)
              clear hKr Kr
              replace hS : Since wo w7 := Below.grown hS hg7 hS.size (fun q e => by injection e with e; omega)
              try simp only [Act.put, List.setIfInBounds_toArray, List.set_cons_zero, List.set_cons_succ]
              refine wpAnyH_take (i := 13) (oi := ⟨some 18, _, _, _, _, _⟩) (v := ?_) rfl (by kernel_rfl) (by kernel_rfl) (by kernel_rfl) (fun _ _ _ h => h) (Or.inl ⟨by rfl, ?_⟩) hS ?_
              rotate_left
              · intro W hW; go_simp; with_reducible rfl
              try simp only [Act.put, List.setIfInBounds_toArray, List.set_cons_zero, List.set_cons_succ]
              refine wpAnyH_done (by kernel_rfl) ?_ _
              have hx7 : RW.At w7 C6 (rgQ k i ++ [⟨i, (z : Int), 1⟩]) := by first | exact RW_store (hx6.below hb20) hk20 rfl (by simp) hg7 | exact RW_store hx6 (Bk.below hk20 hb6) rfl (by simp) hg7
              go_wp2_with fail
              go_meet
              case rel => exact ⟨C6, n6, g20, rfl, rfl, hk7, hx7, ⟨hk6, hs6⟩, hS⟩
          obtain ⟨C6, n6, h6, rfl, rfl, HK7, HX7, HPT, HS⟩ := hcut
          obtain ⟨w7, hw7⟩ : ∃ w7, w7 = wc := ⟨_, rfl⟩
          subst hw7
          have HQ7 := Lib.hid (HQ.out.below HS.out)
          have HT7 := Lib.hid (HT.out.below HS.out)
          have HL7 := Lib.hid (HL.out.below HS.out)
          have HB7 := Lib.hid (HB.out.trans (Below.mono HS.out HB.out.size))
          have k0 := HK7.out.c 0 _ rfl
          clear s0 hmod hmod2 hw1 hw3 hnz hnz2 hnz3
          go_wp2_with (first | (refine wpList_store_queue rfl (.tmp 15) (.tmp 77) rfl rfl rfl HQ7.out.t ?_; intro w8 hk8 hg8; have HK8 := Lib.hid hk8; have HG8 := Lib.hid hg8; clear hk8 hg8) | fail)
          go_roundw
          case rel =>
            refine ⟨i + 1, C6, n6, by simp, by omega, by show SQ (rgQ k (i + 1)); rw [HE.out]; exact HSN.out, ?_, HT7.out.farQ HQ7.out.t HG8.out (by have := HGH.out; have := HHQ.out; omega), HL7.out.farQ HQ7.out.t HG8.out (by have := HHQ.out; omega), HB7.out.grown HG8.out HB7.out.size (fun k e => by injection e with e; have := HGW.out; have := HGH.out; have := HHQ.out; omega)⟩
            show Qp _ _ _ _ _ (rgQ k (i + 1))
            rw [HE.out]
            exact ⟨HK8.out, RW_store HX7.out HQ7.out.t rfl (by simp) HG8.out, by rw [List.length_append, rgQ_len]; rfl, HPT.out.1, HPT.out.2⟩
          case measure => simp [intOf]; omega
        · have hik2 : i = k := by omega
          subst hik2
          obtain ⟨k, hkk⟩ : ∃ k, k = i := ⟨_, rfl⟩
          subst hkk
          have c0 := HT.out.t.c0
          have c1 := HT.out.t.c1
          have c2 := HL.out.t.c0
          have c3 := HQ.out.t.c 0 _ rfl
          have HSK := Lib.hid (stuck_any C (rgQ k k) k nn B (wrL k) k m A T k kk (k : Int) HSQ.out HQ.out.hn (lg_wrL k (by omega)) HL.out.hn HL.out.hk HTO.out.good HTO.out.n wo HQ.out.x HL.out.x HT.out.x)
          rw [stuck_ring HTO.out hk2, List.length_range] at HSK
          go_wp2_with fail
          refine HSK.out.mono ?_
          rintro e w4 ⟨E4, f4, rfl, _, hat4, _, hb4⟩
          have HAT4 := Lib.hid hat4
          have HQ4 := Lib.hid (HQ.out.below hb4)
          have HT4 := Lib.hid (HT.out.below hb4)
          have HL4 := Lib.hid (HL.out.below hb4)
          have HB4 := Lib.hid (HB.out.trans (hb4.mono HB.out.size))
          clear hat4 hb4 c0 c1 c2 c3 HSK HQ HT HL HB
          go_wp2_with fail
          go_loopw [20] (fun iv wr => ∃ j : Nat, iv = .int .i64 (j : Int) ∧ j ≤ k ∧ wr = w4) (fun iv _ => k - (intOf iv).toNat)
          case atStart => exact ⟨0, rfl, Nat.zero_le _, by first | trivial | rfl⟩
          case round =>
            obtain ⟨j, rfl, hj, hw⟩ := hrel
            replace hw := hw.symm
            subst hw
            rcases Nat.lt_or_ge j k with hjk | hjk
            · obtain ⟨b, o, hE, hb, hc⟩ := RI_cell HAT4.out (i := j) (x := j) (List.getElem?_range hjk)
              subst hE
              go_wp2_with fail
              go_roundw
              case rel => exact ⟨j + 1, by simp, by omega, by first | trivial | rfl⟩
              case measure => simp [intOf]; omega
            · have hjk2 : j = k := by omega
              subst hjk2
              obtain ⟨k, hkk⟩ : ∃ k, k = j := ⟨_, rfl⟩
              subst hkk
              obtain ⟨wo, hwo⟩ : ∃ wo, wo = w4 := ⟨_, rfl⟩
              subst hwo
              obtain ⟨y, hy, hlow2⟩ := low out 65535 16 (by decide) (by omega)
              obtain ⟨o, ho⟩ : ∃ o : Nat, o = y % k := ⟨_, rfl⟩
              have hok : o < k := by rw [ho]; exact Nat.mod_lt _ (by omega)
              have hmod : (y : Int) % (k : Int) = (o : Int) := by rw [ho]; simp
              have hmod2 : Int.tmod (y : Int) (k : Int) = (o : Int) := by rw [Int.tmod_eq_emod_of_nonneg (by omega)]; exact hmod
              have hw3 : IntKind.i64.wrap (o : Int) = (o : Int) := by rw [IntKind.wrap_i64]; omega
              have hnz : ((k : Int) == 0) = false := by simp; omega
              have hnz2 : ¬ (k : Int) = 0 := by omega
              have hnz3 : ¬ k = 0 := by omega
              have HSD := Lib.hid (sq_drop HSQ.out [o])
              have HDR := Lib.hid (fun V gq (hV : Since wo V) (hid : IdAt V (some ⟨gq, 0, none⟩) [o]) => drop_any C (rgQ k k) k nn HQ4.out.hn HQ4.out.s HSQ.out (some ⟨gq, 0, none⟩) [o] 1 1 rfl (by decide) (by simp; omega) V (HQ4.out.x.below hV) hid)
              have s0 : ∀ V, Since wo V → V.cell? ⟨q, 0, none⟩ = some (.slice C k nn) := fun V hV => (HQ4.out.t.below hV).c 0 _ rfl
              clear ho hy
              go_upto_region 30 with fail
              go_cut [21] from 94 to 100 (fun pv wc => ∃ (d : Nat) (D : Option Addr) (n2 k2 : Nat), pv = .pointer (some ⟨d, 0, none⟩) ∧ Hid (Qp wc d D n2 k2 (dropL (rgQ k k) [o])) ∧ Hid (Since wo wc))
              case first =>
                refine wp_region_since (by kernel_rfl) ?_
                have hS : Since wo (World.drew wo) := (Below.refl _ _).drew
                refine wpAnyH_take (i := 0) (oi := ⟨some 94, _, _, _, _, _⟩) (v := ?_) rfl (by kernel_rfl) (by kernel_rfl) (by kernel_rfl) (fun _ _ _ h => h) (Or.inl ⟨by rfl, ?_⟩) hS ?_
                rotate_left
                · intro W hW; go_simp; with_reducible rfl
                try simp only [Act.put, List.setIfInBounds_toArray, List.set_cons_zero, List.set_cons_succ]
                refine wpAnyH_take (i := 1) (oi := ⟨some 95, _, _, _, _, _⟩) (v := ?_) rfl (by kernel_rfl) (by kernel_rfl) (by kernel_rfl) (fun _ _ _ h => h) (Or.inl ⟨by rfl, ?_⟩) hS ?_
                rotate_left
                · intro W hW; go_simp; with_reducible rfl
                try simp only [Act.put, List.setIfInBounds_toArray, List.set_cons_zero, List.set_cons_succ]
                refine wpAnyH_take (i := 2) (oi := ⟨some 96, _, _, _, _, _⟩) (v := ?_) rfl (by kernel_rfl) (by kernel_rfl) (by kernel_rfl) (fun _ _ _ h => h) (Or.inl ⟨by rfl, ?_⟩) hS ?_
                rotate_left
                · intro W hW; go_simp; with_reducible rfl
                try simp only [Act.put, List.setIfInBounds_toArray, List.set_cons_zero, List.set_cons_succ]
                refine wpAnyH_take (i := 3) (oi := ⟨some 97, _, _, _, _, _⟩) (v := ?_) rfl (by kernel_rfl) (by kernel_rfl) (by kernel_rfl) (fun _ _ _ h => h) (Or.inl ⟨by rfl, ?_⟩) hS ?_
                rotate_left
                · intro W hW; go_simp; with_reducible rfl
                try simp only [Act.put, List.setIfInBounds_toArray, List.set_cons_zero, List.set_cons_succ]
                refine wpAnyH_take (i := 4) (oi := ⟨some 98, _, _, _, _, _⟩) (v := ?_) rfl (by kernel_rfl) (by kernel_rfl) (by kernel_rfl) (fun _ _ _ h => h) (Or.inl ⟨by rfl, ?_⟩) hS ?_
                rotate_left
                · intro W hW; go_simp; with_reducible rfl
                try simp only [Act.put, List.setIfInBounds_toArray, List.set_cons_zero, List.set_cons_succ]
                refine wpAnyH_ready (rs := [5, 7]) (by kernel_rfl) (by simp) ?_
                refine AllReadyH.cons (o := ⟨some 99, _, _, _, _, _⟩) rfl (fun Kr hKr => ?_) (AllReadyH.cons (o := ⟨some 21, _, _, _, _, _⟩) rfl (fun Kr hKr => ?_) AllReadyH.nil)
                · skip
                  -- operation 5: a step
                  refine wp_build_int (n := o) _ rfl rfl ?_
                  intro wq gq hgq hatq hbq
                  show Kr _ _
                  refine hKr.out _ _ ?_ (fun _ => ?_)
                  · exact since_trans hS hbq
                  clear hKr Kr
                  replace hS : Since wo wq := since_trans hS hbq
                  try simp only [Act.put, List.setIfInBounds_toArray, List.set_cons_zero, List.set_cons_succ]
                  refine wpAnyH_ready (rs := [6, 7]) (by kernel_rfl) (by simp) ?_
                  refine AllReadyH.cons (o := ⟨some 100, _, _, _, _, _⟩) rfl (fun Kr hKr => ?_) (AllReadyH.cons (o := ⟨some 21, _, _, _, _, _⟩) rfl (fun Kr hKr => ?_) AllReadyH.nil)
                  · skip
                    -- operation 6: a call
                    go_simp
                    refine (HDR.out _ _ hS (by first | exact id_one hatq | exact id_one (Rk.At.below hatq hb20))).mono ?_
                    rintro e w6 ⟨D2, n2, k2, rfl, ho6, hb6⟩
                    show Kr _ _
                    refine hKr.out _ _ ?_ (fun _ => ?_)
                    · exact since_trans hS hb6
                    clear hKr Kr
                    replace hS : Since wo w6 := since_trans hS hb6
                    try simp only [Act.put, List.setIfInBounds_toArray, List.set_cons_zero, List.set_cons_succ]
                    refine wpAnyH_ready (rs := [7]) (by kernel_rfl) (by simp) ?_
                    refine AllReadyH.cons (o := ⟨some 21, _, _, _, _, _⟩) rfl (fun Kr hKr => ?_) AllReadyH.nil
                    -- operation 7: a step
                    refine wp_alloc_queue rfl ?_
                    intro w20 g20 hg20 hk20 hb20
                    have hG20 : wo.heap.size ≤ g20 := Nat.le_trans (Below.size hS) hg20
                    show Kr _ _
                    refine hKr.out _ _ ?_ (fun _ => ?_)
                    · exact since_trans hS hb20
                    clear hKr Kr
                    replace hS : Since wo w20 := since_trans hS hb20
                    try simp only [Act.put, List.setIfInBounds_toArray, List.set_cons_zero, List.set_cons_succ]
                    refine wpAnyH_ready (rs := [8]) (by kernel_rfl) (by simp) ?_
                    refine AllReadyH.cons (o := ⟨none, _, _, _, _, _⟩) rfl (fun Kr hKr => ?_) AllReadyH.nil
                    -- operation 8: a step
                    refine wp_store_queue (.tmp 21) (.tmp 100) rfl rfl rfl (by first | exact hk20 | exact Bk.below hk20 hb6 | exact Bk.below (Bk.below hk20 hbq) hb6) ?_
                    intro w7 hk7 hg7
                    show Kr _ _
                    refine hKr.out _ _ ?_ (fun _ => ?_)
                    · exact Below.grown hS hg7 hS.size (fun q e => by injection e with e; omega)
                    clear hKr Kr
                    replace hS : Since wo w7 := Below.grown hS hg7 hS.size (fun q e => by injection e with e; omega)
                    try simp only [Act.put, List.setIfInBounds_toArray, List.set_cons_zero, List.set_cons_succ]
                    refine wpAnyH_done (by kernel_rfl) ?_ _
                    obtain ⟨D3, k3, e3, hk3', hat3, hsp3⟩ := Rk.Own.form rw_ok ho6
                    injection e3 with e3 e4 e5
                    subst e3; subst e5
                    have hx7 : RW.At w7 D2 (dropL (rgQ k k) [o]) := by first | exact RW_store (hat3.below hb20) hk20 rfl (by simp) hg7 | exact RW_store hat3 (Bk.below hk20 hb6) rfl (by simp) hg7 | exact RW_store hat3 (Bk.below (Bk.below hk20 hbq) hb6) rfl (by simp) hg7
                    have HXX := Lib.hid (show Qp w7 g20 D2 n2 k2 (dropL (rgQ k k) [o]) from ⟨hk7, hx7, e4.symm, by rw [e4]; exact hk3', hsp3.imp id (fun ⟨g, e, _⟩ => ⟨g, 0, e⟩)⟩)
                    clear e4 hk3' hat3 hsp3 hx7 ho6
                    go_wp2_with fail
                    go_meet
                    case rel => exact ⟨g20, D2, n2, k2, rfl, HXX.out, hS⟩
                  · skip
                    -- operation 7: a step
                    refine wp_alloc_queue rfl ?_
                    intro w20 g20 hg20 hk20 hb20
                    have hG20 : wo.heap.size ≤ g20 := Nat.le_trans (Below.size hS) hg20
                    show Kr _ _
                    refine hKr.out _ _ ?_ (fun _ => ?_)
                    · exact since_trans hS hb20
                    clear hKr Kr
                    replace hS : Since wo w20 := since_trans hS hb20
                    try simp only [Act.put, List.setIfInBounds_toArray, List.set_cons_zero, List.set_cons_succ]
                    refine wpAnyH_ready (rs := [6]) (by kernel_rfl) (by simp) ?_
                    refine AllReadyH.cons (o := ⟨some 100, _, _, _, _, _⟩) rfl (fun Kr hKr => ?_) AllReadyH.nil
                    -- operation 6: a call
                    go_simp
                    refine (HDR.out _ _ hS (by first | exact id_one hatq | exact id_one (Rk.At.below hatq hb20))).mono ?_
                    rintro e w6 ⟨D2, n2, k2, rfl, ho6, hb6⟩
                    show Kr _ _
                    refine hKr.out _ _ ?_ (fun _ => ?_)
                    · exact since_trans hS hb6
                    clear hKr Kr
                    replace hS : Since wo w6 := since_trans hS hb6
                    try simp only [Act.put, List.setIfInBounds_toArray, List.set_cons_zero, List.set_cons_succ]
                    refine wpAnyH_ready (rs := [8]) (by kernel_rfl) (by simp) ?_
                    refine AllReadyH.cons (o := ⟨none, _, _, _, _, _⟩) rfl (fun Kr hKr => ?_) AllReadyH.nil
                    -- operation 8: a step
                    refine wp_store_queue (.tmp 21) (.tmp 100) rfl rfl rfl (by first | exact hk20 | exact Bk.below hk20 hb6 | exact Bk.below (Bk.below hk20 hbq) hb6) ?_
                    intro w7 hk7 hg7
                    show Kr _ _
                    refine hKr.out _ _ ?_ (fun _ => ?_)
                    · exact Below.grown hS hg7 hS.size (fun q e => by injection e with e; omega)
                    clear hKr Kr
                    replace hS : Since wo w7 := Below.grown hS hg7 hS.size (fun q e => by injection e with e; omega)
                    try simp only [Act.put, List.setIfInBounds_toArray, List.set_cons_zero, List.set_cons_succ]
                    refine wpAnyH_done (by kernel_rfl) ?_ _
                    obtain ⟨D3, k3, e3, hk3', hat3, hsp3⟩ := Rk.Own.form rw_ok ho6
                    injection e3 with e3 e4 e5
                    subst e3; subst e5
                    have hx7 : RW.At w7 D2 (dropL (rgQ k k) [o]) := by first | exact RW_store (hat3.below hb20) hk20 rfl (by simp) hg7 | exact RW_store hat3 (Bk.below hk20 hb6) rfl (by simp) hg7 | exact RW_store hat3 (Bk.below (Bk.below hk20 hbq) hb6) rfl (by simp) hg7
                    have HXX := Lib.hid (show Qp w7 g20 D2 n2 k2 (dropL (rgQ k k) [o]) from ⟨hk7, hx7, e4.symm, by rw [e4]; exact hk3', hsp3.imp id (fun ⟨g, e, _⟩ => ⟨g, 0, e⟩)⟩)
                    clear e4 hk3' hat3 hsp3 hx7 ho6
                    go_wp2_with fail
                    go_meet
                    case rel => exact ⟨g20, D2, n2, k2, rfl, HXX.out, hS⟩
                · skip
                  -- operation 7: a step
                  refine wp_alloc_queue rfl ?_
                  intro w20 g20 hg20 hk20 hb20
                  have hG20 : wo.heap.size ≤ g20 := Nat.le_trans (Below.size hS) hg20
                  show Kr _ _
                  refine hKr.out _ _ ?_ (fun _ => ?_)
                  · exact since_trans hS hb20
                  clear hKr Kr
                  replace hS : Since wo w20 := since_trans hS hb20
                  try simp only [Act.put, List.setIfInBounds_toArray, List.set_cons_zero, List.set_cons_succ]
                  refine wpAnyH_ready (rs := [5]) (by kernel_rfl) (by simp) ?_
                  refine AllReadyH.cons (o := ⟨some 99, _, _, _, _, _⟩) rfl (fun Kr hKr => ?_) AllReadyH.nil
                  -- operation 5: a step
                  refine wp_build_int (n := o) _ rfl rfl ?_
                  intro wq gq hgq hatq hbq
                  show Kr _ _
                  refine hKr.out _ _ ?_ (fun _ => ?_)
                  · exact since_trans hS hbq
                  clear hKr Kr
                  replace hS : Since wo wq := since_trans hS hbq
                  try simp only [Act.put, List.setIfInBounds_toArray, List.set_cons_zero, List.set_cons_succ]
                  refine wpAnyH_ready (rs := [6]) (by kernel_rfl) (by simp) ?_
                  refine AllReadyH.cons (o := ⟨some 100, _, _, _, _, _⟩) rfl (fun Kr hKr => ?_) AllReadyH.nil
                  -- operation 6: a call
                  go_simp
                  refine (HDR.out _ _ hS (by first | exact id_one hatq | exact id_one (Rk.At.below hatq hb20))).mono ?_
                  rintro e w6 ⟨D2, n2, k2, rfl, ho6, hb6⟩
                  show Kr _ _
                  refine hKr.out _ _ ?_ (fun _ => ?_)
                  · exact since_trans hS hb6
                  clear hKr Kr
                  replace hS : Since wo w6 := since_trans hS hb6
                  try simp only [Act.put, List.setIfInBounds_toArray, List.set_cons_zero, List.set_cons_succ]
                  refine wpAnyH_ready (rs := [8]) (by kernel_rfl) (by simp) ?_
                  refine AllReadyH.cons (o := ⟨none, _, _, _, _, _⟩) rfl (fun Kr hKr => ?_) AllReadyH.nil
                  -- operation 8: a step
                  refine wp_store_queue (.tmp 21) (.tmp 100) rfl rfl rfl (by first | exact hk20 | exact Bk.below hk20 hb6 | exact Bk.below (Bk.below hk20 hbq) hb6) ?_
                  intro w7 hk7 hg7
                  show Kr _ _
                  refine hKr.out _ _ ?_ (fun _ => ?_)
                  · exact Below.grown hS hg7 hS.size (fun q e => by injection e with e; omega)
                  clear hKr Kr
                  replace hS : Since wo w7 := Below.grown hS hg7 hS.size (fun q e => by injection e with e; omega)
                  try simp only [Act.put, List.setIfInBounds_toArray, List.set_cons_zero, List.set_cons_succ]
                  refine wpAnyH_done (by kernel_rfl) ?_ _
                  obtain ⟨D3, k3, e3, hk3', hat3, hsp3⟩ := Rk.Own.form rw_ok ho6
                  injection e3 with e3 e4 e5
                  subst e3; subst e5
                  have hx7 : RW.At w7 D2 (dropL (rgQ k k) [o]) := by first | exact RW_store (hat3.below hb20) hk20 rfl (by simp) hg7 | exact RW_store hat3 (Bk.below hk20 hb6) rfl (by simp) hg7 | exact RW_store hat3 (Bk.below (Bk.below hk20 hbq) hb6) rfl (by simp) hg7
                  have HXX := Lib.hid (show Qp w7 g20 D2 n2 k2 (dropL (rgQ k k) [o]) from ⟨hk7, hx7, e4.symm, by rw [e4]; exact hk3', hsp3.imp id (fun ⟨g, e, _⟩ => ⟨g, 0, e⟩)⟩)
                  clear e4 hk3' hat3 hsp3 hx7 ho6
                  go_wp2_with fail
                  go_meet
                  case rel => exact ⟨g20, D2, n2, k2, rfl, HXX.out, hS⟩
              obtain ⟨d, D, n2, k2, rfl, HR, HS⟩ := hcut
              obtain ⟨w7, hw7⟩ : ∃ w7, w7 = wc := ⟨_, rfl⟩
              subst hw7
              have HQ7 := Lib.hid (HQ4.out.below HS.out)
              have HT7 := Lib.hid (HT4.out.below HS.out)
              have HL7 := Lib.hid (HL4.out.below HS.out)
              have HB7 := Lib.hid (HB4.out.trans (Below.mono HS.out HB4.out.size))
              obtain ⟨kp, hkp0⟩ : ∃ kp, kp = k - 1 := ⟨_, rfl⟩
              have hkp : (k : Int) - 1 = (kp : Int) := by omega
              have hkpw : IntKind.i64.wrap (kp : Int) = (kp : Int) := by rw [IntKind.wrap_i64]; omega
              clear s0 hlow2 hmod hmod2 hw3 hnz hnz2 hnz3 HQ4 HT4 HL4 HB4
              have c0 := HT7.out.t.c0
              have c1 := HT7.out.t.c1
              have c2 := HL7.out.t.c0
              have c3 := HQ7.out.t.c 0 _ rfl
              have HV1 := Lib.hid (victim_any C (rgQ k k) k nn B (wrL k) k m A T k kk (k : Int) HSQ.out HQ7.out.hn (lg_wrL k (by omega)) HL7.out.hn HL7.out.hk HTO.out.good HTO.out.n w7 HQ7.out.x HL7.out.x HT7.out.x)
              rw [vic_range _ (stuck_ring HTO.out hk2) (by omega), ← hkp0] at HV1
              clear hkp0
              go_wp2_with fail
              refine HV1.out.mono ?_
              rintro e w8 ⟨rfl, hb8⟩
              have HQ8 := Lib.hid (HQ7.out.below hb8)
              have HT8 := Lib.hid (HT7.out.below hb8)
              have HL8 := Lib.hid (HL7.out.below hb8)
              have HR8 := Lib.hid (HR.out.below hb8)
              have HB8 := Lib.hid (HB7.out.trans (hb8.mono HB7.out.size))
              clear hb8 c0 c1 c2 c3 HQ7 HT7 HL7 HB7 HR HV1
              have c0 := HT8.out.t.c0
              have c1 := HT8.out.t.c1
              have c2 := HL8.out.t.c0
              have c3 := HQ8.out.t.c 0 _ rfl
              have HRD := Lib.hid (ready_any C (rgQ k k) k nn B (wrL k) k m A T k kk (k : Int) HSQ.out HQ8.out.hn (lg_wrL k (by omega)) HL8.out.hn HL8.out.hk HTO.out.good HTO.out.n w8 HQ8.out.x HL8.out.x HT8.out.x)
              rw [ready_ring HTO.out hk2] at HRD
              go_wp2_with fail
              refine HRD.out.mono ?_
              rintro e w9 ⟨v9, rfl, ho9, hb9⟩
              obtain ⟨E9, f9, rfl, _, _, _⟩ := Rk.Own.form rw_ok ho9
              have HT9 := Lib.hid (HT8.out.below hb9)
              have HL9 := Lib.hid (HL8.out.below hb9)
              have HR9 := Lib.hid (HR8.out.below hb9)
              have HB9 := Lib.hid (HB8.out.trans (hb9.mono HB8.out.size))
              clear ho9 hb9 c0 c1 c2 c3 HQ8 HT8 HL8 HB8 HR8 HRD
              have c0 := HT9.out.t.c0
              have c1 := HT9.out.t.c1
              have c2 := HL9.out.t.c0
              have c3 := HR9.out.t.c 0 _ rfl
              have HS9 := Lib.hid (stuck_any D (dropL (rgQ k k) [o]) n2 k2 B (wrL k) k m A T k kk (k : Int) HSD.out HR9.out.hn (lg_wrL k (by omega)) HL9.out.hn HL9.out.hk HTO.out.good HTO.out.n w9 HR9.out.x HL9.out.x HT9.out.x)
              rw [drop_ring HTO.out hk2 hok] at HS9
              go_wp2_with fail
              refine HS9.out.mono ?_
              rintro e w10 ⟨E10, f10, rfl, _, _, _, hb10⟩
              have HT10 := Lib.hid (HT9.out.below hb10)
              have HL10 := Lib.hid (HL9.out.below hb10)
              have HR10 := Lib.hid (HR9.out.below hb10)
              have HB10 := Lib.hid (HB9.out.trans (hb10.mono HB9.out.size))
              clear hb10 c0 c1 c2 c3 HT9 HL9 HB9 HR9 HS9
              have c0 := HT10.out.t.c0
              have c1 := HT10.out.t.c1
              have c2 := HL10.out.t.c0
              have c3 := HR10.out.t.c 0 _ rfl
              have HV2 := Lib.hid (victim_any D (dropL (rgQ k k) [o]) n2 k2 B (wrL k) k m A T k kk (k : Int) HSD.out HR10.out.hn (lg_wrL k (by omega)) HL10.out.hn HL10.out.hk HTO.out.good HTO.out.n w10 HR10.out.x HL10.out.x HT10.out.x)
              rw [vic_nil (drop_ring HTO.out hk2 hok)] at HV2
              go_wp2_with fail
              refine HV2.out.mono ?_
              rintro e w11 ⟨rfl, hb11⟩
              have HB11 := Lib.hid (HB10.out.trans (hb11.mono HB10.out.size))
              clear hb11 c0 c1 c2 c3
              go_wp2_with fail
              go_ret
              exact ⟨rfl, HB11.out⟩
end Go.Proofs.Ytbokhhialfbjcaa
