/-
  Stuck: who waits for itself.
-/
import Derived.Test.YtbokhhialfbjcaaGreatGpA
namespace Go.Proofs.YtbokhhialfbjcaaGreat
set_option maxRecDepth 100000
set_option linter.unusedVariables false
set_option linter.unusedSimpArgs false
open Go.RowKit Go.Shelf Go.Sort Go.Maps

theorem grow_fin {wz w7 w8 w9 : World} {B m : Nat} {v v8 : Value} {l : List Nat} (hm : m < B) (hb7 : Below (World.drew wz).heap.size (World.drew wz) w7) (ho8 : RI.Own w8 B v8 l) (hv8 : v8.ownBlock = v.ownBlock ∨ v8.ownBlock = some w7.heap.size) (hg9 : w8.grownBy w9 (some m)) :
    RI.Own w9 B v8 l ∧ ∀ k, v8.ownBlock = some k → v.ownBlock = some k ∨ wz.heap.size ≤ k := by
  refine ⟨ho8.turn ((Turn.refl (fun q => q = m) _).grown hg9 (fun q e => .inl (by injection e with e; exact e.symm))) (fun k e h => by have h1 := (ho8.lt k e).1; have h2 : k = m := h; omega), fun k e => ?_⟩
  rcases hv8 with h | h
  · exact .inl (h ▸ e)
  · rw [h] at e
    injection e with e
    have h1 : wz.heap.size ≤ w7.heap.size := hb7.size
    exact .inr (by omega)
theorem Mb.new4 (w2 : World) : ∃ w3, w3 = (((w2.alloc (.map #[] 0)).alloc (.map #[] 0)).alloc (.cells #[.map (some w2.heap.size)] 58)).alloc (.cells #[.map (some (w2.heap.size + 1))] 58) ∧ Below w2.heap.size w2 w3 ∧ w3.heap.size = w2.heap.size + 4 ∧ Mv w3 w2.heap.size 0 nilI (fun _ => nilI) ∧ Mv w3 (w2.heap.size + 1) 0 nilI (fun _ => nilI) ∧ Mb w3 (w2.heap.size + 1 + 1) w2.heap.size ∧ Mb w3 (w2.heap.size + 1 + 1 + 1) (w2.heap.size + 1) := by
  obtain ⟨wa, hwa⟩ : ∃ wa, wa = w2.alloc (.map #[] 0) := ⟨_, rfl⟩
  obtain ⟨wb, hwb⟩ : ∃ wb, wb = wa.alloc (.map #[] 0) := ⟨_, rfl⟩
  obtain ⟨wc, hwc⟩ : ∃ wc, wc = wb.alloc (.cells #[.map (some w2.heap.size)] 58) := ⟨_, rfl⟩
  obtain ⟨w3, hw3⟩ : ∃ w3, w3 = wc.alloc (.cells #[.map (some (w2.heap.size + 1))] 58) := ⟨_, rfl⟩
  have sa : wa.heap.size = w2.heap.size + 1 := by rw [hwa]; simp
  have sb : wb.heap.size = w2.heap.size + 1 + 1 := by rw [hwb, World.size_alloc, sa]
  have sc : wc.heap.size = w2.heap.size + 1 + 1 + 1 := by rw [hwc, World.size_alloc, sb]
  have ba : Below wa.heap.size wa wb := by rw [hwb]; exact below_new _ _
  have bb : Below wb.heap.size wb wc := by rw [hwc]; exact below_new _ _
  have bc : Below wc.heap.size wc w3 := by rw [hw3]; exact below_new _ _
  have ma : Mv wa w2.heap.size 0 nilI (fun _ => nilI) := by rw [hwa]; exact Mv.made w2 _
  have mb : Mv wb (w2.heap.size + 1) 0 nilI (fun _ => nilI) := by
    have h := Mv.made wa nilI
    rw [sa] at h
    rw [hwb]; exact h
  have kc : Mb wc (w2.heap.size + 1 + 1) w2.heap.size := by
    have h := Bk.new wb #[.map (some w2.heap.size)] 58
    rw [sb] at h
    rw [hwc]; exact h
  have k3 : Mb w3 (w2.heap.size + 1 + 1 + 1) (w2.heap.size + 1) := by
    have h := Bk.new wc #[.map (some (w2.heap.size + 1))] 58
    rw [sc] at h
    rw [hw3]; exact h
  refine ⟨w3, by rw [hw3, hwc, hwb, hwa], ?_, by rw [hw3, World.size_alloc, sc], ((ma.below ba).below bb).below bc, (mb.below bb).below bc, kc.below bc, k3⟩
  have b0 : Below w2.heap.size w2 wa := by rw [hwa]; exact below_new _ _
  exact ((b0.trans (ba.mono b0.size)).trans (bb.mono (by omega))).trans (bc.mono (by omega))

set_option maxHeartbeats 4000000 in
theorem stuck_any (Aq : Option Addr) (Q : List Wn) (nq kq : Nat) (A : Option Addr) (L : List Lk) (na ka : Nat) (Ax : Option Addr) (T : Tr) (N cap : Nat) (c : Int)
    (hQ : SQ Q) (hnq : Q.length = nq) (hL : LG L) (hna : L.length = na) (hnka : na ≤ ka) (hG : Good T) (hN : T.l.length = N) (w : World) (hrq : RW.At w Aq Q) (hrt : LkAt w A L) (hrx : TxAt w Ax T.l) :
    Calls Tryz.prog 7 #[.agg #[.slice Aq nq kq], .agg #[.slice A na ka], .agg #[.slice Ax N cap, .int .i64 c]] w fun e w' => ∃ A' c', e = .returned (.slice A' (stuckL T (edgL T L Q)).length c') ∧ (stuckL T (edgL T L Q)).length ≤ c' ∧ RI.At w' A' (stuckL T (edgL T L Q)) ∧ (A' = none ∨ ∃ g, A' = some ⟨g, 0, none⟩ ∧ w.heap.size ≤ g ∧ g < w'.heap.size) ∧ Below w.heap.size w w' := by
  have hmm := @run_makeMap Tryz.prog
  obtain ⟨w1, hw1⟩ : ∃ w1, w1 = ((w.alloc (.cells #[.slice Aq nq kq] 28)).alloc (.cells #[.slice A na ka] 34)).alloc (.cells #[.slice Ax N cap, .int .i64 c] 31) := ⟨_, rfl⟩
  have b1 : Below w.heap.size w w1 := by rw [hw1]; exact below_two (below_two (below_new _ _) (below_new _ _)) (below_new _ _)
  have kx : Xb w1 (w.heap.size + 1 + 1) Ax N cap c := by
    have h := Bk.new ((w.alloc (.cells #[.slice Aq nq kq] 28)).alloc (.cells #[.slice A na ka] 34)) #[.slice Ax N cap, .int .i64 c] 31
    rw [World.size_alloc, World.size_alloc] at h
    rw [hw1]; exact h
  have HED := Lib.hid (edgesOf_any Aq Q nq kq A L na ka Ax T N cap c hQ hnq hL hna hnka hG hN w1 (hrq.below b1) (hrt.below b1) (hrx.below b1))
  have hlen := edgL_len (T := T) (L := L) (Q := Q)
  have hl2 : (edgL T L Q).length ≤ 10000000 := by
    have h1 : Q.length * (L.length + Q.length) ≤ 64 * (L.length + Q.length) := Nat.mul_le_mul_right _ hQ.n
    have h2 := hL.len
    have h3 := hQ.n
    omega
  obtain ⟨E, hE⟩ : ∃ E, E = efL N (edgL T L Q) := ⟨_, rfl⟩
  obtain ⟨AE, hAE⟩ : ∃ AE, AE = kidN T N ++ E := ⟨_, rfl⟩
  have hEl : E.length ≤ 10000000 := by rw [hE]; exact Nat.le_trans (List.length_filter_le _ _) hl2
  have hN64 : N ≤ 64 := by have := hG.n; omega
  have hAl : AE.length ≤ 10000064 := by
    rw [hAE, List.length_append]
    have := kidN_len T N
    omega
  have hon : ∀ a b, (a, b) ∈ AE → a < 64 ∧ b < 64 := by
    intro a b h
    have h1 : (a, b) ∈ allE T L Q := by unfold allE; rw [hN, ← hE, ← hAE]; exact h
    have h2 := ((mem_allE hG).1 h1).1
    omega
  have HALLE := Lib.hid (show allE T L Q = AE by unfold allE; rw [hN, ← hE, ← hAE])
  have HEE := Lib.hid (show efL T.l.length (edgL T L Q) = E by rw [hN, ← hE])
  rw [← hE] at HED
  have HAE := Lib.hid hAE
  have HON := Lib.hid hon
  have HEL := Lib.hid hEl
  have HAL := Lib.hid hAl
  have HB1 := Lib.hid b1
  have HKX := Lib.hid kx
  have HG := Lib.hid hG
  have HN := Lib.hid hN
  have HRX := Lib.hid (hrx.below b1)
  clear hQ hnq hL hna hnka hG hN hrq hrt hrx b1 kx hlen hl2 hE hAE hon hEl hAl
  go_enter Tryz.func7, Tryz.ntmps7
  go_wp2_with fail
  rw [← hw1]
  clear hw1
  refine HED.out.mono ?_
  rintro e w2 ⟨v2, rfl, ho2, hb2⟩
  obtain ⟨A2, c2, rfl, hc2, hat2, hsp2⟩ := Rk.Own.form re_ok ho2
  have HSP2 := Lib.hid (show A2 = none ∨ ∃ b o, A2 = some ⟨b, o, none⟩ from hsp2.imp id (fun ⟨g, e, _⟩ => ⟨g, 0, e⟩))
  have HLT2 := Lib.hid (hat2.lt)
  obtain ⟨w3, hw3, b3, s3, m1, m2, k8, k9⟩ := Mb.new4 w2
  have HB3 := Lib.hid b3
  have HS3 := Lib.hid s3
  have HM1 := Lib.hid m1
  have HM2 := Lib.hid m2
  have HK8 := Lib.hid k8
  have HK9 := Lib.hid k9
  have HB2 := Lib.hid hb2
  have HAT2 := Lib.hid hat2
  have kx3 := (HKX.out.below hb2).below b3
  have x0 := kx3.c 0 _ rfl
  have x1 := kx3.c 1 _ rfl
  have HKID := Lib.hid (kids_any Ax T N cap c HG.out HN.out w3 ((HRX.out.below hb2).below b3))
  obtain ⟨n2, hn2⟩ : ∃ n2, n2 = E.length := ⟨_, rfl⟩
  rw [← hn2]
  have HN2 := Lib.hid hn2
  have hn2b : n2 ≤ 10000000 := by have := HEL.out; omega
  clear ho2 hb2 hat2 hc2 hsp2 b3 s3 m1 m2 k8 k9 kx3 hn2
  go_upto_region 4 with fail
  rw [← hw3]
  clear hw3
  go_wp2_with fail
  refine HKID.out.mono ?_
  rintro e w4 ⟨vk, rfl, hok, hbk⟩
  have HOK := Lib.hid hok
  have HBK := Lib.hid hbk
  have hsz34 : w3.heap.size ≤ w4.heap.size := hbk.size
  have HKL := Lib.hid (kidN_len T N)
  have HAT4 := Lib.hid ((HAT2.out.below HB3.out).below hbk)
  clear hok hbk x0 x1
  go_wp2_with (first | (refine Rk.wpList_append re_ok rfl _ _ rfl w3.heap.size vk (kidN T N) E rfl HOK.out A2 n2 c2 rfl HAT4.out HN2.out.symm HSP2.out (by have h1 := HKL.out; have h2 := HEL.out; omega) hsz34 ?_; intro v5 w5 ho5 hg5 hv5; rw [← HAE.out] at ho5; obtain ⟨A5, c5, rfl, hc5, hat5, hsp5⟩ := Rk.Own.form re_ok ho5; obtain ⟨M, hM⟩ : ∃ M, M = AE.length := ⟨_, rfl⟩; rw [← hM]; have HM := Lib.hid hM; have HG5 := Lib.hid hg5; have HAT5 := Lib.hid hat5; have HSP5 := Lib.hid hsp5; clear ho5 hg5 hv5 hat5 hsp5 hc5 hM) | fail)
  obtain ⟨B, hB⟩ : ∃ B, B = w5.heap.size := ⟨_, rfl⟩
  have B35 : Below w3.heap.size w3 w5 := HBK.out.grown HG5.out hsz34 (fun q e => (HOK.out.lt q e).1)
  have HMB := Lib.hid hB
  have hMB : w2.heap.size + 4 ≤ B := by have h1 := HS3.out; have h2 := B35.size; omega
  have HM15 := Lib.hid (HM1.out.below B35)
  have HM25 := Lib.hid (HM2.out.below B35)
  have HK85 := Lib.hid (HK8.out.below B35)
  have HK95 := Lib.hid (HK9.out.below B35)
  have HB5 := Lib.hid ((((HB1.out.trans (HB2.out.mono HB1.out.size)).trans (HB3.out.mono (Nat.le_trans HB1.out.size HB2.out.size))).trans (B35.mono (by have h1 := HB1.out.size; have h2 := HB2.out.size; have h3 := HB3.out.size; omega))))
  have HAT25 := Lib.hid ((HAT2.out.below HB3.out).below B35)
  have HSP5 := Lib.hid (show ∀ b o, A5 = some ⟨b, o, none⟩ → w2.heap.size + 4 ≤ b ∧ b < B from fun b o e => by
    rcases HSP5.out with h | ⟨g, h, h2, h3⟩
    · rw [h] at e; cases e
    · rw [h] at e; injection e with e; injection e with e; have h4 := HS3.out; omega)
  have HMB0 := Lib.hid (show w.heap.size ≤ w2.heap.size from by have h1 := HB1.out.size; have h2 := HB2.out.size; omega)
  have hMb : M ≤ 10000064 := by have h1 := HM.out; have h2 := HAL.out; omega
  clear hB B35
  go_loopw [10, 28] (fun av iv wr => ∃ (j : Nat) (R : Nat → Value), iv = .int .i64 (j : Int) ∧ av = R 512 ∧ j ≤ M ∧ Hid (Mv wr (w2.heap.size) j nilI (fun p => R (2 * p))) ∧ Hid (Mv wr (w2.heap.size + 1) j nilI (fun p => R (2 * p + 1))) ∧ Hid (Rw wr B R (lstE (AE.take j))) ∧
      Hid (Mb wr (w2.heap.size + 1 + 1) (w2.heap.size)) ∧ Hid (Mb wr (w2.heap.size + 1 + 1 + 1) (w2.heap.size + 1)) ∧ Hid (Turn (fun q => q = w2.heap.size ∨ q = w2.heap.size + 1 ∨ B ≤ q) w5 wr)) (fun _ iv _ => M - (intOf iv).toNat)
  case atStart => exact ⟨0, fun _ => nilI, rfl, rfl, Nat.zero_le _, HM15.out, HM25.out, by show Rw w5 B _ (lstE (AE.take 0)); exact (Rw.start w5 B).congr (fun i _ => by simp [lstE, nxE, bkE]), HK85.out, HK95.out, Turn.refl _ _⟩
  case round =>
    obtain ⟨j, R, rfl, rfl, hj, hm1, hm2, hrw, hk8, hk9, ht⟩ := hrel
    clear HM15 HM25 HK85 HK95
    rcases Nat.lt_or_ge j M with hlt | hge
    · have hjl : j < AE.length := by rw [← HM.out]; exact hlt
      obtain ⟨⟨a, b⟩, hy⟩ : ∃ y, AE[j]? = some y := ⟨AE[j]'hjl, List.getElem?_eq_getElem hjl⟩
      have hab := HON.out a b (List.mem_of_getElem? hy)
      have ha256 : a < 256 := by omega
      have hb256 : b < 256 := by omega
      have HTK := Lib.hid (show AE.take (j + 1) = AE.take j ++ [(a, b)] by rw [List.take_add_one, hy]; rfl)
      obtain ⟨bb, o, hA5, hbb, hc⟩ := (HAT5.out.turn ht.out (fun b o e => .inr (fun h => by have h1 := HSP5.out b o e; have h2 : b = w2.heap.size ∨ b = w2.heap.size + 1 ∨ B ≤ b := h; omega))).get re_ok hy
      have z0 : wr.cell? ⟨bb, o + j * 2, none⟩ = some (.int .i64 (a : Int)) := hc 0 _ rfl
      have z1 : wr.cell? ⟨bb, o + j * 2 + 1, none⟩ = some (.int .i64 (b : Int)) := by have := hc 1 _ rfl; rw [← Nat.add_assoc] at this; exact this
      obtain ⟨wz, hwz⟩ : ∃ wz, wz = wr.alloc (.cells #[.int .i64 (a : Int), .int .i64 (b : Int)] 61) := ⟨_, rfl⟩
      have bz : Below wr.heap.size wr wz := by rw [hwz]; exact below_new _ _
      have kz : Bk wz wr.heap.size #[.int .i64 (a : Int), .int .i64 (b : Int)] 61 := by rw [hwz]; exact Bk.new wr _ _
      have hBr : B ≤ wr.heap.size := by have h1 := ht.out.size; have h2 := HMB.out; omega
      have rz := hrw.out.turn (S := fun _ => False) (Turn.ofBelow bz) (fun _ h => h.elim)
      have HRZ := Lib.hid rz
      have HKZ := Lib.hid kz
      have HTZ := Lib.hid (ht.out.trans (Turn.ofBelow bz))
      have HMZ7 := Lib.hid (hm1.out.below bz)
      have HM2Z := Lib.hid (hm2.out.below bz)
      have H8Z := Lib.hid (hk8.out.below bz)
      have H9Z := Lib.hid (hk9.out.below bz)
      have HOZ7 := Lib.hid (show RI.Own wz B (R (2 * a)) (nxE (AE.take j) a) by have h := rz.own (2 * a) (by omega); rwa [lstE_even ha256] at h)
      have HLE7 := Lib.hid (show (nxE (AE.take j) a).length ≤ 10000064 from Nat.le_trans (nxE_len _ _) (by rw [List.length_take]; omega))
      have HBZ7 := Lib.hid (show B ≤ wz.heap.size from Nat.le_trans hBr bz.size)
      have HNB7 := Lib.hid (show (R (2 * a)).ownBlock ≠ some (w2.heap.size) from fun e => by have := (HOZ7.out.lt _ e).1; omega)
      have hnz : ¬ (wr.heap.size = w2.heap.size ∨ (R (2 * a)).ownBlock = some wr.heap.size) := fun h => by
        rcases h with h | h
        · omega
        · have := ((hrw.out.own (2 * a) (by omega)).lt _ h).2; omega
      have hn8 : ¬ (w2.heap.size + 1 + 1 = w2.heap.size ∨ (R (2 * a)).ownBlock = some (w2.heap.size + 1 + 1)) := fun h => by
        rcases h with h | h
        · omega
        · have := ((hrw.out.own (2 * a) (by omega)).lt _ h).1; omega
      have k8 : ∀ U, Turn (fun q => q = w2.heap.size ∨ (R (2 * a)).ownBlock = some q) wz U → U.cell? ⟨w2.heap.size + 1 + 1, 0, none⟩ = some (.map (some (w2.heap.size))) := fun U hU => (H8Z.out.turn hU hn8).c 0 _ rfl
      have e0 : ∀ U, Turn (fun q => q = w2.heap.size ∨ (R (2 * a)).ownBlock = some q) wz U → U.cell? ⟨wr.heap.size, 0, none⟩ = some (.int .i64 (a : Int)) := fun U hU => (HKZ.out.turn hU hnz).c 0 _ rfl
      have e1 : ∀ U, Turn (fun q => q = w2.heap.size ∨ (R (2 * a)).ownBlock = some q) wz U → U.cell? ⟨wr.heap.size, 1, none⟩ = some (.int .i64 (b : Int)) := fun U hU => (HKZ.out.turn hU hnz).c 1 _ rfl
      have HNZ := Lib.hid hnz
      have HN8 := Lib.hid hn8
      subst hA5
      clear hc hy kz bz rz hnz hn8 hbb
      go_upto_region 7 with fail
      rw [← hwz]
      clear hwz z0 z1
      go_cut [] from 29 to 59 (fun wc => ∃ v1 : Value, Hid (Mv wc (w2.heap.size) (j + 1) nilI (fun q => if q = a then v1 else R (2 * q))) ∧ Hid (RI.Own wc B v1 (nxE (AE.take j) a ++ [b])) ∧ Hid (∀ k, v1.ownBlock = some k → (R (2 * a)).ownBlock = some k ∨ wz.heap.size ≤ k) ∧ Hid (Turn (fun q => q = w2.heap.size ∨ (R (2 * a)).ownBlock = some q) wz wc))
      case first =>
        refine wp_region_turn (X := (fun q => q = w2.heap.size ∨ (R (2 * a)).ownBlock = some q)) (by kernel_rfl) ?_
        have hS : Turn (fun q => q = w2.heap.size ∨ (R (2 * a)).ownBlock = some q) wz (World.drew wz) := (Turn.refl _ _).drew
        refine wpAnyH_take (i := 0) (oi := ⟨some 32, _, _, _, _, _⟩) (v := ?_) rfl (by kernel_rfl) (by kernel_rfl) (by kernel_rfl) (fun _ _ _ h => h) (Or.inl ⟨by rfl, ?_⟩) hS ?_
        rotate_left
        · intro W hW; go_simp; with_reducible rfl
        try simp only [Act.put, List.setIfInBounds_toArray, List.set_cons_zero, List.set_cons_succ]
        refine wpAnyH_take (i := 1) (oi := ⟨some 33, _, _, _, _, _⟩) (v := ?_) rfl (by kernel_rfl) (by kernel_rfl) (by kernel_rfl) (fun _ _ _ h => h) (Or.inl ⟨by rfl, ?_⟩) hS ?_
        rotate_left
        · intro W hW; go_simp; with_reducible rfl
        try simp only [Act.put, List.setIfInBounds_toArray, List.set_cons_zero, List.set_cons_succ]
        refine wpAnyH_take (i := 2) (oi := ⟨some 34, _, _, _, _, _⟩) (v := ?_) rfl (by kernel_rfl) (by kernel_rfl) (by kernel_rfl) (fun _ _ _ h => h) (Or.inl ⟨by rfl, ?_⟩) hS ?_
        rotate_left
        · intro W hW; go_simp; with_reducible rfl
        try simp only [Act.put, List.setIfInBounds_toArray, List.set_cons_zero, List.set_cons_succ]
        refine wpAnyH_take (i := 3) (oi := ⟨some 35, _, _, _, _, _⟩) (v := ?_) rfl (by kernel_rfl) (by kernel_rfl) (by kernel_rfl) (fun _ _ _ h => h) (Or.inl ⟨by rfl, ?_⟩) hS ?_
        rotate_left
        · intro W hW; go_simp; with_reducible rfl
        try simp only [Act.put, List.setIfInBounds_toArray, List.set_cons_zero, List.set_cons_succ]
        refine wpAnyH_take (i := 4) (oi := ⟨some 36, _, _, _, _, _⟩) (v := ?_) rfl (by kernel_rfl) (by kernel_rfl) (by kernel_rfl) (fun _ _ _ h => h) (Or.inl ⟨by rfl, ?_⟩) hS ?_
        rotate_left
        · intro W hW; go_simp; with_reducible rfl
        try simp only [Act.put, List.setIfInBounds_toArray, List.set_cons_zero, List.set_cons_succ]
        refine wpAnyH_take (i := 5) (oi := ⟨some 37, _, _, _, _, _⟩) (v := ?_) rfl (by kernel_rfl) (by kernel_rfl) (by kernel_rfl) (fun _ _ _ h => h) (Or.inl ⟨by rfl, ?_⟩) hS ?_
        rotate_left
        · intro W hW; go_simp; with_reducible rfl
        try simp only [Act.put, List.setIfInBounds_toArray, List.set_cons_zero, List.set_cons_succ]
        refine wpAnyH_take (i := 7) (oi := ⟨some 39, _, _, _, _, _⟩) (v := ?_) rfl (by kernel_rfl) (by kernel_rfl) (by kernel_rfl) (fun _ _ _ h => h) (Or.inl ⟨by rfl, ?_⟩) hS ?_
        rotate_left
        · intro W hW; go_simp; with_reducible rfl
        try simp only [Act.put, List.setIfInBounds_toArray, List.set_cons_zero, List.set_cons_succ]
        refine wpAnyH_take (i := 8) (oi := ⟨some 40, _, _, _, _, _⟩) (v := ?_) rfl (by kernel_rfl) (by kernel_rfl) (by kernel_rfl) (fun _ _ _ h => h) (Or.inl ⟨by rfl, ?_⟩) hS ?_
        rotate_left
        · intro W hW; go_simp; with_reducible rfl
        try simp only [Act.put, List.setIfInBounds_toArray, List.set_cons_zero, List.set_cons_succ]
        refine wpAnyH_ready (rs := [6, 9]) (by kernel_rfl) (by simp) ?_
        refine AllReadyH.cons (o := ⟨some 38, _, _, _, _, _⟩) rfl (fun Kr hKr => ?_) (AllReadyH.cons (o := ⟨some 41, _, _, _, _, _⟩) rfl (fun Kr hKr => ?_) AllReadyH.nil)
        · skip
          -- operation 6: a step
          refine wp_look (.tmp 35) (.tmp 37) 58 37 rfl Tryz.underlying58 (fun W => Tryz.zeroValue37 W) rfl rfl (by first | exact HMZ7.out | exact Mv.below (show Mv (World.drew wz) (w2.heap.size) j nilI (fun p => R (2 * p)) from HMZ7.out) hb7) ha256 ?_
          show Kr _ _
          refine hKr.out _ _ ?_ (fun _ => ?_)
          · exact hS
          clear hKr Kr
          try simp only [Act.put, List.setIfInBounds_toArray, List.set_cons_zero, List.set_cons_succ]
          refine wpAnyH_ready (rs := [9]) (by kernel_rfl) (by simp) ?_
          refine AllReadyH.cons (o := ⟨some 41, _, _, _, _, _⟩) rfl (fun Kr hKr => ?_) AllReadyH.nil
          -- operation 9: a step
          refine wp_build_int (n := b) _ rfl rfl ?_
          intro w7 g7 hg7 hat7 hb7
          show Kr _ _
          refine hKr.out _ _ ?_ (fun _ => ?_)
          · exact hS.trans (Turn.ofBelow hb7)
          clear hKr Kr
          replace hS : Turn (fun q => q = w2.heap.size ∨ (R (2 * a)).ownBlock = some q) wz w7 := hS.trans (Turn.ofBelow hb7)
          try simp only [Act.put, List.setIfInBounds_toArray, List.set_cons_zero, List.set_cons_succ]
          refine wpAnyH_ready (rs := [10]) (by kernel_rfl) (by simp) ?_
          refine AllReadyH.cons (o := ⟨some 42, _, _, _, _, _⟩) rfl (fun Kr hKr => ?_) AllReadyH.nil
          -- operation 10: a step
          refine Rk.wp_append ri_ok _ _ rfl B (R (2 * a)) (nxE (AE.take j) a) [b] rfl (Rk.Own.below (show RI.Own (World.drew wz) B (R (2 * a)) (nxE (AE.take j) a) from HOZ7.out) hb7) _ 1 1 rfl hat7 rfl (.inr ⟨_, _, rfl⟩) (by have := HLE7.out; simp; omega) (Nat.le_trans HBZ7.out hS.size) ?_
          intro v8 w8 ho8 hg8 hv8
          obtain ⟨w9, hrun9, hmv9, hg9⟩ := (((show Mv (World.drew wz) (w2.heap.size) j nilI (fun p => R (2 * p)) from HMZ7.out).below hb7).turn (S := fun q => (R (2 * a)).ownBlock = some q) ((Turn.refl _ _).grown hg8 (fun q e => .inl e)) (fun e => HNB7.out e)).upd 58 37 Tryz.underlying58 (by omega) a ha256 v8
          show Kr _ _
          refine hKr.out _ _ ?_ (fun _ => ?_)
          · exact hS.grown hg8 (fun q e => .inl (.inr e))
          clear hKr Kr
          replace hS : Turn (fun q => q = w2.heap.size ∨ (R (2 * a)).ownBlock = some q) wz w8 := hS.grown hg8 (fun q e => .inl (.inr e))
          try simp only [Act.put, List.setIfInBounds_toArray, List.set_cons_zero, List.set_cons_succ]
          refine wpAnyH_ready (rs := [11]) (by kernel_rfl) (by simp) ?_
          refine AllReadyH.cons (o := ⟨none, _, _, _, _, _⟩) rfl (fun Kr hKr => ?_) AllReadyH.nil
          -- operation 11: a step
          refine wp_upd (.tmp 32) (.tmp 34) (.tmp 42) 58 rfl rfl rfl rfl hrun9 ?_
          show Kr _ _
          refine hKr.out _ _ ?_ (fun _ => ?_)
          · exact hS.grown hg9 (fun q e => .inl (.inl (by injection e with e; exact e.symm)))
          clear hKr Kr
          replace hS : Turn (fun q => q = w2.heap.size ∨ (R (2 * a)).ownBlock = some q) wz w9 := hS.grown hg9 (fun q e => .inl (.inl (by injection e with e; exact e.symm)))
          try simp only [Act.put, List.setIfInBounds_toArray, List.set_cons_zero, List.set_cons_succ]
          refine wpAnyH_done (by kernel_rfl) ?_ _
          obtain ⟨hf1, hf2⟩ := grow_fin (B := B) (v := R (2 * a)) (by omega) hb7 ho8 hv8 hg9
          go_wp2_with fail
          go_meet
          case rel => exact ⟨v8, hmv9, hf1, hf2, hS⟩
        · skip
          -- operation 9: a step
          refine wp_build_int (n := b) _ rfl rfl ?_
          intro w7 g7 hg7 hat7 hb7
          show Kr _ _
          refine hKr.out _ _ ?_ (fun _ => ?_)
          · exact hS.trans (Turn.ofBelow hb7)
          clear hKr Kr
          replace hS : Turn (fun q => q = w2.heap.size ∨ (R (2 * a)).ownBlock = some q) wz w7 := hS.trans (Turn.ofBelow hb7)
          try simp only [Act.put, List.setIfInBounds_toArray, List.set_cons_zero, List.set_cons_succ]
          refine wpAnyH_ready (rs := [6]) (by kernel_rfl) (by simp) ?_
          refine AllReadyH.cons (o := ⟨some 38, _, _, _, _, _⟩) rfl (fun Kr hKr => ?_) AllReadyH.nil
          -- operation 6: a step
          refine wp_look (.tmp 35) (.tmp 37) 58 37 rfl Tryz.underlying58 (fun W => Tryz.zeroValue37 W) rfl rfl (by first | exact HMZ7.out | exact Mv.below (show Mv (World.drew wz) (w2.heap.size) j nilI (fun p => R (2 * p)) from HMZ7.out) hb7) ha256 ?_
          show Kr _ _
          refine hKr.out _ _ ?_ (fun _ => ?_)
          · exact hS
          clear hKr Kr
          try simp only [Act.put, List.setIfInBounds_toArray, List.set_cons_zero, List.set_cons_succ]
          refine wpAnyH_ready (rs := [10]) (by kernel_rfl) (by simp) ?_
          refine AllReadyH.cons (o := ⟨some 42, _, _, _, _, _⟩) rfl (fun Kr hKr => ?_) AllReadyH.nil
          -- operation 10: a step
          refine Rk.wp_append ri_ok _ _ rfl B (R (2 * a)) (nxE (AE.take j) a) [b] rfl (Rk.Own.below (show RI.Own (World.drew wz) B (R (2 * a)) (nxE (AE.take j) a) from HOZ7.out) hb7) _ 1 1 rfl hat7 rfl (.inr ⟨_, _, rfl⟩) (by have := HLE7.out; simp; omega) (Nat.le_trans HBZ7.out hS.size) ?_
          intro v8 w8 ho8 hg8 hv8
          obtain ⟨w9, hrun9, hmv9, hg9⟩ := (((show Mv (World.drew wz) (w2.heap.size) j nilI (fun p => R (2 * p)) from HMZ7.out).below hb7).turn (S := fun q => (R (2 * a)).ownBlock = some q) ((Turn.refl _ _).grown hg8 (fun q e => .inl e)) (fun e => HNB7.out e)).upd 58 37 Tryz.underlying58 (by omega) a ha256 v8
          show Kr _ _
          refine hKr.out _ _ ?_ (fun _ => ?_)
          · exact hS.grown hg8 (fun q e => .inl (.inr e))
          clear hKr Kr
          replace hS : Turn (fun q => q = w2.heap.size ∨ (R (2 * a)).ownBlock = some q) wz w8 := hS.grown hg8 (fun q e => .inl (.inr e))
          try simp only [Act.put, List.setIfInBounds_toArray, List.set_cons_zero, List.set_cons_succ]
          refine wpAnyH_ready (rs := [11]) (by kernel_rfl) (by simp) ?_
          refine AllReadyH.cons (o := ⟨none, _, _, _, _, _⟩) rfl (fun Kr hKr => ?_) AllReadyH.nil
          -- operation 11: a step
          refine wp_upd (.tmp 32) (.tmp 34) (.tmp 42) 58 rfl rfl rfl rfl hrun9 ?_
          show Kr _ _
          refine hKr.out _ _ ?_ (fun _ => ?_)
          · exact hS.grown hg9 (fun q e => .inl (.inl (by injection e with e; exact e.symm)))
          clear hKr Kr
          replace hS : Turn (fun q => q = w2.heap.size ∨ (R (2 * a)).ownBlock = some q) wz w9 := hS.grown hg9 (fun q e => .inl (.inl (by injection e with e; exact e.symm)))
          try simp only [Act.put, List.setIfInBounds_toArray, List.set_cons_zero, List.set_cons_succ]
          refine wpAnyH_done (by kernel_rfl) ?_ _
          obtain ⟨hf1, hf2⟩ := grow_fin (B := B) (v := R (2 * a)) (by omega) hb7 ho8 hv8 hg9
          go_wp2_with fail
          go_meet
          case rel => exact ⟨v8, hmv9, hf1, hf2, hS⟩
      case rest =>
        obtain ⟨v1, HMV7, HO7, HN7, HT7⟩ := hcut
        obtain ⟨w7, hw7⟩ : ∃ w7, w7 = wc := ⟨_, rfl⟩
        subst hw7
        clear k8 e0 e1
        have rw7 := HRZ.out.one ha256 (m := w2.heap.size) (by omega) HT7.out HO7.out HN7.out
        have HBZ8 := Lib.hid (show B ≤ w7.heap.size from Nat.le_trans HBZ7.out HT7.out.size)
        have HM28 := Lib.hid (HM2Z.out.turn HT7.out (fun h => by
          rcases h with h | h
          · omega
          · have := (HOZ7.out.lt _ h).1; omega))
        have HMZ8 := Lib.hid (show Mv w7 (w2.heap.size + 1) j nilI (fun p => R (2 * p + 1)) from HM28.out)
        have HOZ8 := Lib.hid (show RI.Own w7 B (R (2 * b + 1)) (bkE (AE.take j) b) by
          have h := rw7.own (2 * b + 1) (by omega)
          simp only [if_neg (show ¬ 2 * b + 1 = 2 * a by omega)] at h
          rwa [lstE_odd] at h)
        have HLE8 := Lib.hid (show (bkE (AE.take j) b).length ≤ 10000064 from Nat.le_trans (bkE_len _ _) (by rw [List.length_take]; omega))
        have HNB8 := Lib.hid (show (R (2 * b + 1)).ownBlock ≠ some (w2.heap.size + 1) from fun e => by have := (HOZ8.out.lt _ e).1; omega)
        have HK7 := Lib.hid (HKZ.out.turn HT7.out HNZ.out)
        have H97 := Lib.hid (H9Z.out.turn HT7.out (fun h => by
          rcases h with h | h
          · omega
          · have := (HOZ7.out.lt _ h).1; omega))
        have H87 := Lib.hid (H8Z.out.turn HT7.out HN8.out)
        have hnz : ¬ (wr.heap.size = w2.heap.size + 1 ∨ (R (2 * b + 1)).ownBlock = some wr.heap.size) := fun h => by
          rcases h with h | h
          · omega
          · have := ((hrw.out.own (2 * b + 1) (by omega)).lt _ h).2; omega
        have hn9 : ¬ (w2.heap.size + 1 + 1 + 1 = w2.heap.size + 1 ∨ (R (2 * b + 1)).ownBlock = some (w2.heap.size + 1 + 1 + 1)) := fun h => by
          rcases h with h | h
          · omega
          · have := (HOZ8.out.lt _ h).1; omega
        have k9 : ∀ U, Turn (fun q => q = w2.heap.size + 1 ∨ (R (2 * b + 1)).ownBlock = some q) w7 U → U.cell? ⟨w2.heap.size + 1 + 1 + 1, 0, none⟩ = some (.map (some (w2.heap.size + 1))) := fun U hU => (H97.out.turn hU hn9).c 0 _ rfl
        have e0 : ∀ U, Turn (fun q => q = w2.heap.size + 1 ∨ (R (2 * b + 1)).ownBlock = some q) w7 U → U.cell? ⟨wr.heap.size, 0, none⟩ = some (.int .i64 (a : Int)) := fun U hU => (HK7.out.turn hU hnz).c 0 _ rfl
        have e1 : ∀ U, Turn (fun q => q = w2.heap.size + 1 ∨ (R (2 * b + 1)).ownBlock = some q) w7 U → U.cell? ⟨wr.heap.size, 1, none⟩ = some (.int .i64 (b : Int)) := fun U hU => (HK7.out.turn hU hnz).c 1 _ rfl
        have HNZ8 := Lib.hid hnz
        have HN9 := Lib.hid hn9
        clear rw7 hnz hn9
        go_upto_region 8 with fail
        go_cut [] from 29 to 59 (fun wc => ∃ v2 : Value, Hid (Mv wc (w2.heap.size + 1) (j + 1) nilI (fun q => if q = b then v2 else R (2 * q + 1))) ∧ Hid (RI.Own wc B v2 (bkE (AE.take j) b ++ [a])) ∧ Hid (∀ k, v2.ownBlock = some k → (R (2 * b + 1)).ownBlock = some k ∨ w7.heap.size ≤ k) ∧ Hid (Turn (fun q => q = w2.heap.size + 1 ∨ (R (2 * b + 1)).ownBlock = some q) w7 wc))
        case first =>
          refine wp_region_turn (X := (fun q => q = w2.heap.size + 1 ∨ (R (2 * b + 1)).ownBlock = some q)) (by kernel_rfl) ?_
          have hS : Turn (fun q => q = w2.heap.size + 1 ∨ (R (2 * b + 1)).ownBlock = some q) w7 (World.drew w7) := (Turn.refl _ _).drew
          refine wpAnyH_take (i := 0) (oi := ⟨some 43, _, _, _, _, _⟩) (v := ?_) rfl (by kernel_rfl) (by kernel_rfl) (by kernel_rfl) (fun _ _ _ h => h) (Or.inl ⟨by rfl, ?_⟩) hS ?_
          rotate_left
          · intro W hW; go_simp; with_reducible rfl
          try simp only [Act.put, List.setIfInBounds_toArray, List.set_cons_zero, List.set_cons_succ]
          refine wpAnyH_take (i := 1) (oi := ⟨some 44, _, _, _, _, _⟩) (v := ?_) rfl (by kernel_rfl) (by kernel_rfl) (by kernel_rfl) (fun _ _ _ h => h) (Or.inl ⟨by rfl, ?_⟩) hS ?_
          rotate_left
          · intro W hW; go_simp; with_reducible rfl
          try simp only [Act.put, List.setIfInBounds_toArray, List.set_cons_zero, List.set_cons_succ]
          refine wpAnyH_take (i := 2) (oi := ⟨some 45, _, _, _, _, _⟩) (v := ?_) rfl (by kernel_rfl) (by kernel_rfl) (by kernel_rfl) (fun _ _ _ h => h) (Or.inl ⟨by rfl, ?_⟩) hS ?_
          rotate_left
          · intro W hW; go_simp; with_reducible rfl
          try simp only [Act.put, List.setIfInBounds_toArray, List.set_cons_zero, List.set_cons_succ]
          refine wpAnyH_take (i := 3) (oi := ⟨some 46, _, _, _, _, _⟩) (v := ?_) rfl (by kernel_rfl) (by kernel_rfl) (by kernel_rfl) (fun _ _ _ h => h) (Or.inl ⟨by rfl, ?_⟩) hS ?_
          rotate_left
          · intro W hW; go_simp; with_reducible rfl
          try simp only [Act.put, List.setIfInBounds_toArray, List.set_cons_zero, List.set_cons_succ]
          refine wpAnyH_take (i := 4) (oi := ⟨some 47, _, _, _, _, _⟩) (v := ?_) rfl (by kernel_rfl) (by kernel_rfl) (by kernel_rfl) (fun _ _ _ h => h) (Or.inl ⟨by rfl, ?_⟩) hS ?_
          rotate_left
          · intro W hW; go_simp; with_reducible rfl
          try simp only [Act.put, List.setIfInBounds_toArray, List.set_cons_zero, List.set_cons_succ]
          refine wpAnyH_take (i := 5) (oi := ⟨some 48, _, _, _, _, _⟩) (v := ?_) rfl (by kernel_rfl) (by kernel_rfl) (by kernel_rfl) (fun _ _ _ h => h) (Or.inl ⟨by rfl, ?_⟩) hS ?_
          rotate_left
          · intro W hW; go_simp; with_reducible rfl
          try simp only [Act.put, List.setIfInBounds_toArray, List.set_cons_zero, List.set_cons_succ]
          refine wpAnyH_take (i := 7) (oi := ⟨some 50, _, _, _, _, _⟩) (v := ?_) rfl (by kernel_rfl) (by kernel_rfl) (by kernel_rfl) (fun _ _ _ h => h) (Or.inl ⟨by rfl, ?_⟩) hS ?_
          rotate_left
          · intro W hW; go_simp; with_reducible rfl
          try simp only [Act.put, List.setIfInBounds_toArray, List.set_cons_zero, List.set_cons_succ]
          refine wpAnyH_take (i := 8) (oi := ⟨some 51, _, _, _, _, _⟩) (v := ?_) rfl (by kernel_rfl) (by kernel_rfl) (by kernel_rfl) (fun _ _ _ h => h) (Or.inl ⟨by rfl, ?_⟩) hS ?_
          rotate_left
          · intro W hW; go_simp; with_reducible rfl
          try simp only [Act.put, List.setIfInBounds_toArray, List.set_cons_zero, List.set_cons_succ]
          refine wpAnyH_ready (rs := [6, 9]) (by kernel_rfl) (by simp) ?_
          refine AllReadyH.cons (o := ⟨some 49, _, _, _, _, _⟩) rfl (fun Kr hKr => ?_) (AllReadyH.cons (o := ⟨some 52, _, _, _, _, _⟩) rfl (fun Kr hKr => ?_) AllReadyH.nil)
          · skip
            -- operation 6: a step
            refine wp_look (.tmp 46) (.tmp 48) 58 37 rfl Tryz.underlying58 (fun W => Tryz.zeroValue37 W) rfl rfl (by first | exact HMZ8.out | exact Mv.below (show Mv (World.drew w7) (w2.heap.size + 1) j nilI (fun p => R (2 * p + 1)) from HMZ8.out) hb7) hb256 ?_
            show Kr _ _
            refine hKr.out _ _ ?_ (fun _ => ?_)
            · exact hS
            clear hKr Kr
            try simp only [Act.put, List.setIfInBounds_toArray, List.set_cons_zero, List.set_cons_succ]
            refine wpAnyH_ready (rs := [9]) (by kernel_rfl) (by simp) ?_
            refine AllReadyH.cons (o := ⟨some 52, _, _, _, _, _⟩) rfl (fun Kr hKr => ?_) AllReadyH.nil
            -- operation 9: a step
            refine wp_build_int (n := a) _ rfl rfl ?_
            intro wq g7 hg7 hat7 hb7
            show Kr _ _
            refine hKr.out _ _ ?_ (fun _ => ?_)
            · exact hS.trans (Turn.ofBelow hb7)
            clear hKr Kr
            replace hS : Turn (fun q => q = w2.heap.size + 1 ∨ (R (2 * b + 1)).ownBlock = some q) w7 wq := hS.trans (Turn.ofBelow hb7)
            try simp only [Act.put, List.setIfInBounds_toArray, List.set_cons_zero, List.set_cons_succ]
            refine wpAnyH_ready (rs := [10]) (by kernel_rfl) (by simp) ?_
            refine AllReadyH.cons (o := ⟨some 53, _, _, _, _, _⟩) rfl (fun Kr hKr => ?_) AllReadyH.nil
            -- operation 10: a step
            refine Rk.wp_append ri_ok _ _ rfl B (R (2 * b + 1)) (bkE (AE.take j) b) [a] rfl (Rk.Own.below (show RI.Own (World.drew w7) B (R (2 * b + 1)) (bkE (AE.take j) b) from HOZ8.out) hb7) _ 1 1 rfl hat7 rfl (.inr ⟨_, _, rfl⟩) (by have := HLE8.out; simp; omega) (Nat.le_trans HBZ8.out hS.size) ?_
            intro v8 w8 ho8 hg8 hv8
            obtain ⟨w9, hrun9, hmv9, hg9⟩ := (((show Mv (World.drew w7) (w2.heap.size + 1) j nilI (fun p => R (2 * p + 1)) from HMZ8.out).below hb7).turn (S := fun q => (R (2 * b + 1)).ownBlock = some q) ((Turn.refl _ _).grown hg8 (fun q e => .inl e)) (fun e => HNB8.out e)).upd 58 37 Tryz.underlying58 (by omega) b hb256 v8
            show Kr _ _
            refine hKr.out _ _ ?_ (fun _ => ?_)
            · exact hS.grown hg8 (fun q e => .inl (.inr e))
            clear hKr Kr
            replace hS : Turn (fun q => q = w2.heap.size + 1 ∨ (R (2 * b + 1)).ownBlock = some q) w7 w8 := hS.grown hg8 (fun q e => .inl (.inr e))
            try simp only [Act.put, List.setIfInBounds_toArray, List.set_cons_zero, List.set_cons_succ]
            refine wpAnyH_ready (rs := [11]) (by kernel_rfl) (by simp) ?_
            refine AllReadyH.cons (o := ⟨none, _, _, _, _, _⟩) rfl (fun Kr hKr => ?_) AllReadyH.nil
            -- operation 11: a step
            refine wp_upd (.tmp 43) (.tmp 45) (.tmp 53) 58 rfl rfl rfl rfl hrun9 ?_
            show Kr _ _
            refine hKr.out _ _ ?_ (fun _ => ?_)
            · exact hS.grown hg9 (fun q e => .inl (.inl (by injection e with e; exact e.symm)))
            clear hKr Kr
            replace hS : Turn (fun q => q = w2.heap.size + 1 ∨ (R (2 * b + 1)).ownBlock = some q) w7 w9 := hS.grown hg9 (fun q e => .inl (.inl (by injection e with e; exact e.symm)))
            try simp only [Act.put, List.setIfInBounds_toArray, List.set_cons_zero, List.set_cons_succ]
            refine wpAnyH_done (by kernel_rfl) ?_ _
            obtain ⟨hf1, hf2⟩ := grow_fin (B := B) (v := R (2 * b + 1)) (by omega) hb7 ho8 hv8 hg9
            go_wp2_with fail
            go_meet
            case rel => exact ⟨v8, hmv9, hf1, hf2, hS⟩
          · skip
            -- operation 9: a step
            refine wp_build_int (n := a) _ rfl rfl ?_
            intro wq g7 hg7 hat7 hb7
            show Kr _ _
            refine hKr.out _ _ ?_ (fun _ => ?_)
            · exact hS.trans (Turn.ofBelow hb7)
            clear hKr Kr
            replace hS : Turn (fun q => q = w2.heap.size + 1 ∨ (R (2 * b + 1)).ownBlock = some q) w7 wq := hS.trans (Turn.ofBelow hb7)
            try simp only [Act.put, List.setIfInBounds_toArray, List.set_cons_zero, List.set_cons_succ]
            refine wpAnyH_ready (rs := [6]) (by kernel_rfl) (by simp) ?_
            refine AllReadyH.cons (o := ⟨some 49, _, _, _, _, _⟩) rfl (fun Kr hKr => ?_) AllReadyH.nil
            -- operation 6: a step
            refine wp_look (.tmp 46) (.tmp 48) 58 37 rfl Tryz.underlying58 (fun W => Tryz.zeroValue37 W) rfl rfl (by first | exact HMZ8.out | exact Mv.below (show Mv (World.drew w7) (w2.heap.size + 1) j nilI (fun p => R (2 * p + 1)) from HMZ8.out) hb7) hb256 ?_
            show Kr _ _
            refine hKr.out _ _ ?_ (fun _ => ?_)
            · exact hS
            clear hKr Kr
            try simp only [Act.put, List.setIfInBounds_toArray, List.set_cons_zero, List.set_cons_succ]
            refine wpAnyH_ready (rs := [10]) (by kernel_rfl) (by simp) ?_
            refine AllReadyH.cons (o := ⟨some 53, _, _, _, _, _⟩) rfl (fun Kr hKr => ?_) AllReadyH.nil
            -- operation 10: a step
            refine Rk.wp_append ri_ok _ _ rfl B (R (2 * b + 1)) (bkE (AE.take j) b) [a] rfl (Rk.Own.below (show RI.Own (World.drew w7) B (R (2 * b + 1)) (bkE (AE.take j) b) from HOZ8.out) hb7) _ 1 1 rfl hat7 rfl (.inr ⟨_, _, rfl⟩) (by have := HLE8.out; simp; omega) (Nat.le_trans HBZ8.out hS.size) ?_
            intro v8 w8 ho8 hg8 hv8
            obtain ⟨w9, hrun9, hmv9, hg9⟩ := (((show Mv (World.drew w7) (w2.heap.size + 1) j nilI (fun p => R (2 * p + 1)) from HMZ8.out).below hb7).turn (S := fun q => (R (2 * b + 1)).ownBlock = some q) ((Turn.refl _ _).grown hg8 (fun q e => .inl e)) (fun e => HNB8.out e)).upd 58 37 Tryz.underlying58 (by omega) b hb256 v8
            show Kr _ _
            refine hKr.out _ _ ?_ (fun _ => ?_)
            · exact hS.grown hg8 (fun q e => .inl (.inr e))
            clear hKr Kr
            replace hS : Turn (fun q => q = w2.heap.size + 1 ∨ (R (2 * b + 1)).ownBlock = some q) w7 w8 := hS.grown hg8 (fun q e => .inl (.inr e))
            try simp only [Act.put, List.setIfInBounds_toArray, List.set_cons_zero, List.set_cons_succ]
            refine wpAnyH_ready (rs := [11]) (by kernel_rfl) (by simp) ?_
            refine AllReadyH.cons (o := ⟨none, _, _, _, _, _⟩) rfl (fun Kr hKr => ?_) AllReadyH.nil
            -- operation 11: a step
            refine wp_upd (.tmp 43) (.tmp 45) (.tmp 53) 58 rfl rfl rfl rfl hrun9 ?_
            show Kr _ _
            refine hKr.out _ _ ?_ (fun _ => ?_)
            · exact hS.grown hg9 (fun q e => .inl (.inl (by injection e with e; exact e.symm)))
            clear hKr Kr
            replace hS : Turn (fun q => q = w2.heap.size + 1 ∨ (R (2 * b + 1)).ownBlock = some q) w7 w9 := hS.grown hg9 (fun q e => .inl (.inl (by injection e with e; exact e.symm)))
            try simp only [Act.put, List.setIfInBounds_toArray, List.set_cons_zero, List.set_cons_succ]
            refine wpAnyH_done (by kernel_rfl) ?_ _
            obtain ⟨hf1, hf2⟩ := grow_fin (B := B) (v := R (2 * b + 1)) (by omega) hb7 ho8 hv8 hg9
            go_wp2_with fail
            go_meet
            case rel => exact ⟨v8, hmv9, hf1, hf2, hS⟩
        case rest =>
          obtain ⟨v2, HMV8, HO8, HN8', HT8⟩ := hcut
          obtain ⟨w8, hw8⟩ : ∃ w8, w8 = wc := ⟨_, rfl⟩
          subst hw8
          clear k9 e0 e1
          have rw8 := HRZ.out.two ha256 hb256 (m := w2.heap.size) (by omega) HT7.out HO7.out HN7.out HT8.out HO8.out HN8'.out
          have HO9 := Lib.hid (show RI.Own w8 B (R 512) ((AE.take j).map Prod.fst) by
            have h := rw8.own 512 (by omega)
            simp only [if_neg (show ¬ 512 = 2 * b + 1 by omega), if_neg (show ¬ 512 = 2 * a by omega)] at h
            rwa [lstE_all] at h)
          have z0 := (HK7.out.turn HT8.out HNZ8.out).c 0 _ rfl
          obtain ⟨wy, hwy⟩ : ∃ wy, wy = w8.alloc (.cells #[.int .i64 (a : Int)] 3) := ⟨_, rfl⟩
          have HAY := Lib.hid (show RI.At wy (some ⟨w8.heap.size, 0, none⟩) [a] by rw [hwy]; exact Rk.At.new ri_ok w8 a _)
          have HBY := Lib.hid (show Below w8.heap.size w8 wy by rw [hwy]; exact below_new _ _)
          have HB8 := Lib.hid (show B ≤ w8.heap.size from Nat.le_trans HBZ8.out HT8.out.size)
          have HLE9 := Lib.hid (show ((AE.take j).map Prod.fst).length ≤ 10000064 by rw [List.length_map, List.length_take]; omega)
          clear rw8
          go_wp2_with (first | (refine Rk.wpList_append ri_ok rfl _ _ rfl B (R 512) ((AE.take j).map Prod.fst) [a] rfl (HO9.out.below (below_new _ _)) _ 1 1 rfl (by have h := HAY.out; rw [hwy] at h; exact h) rfl (.inr ⟨_, _, rfl⟩) (by have := HLE9.out; simp; simp at this; omega) (by have := HB8.out; simp; omega) ?_; intro v9 w9 ho9 hg9 hv9; rw [← hwy] at hg9 hv9; have HO9' := Lib.hid ho9; have HG9 := Lib.hid hg9; have HV9 := Lib.hid hv9; clear ho9 hg9 hv9) | fail)
          have T9 : Turn (fun q => (R 512).ownBlock = some q) w8 w9 := (Turn.ofBelow HBY.out).trans ((Turn.refl _ _).grown HG9.out (fun q e => .inl e))
          have RW9 := HRZ.out.three ha256 hb256 (m := w2.heap.size) (by omega) HT7.out HO7.out HN7.out HT8.out HO8.out HN8'.out T9 HO9'.out (fun k e => by
            rcases HV9.out with h | h
            · exact .inl (h ▸ e)
            · rw [h] at e; injection e with e; have := HBY.out.size; exact .inr (by omega))
          have own7 : ∀ k, (R (2 * a)).ownBlock = some k → B ≤ k := fun k h => (HOZ7.out.lt _ h).1
          have own8 : ∀ k, (R (2 * b + 1)).ownBlock = some k → B ≤ k := fun k h => (HOZ8.out.lt _ h).1
          have own9 : ∀ k, (R 512).ownBlock = some k → B ≤ k := fun k h => (HO9.out.lt _ h).1
          have n8 : ∀ k, k ≠ w2.heap.size + 1 → k < B → ¬ (k = w2.heap.size + 1 ∨ (R (2 * b + 1)).ownBlock = some k) := fun k h1 h2 h => by
            rcases h with h | h
            · exact h1 h
            · have := own8 k h; omega
          have n9 : ∀ k, k < B → ¬ ((R 512).ownBlock = some k) := fun k h2 h => by have := own9 k h; omega
          go_roundw
          case rel =>
            refine ⟨j + 1, fun i => if i = 512 then v9 else if i = 2 * b + 1 then v2 else if i = 2 * a then v1 else R i, by simp, by simp, by omega, ?_, ?_, by show Rw _ _ _ (lstE (AE.take (j + 1))); rw [HTK.out]; exact RW9, ?_, ?_, ?_⟩
            · refine ((HMV7.out.turn HT8.out (n8 _ (by omega) (by omega))).turn T9 (n9 _ (by omega))).congr (fun p hp => ?_)
              show _ = if 2 * p = 512 then v9 else if 2 * p = 2 * b + 1 then v2 else if 2 * p = 2 * a then v1 else R (2 * p)
              rw [if_neg (show ¬ 2 * p = 512 by omega), if_neg (show ¬ 2 * p = 2 * b + 1 by omega)]
              by_cases e : p = a
              · rw [if_pos e, if_pos (show 2 * p = 2 * a by omega)]
              · rw [if_neg e, if_neg (show ¬ 2 * p = 2 * a by omega)]
            · refine (HMV8.out.turn T9 (n9 _ (by omega))).congr (fun p hp => ?_)
              show _ = if 2 * p + 1 = 512 then v9 else if 2 * p + 1 = 2 * b + 1 then v2 else if 2 * p + 1 = 2 * a then v1 else R (2 * p + 1)
              rw [if_neg (show ¬ 2 * p + 1 = 512 by omega)]
              by_cases e : p = b
              · rw [if_pos e, if_pos (show 2 * p + 1 = 2 * b + 1 by omega)]
              · rw [if_neg e, if_neg (show ¬ 2 * p + 1 = 2 * b + 1 by omega), if_neg (show ¬ 2 * p + 1 = 2 * a by omega)]
            · exact ((H87.out.turn HT8.out (n8 _ (by omega) (by omega))).turn T9 (n9 _ (by omega)))
            · exact ((H97.out.turn HT8.out (n8 _ (by omega) (by omega))).turn T9 (n9 _ (by omega)))
            · refine ((HTZ.out.trans (HT7.out.mono fun q e => ?_)).trans (HT8.out.mono fun q e => ?_)).trans (T9.mono fun q e => .inr (.inr (own9 q e)))
              · exact e.imp id (fun e => .inr (own7 q e))
              · exact .inr (e.imp id (own8 q))
          case measure => simp [intOf]; omega
    · obtain rfl : j = M := by omega
      have HALLJ : AE.take j = AE := List.take_of_length_le (by rw [← HM.out]; exact Nat.le_refl _)
      have hrwA : Rw wr B R (lstE AE) := by have h := hrw.out; rwa [HALLJ] at h
      have hall512 : RI.Own wr B (R 512) (AE.map Prod.fst) := by have h := hrwA.own 512 (by omega); rwa [lstE_all] at h
      obtain ⟨al, hal⟩ : ∃ al, al = AE.map Prod.fst := ⟨_, rfl⟩
      rw [← hal] at hall512
      obtain ⟨Al, cl, hR512, _, hatA, _⟩ := Rk.Own.form ri_ok hall512
      obtain ⟨na', hna'⟩ : ∃ na', na' = al.length := ⟨_, rfl⟩
      rw [← hna'] at hR512
      have hnaM : na' = AE.length := by rw [hna', hal, List.length_map]
      have fxF := on_fx (W := wr) (B := B) (M := AE.length) (g := w2.heap.size + 1 + 1) (nx := nxE AE) (V := fun p => R (2 * p)) (fun n hn => by have h := hrwA.own (2 * n) (by omega); rwa [lstE_even (by omega)] at h) (fun n hn z hz => (HON.out n z (mem_nxE.1 hz)).2) (fun n hn => nxE_len _ _) hm1.out hk8.out
      have fxG := by_fx (W := wr) (B := B) (M := AE.length) (g := w2.heap.size + 1 + 1 + 1) (nx := bkE AE) (V := fun p => R (2 * p + 1)) (fun n hn => by have h := hrwA.own (2 * n + 1) (by omega); rwa [lstE_odd] at h) (fun n hn z hz => (HON.out z n (mem_bkE.1 hz)).1) (fun n hn => bkE_len _ _) hm2.out hk9.out
      have HRG := Lib.hid (rings_any 20 21 (w2.heap.size + 1 + 1) (w2.heap.size + 1 + 1 + 1) (nxE AE) (bkE AE) _ _ AE.length (by have := HAL.out; omega) Al al na' cl hna'.symm (by have := HAL.out; omega) wr fxF fxG (fun a b => by rw [mem_bkE, mem_nxE]) hatA (fun a h => by
        obtain ⟨z, hz⟩ := List.exists_mem_of_ne_nil _ h
        rw [hal]
        exact List.mem_map.2 ⟨(a, z), mem_nxE.1 hz, rfl⟩) (fun x hx => by
        rw [hal] at hx
        obtain ⟨⟨u, v⟩, h1, h2⟩ := List.mem_map.1 hx
        have h3 := (HON.out u v h1).1
        have h4 : u = x := h2
        omega))
      have HT := Lib.hid ht.out
      have HATR := Lib.hid (HAT25.out.turn ht.out (fun b o e => by
        rcases HLT2.out b o e with h | h
        · exact .inl h
        · refine .inr (fun h2 => ?_)
          have h3 : b = w2.heap.size ∨ b = w2.heap.size + 1 ∨ B ≤ b := h2
          omega))
      have HBR := Lib.hid (HB5.out.trans (ht.out.below (B := w.heap.size) (fun q e => by
        have h1 := HMB0.out
        have h3 : q = w2.heap.size ∨ q = w2.heap.size + 1 ∨ B ≤ q := e
        omega) HB5.out.size))
      rw [hR512]
      clear hrw hrwA hall512 hal hatA fxF fxG hnaM hna' hm1 hm2 hk8 hk9 ht hR512 HALLJ
      go_wp2_with fail
      refine HRG.out.mono ?_
      rintro e w7 ⟨bn, nn, num, Tt, S, rfl, hmv, hnm, hdn, hin, htl, hb7⟩
      have HMV := Lib.hid hmv
      have HST := Lib.hid (fun (a b : Nat) (h : (a, b) ∈ E) => stk_same (Q := Q) (L := L) HG.out (by rw [HALLE.out]; exact hnm) (by rw [HALLE.out]; exact hdn) (by rw [HALLE.out]; exact hin) (show (a, b) ∈ efL T.l.length (edgL T L Q) by rw [HEE.out]; exact h))
      have HSTL := Lib.hid (fun (l : List Nat) (hl : ∀ x, x ∈ l ↔ x ∈ (E.filter (cnd num)).map Prod.fst) (hp : l.Pairwise (· < ·)) => stk_mem (Q := Q) (L := L) HG.out (by rw [HALLE.out]; exact hnm) (by rw [HALLE.out]; exact hdn) (by rw [HALLE.out]; exact hin) (l := l) (by rw [HEE.out]; exact hl) hp)
      have HE7 := Lib.hid (HATR.out.below hb7)
      have HB7 := Lib.hid (HBR.out.trans (hb7.mono HBR.out.size))
      have HON2 := Lib.hid (fun (a b : Nat) (h : (a, b) ∈ E) => HON.out a b (by rw [HAE.out]; exact List.mem_append_right _ h))
      clear hmv hnm hdn hin htl hb7
      go_wp2_with fail
      go_loopw [14, 66] (fun lv iv wx => ∃ k : Nat, iv = .int .i64 (k : Int) ∧ k ≤ n2 ∧ Hid (RI.Own wx w7.heap.size lv (((E.take k).filter (cnd num)).map Prod.fst)) ∧ Hid (Below w7.heap.size w7 wx)) (fun _ iv _ => n2 - (intOf iv).toNat)
      case atStart => exact ⟨0, rfl, Nat.zero_le _, by show RI.Own _ _ _ (((E.take 0).filter (cnd num)).map Prod.fst); exact Rk.Own.nil _ _ _, Below.refl _ _⟩
      case round =>
        obtain ⟨k, rfl, hk, hlo, hlb⟩ := hrel
        obtain ⟨wx, rfl⟩ : ∃ wx, wx = wr := ⟨_, rfl⟩
        rcases Nat.lt_or_ge k n2 with hkt | hkg
        · have hkl : k < E.length := by rw [← HN2.out]; exact hkt
          obtain ⟨⟨a, b⟩, hy⟩ : ∃ y, E[k]? = some y := ⟨E[k]'hkl, List.getElem?_eq_getElem hkl⟩
          have hab := HON2.out a b (List.mem_of_getElem? hy)
          obtain ⟨ka', kb', ea, eb, _⟩ := HST.out a b (List.mem_of_getElem? hy)
          have HTK := Lib.hid (show ((E.take (k + 1)).filter (cnd num)).map Prod.fst = ((E.take k).filter (cnd num)).map Prod.fst ++ (if ka' = kb' then [a] else []) by
            have hc : cnd num (a, b) = decide (ka' = kb') := by unfold cnd; simp only [ea, eb, Option.getD_some]
            rw [List.take_add_one, hy, List.filter_append, List.map_append]
            congr 1
            by_cases h : ka' = kb' <;> simp [hc, h])
          have HLL := Lib.hid (show (((E.take k).filter (cnd num)).map Prod.fst).length ≤ 10000000 by
            rw [List.length_map]
            refine Nat.le_trans (List.length_filter_le _ _) ?_
            rw [List.length_take]; omega)
          obtain ⟨bb, o, hA2, hbb, hc⟩ := (HE7.out.below hlb.out).get re_ok hy
          have z0 : wx.cell? ⟨bb, o + k * 2, none⟩ = some (.int .i64 (a : Int)) := hc 0 _ rfl
          have z1 : wx.cell? ⟨bb, o + k * 2 + 1, none⟩ = some (.int .i64 (b : Int)) := by have := hc 1 _ rfl; rw [← Nat.add_assoc] at this; exact this
          obtain ⟨wz, hwz⟩ : ∃ wz, wz = wx.alloc (.cells #[.int .i64 (a : Int), .int .i64 (b : Int)] 61) := ⟨_, rfl⟩
          have bz : Below wx.heap.size wx wz := by rw [hwz]; exact below_new _ _
          have kz : Bk wz wx.heap.size #[.int .i64 (a : Int), .int .i64 (b : Int)] 61 := by rw [hwz]; exact Bk.new wx _ _
          have e0 := kz.c 0 _ rfl
          have e1 := kz.c 1 _ rfl
          have hbz := hlb.out.trans (bz.mono hlb.out.size)
          have l1 := (HMV.out.below hbz).look 62 3 Tryz.underlying62 (fun W => Tryz.zeroValue3 W) a (by omega)
          have l2 := (HMV.out.below hbz).look 62 3 Tryz.underlying62 (fun W => Tryz.zeroValue3 W) b (by omega)
          have v1 : nmV num a = .int .i64 (ka' : Int) := by unfold nmV; rw [ea]; rfl
          have v2 : nmV num b = .int .i64 (kb' : Int) := by unfold nmV; rw [eb]; rfl
          rw [v1] at l1
          rw [v2] at l2
          have HLO := Lib.hid (hlo.out.below bz)
          have HBZ := Lib.hid hbz
          have hszz : w7.heap.size ≤ wz.heap.size := hbz.size
          subst hA2
          clear hc hy bz kz hbz v1 v2 ea eb hbb
          by_cases hq : ka' = kb'
          · subst hq
            have HK := Lib.hid (show ((E.take (k + 1)).filter (cnd num)).map Prod.fst = ((E.take k).filter (cnd num)).map Prod.fst ++ [a] by rw [HTK.out, if_pos rfl])
            obtain ⟨wy, hwy⟩ : ∃ wy, wy = wz.alloc (.cells #[.int .i64 (a : Int)] 3) := ⟨_, rfl⟩
            have HAY := Lib.hid (show RI.At wy (some ⟨wz.heap.size, 0, none⟩) [a] by rw [hwy]; exact Rk.At.new ri_ok wz a _)
            have HBY := Lib.hid (show Below wz.heap.size wz wy by rw [hwy]; exact below_new _ _)
            go_upto_region 16 with fail
            rw [← hwz]
            clear hwz z0 z1
            go_wp2_with (first | (refine Rk.wpList_append ri_ok rfl _ _ rfl w7.heap.size _ (((E.take k).filter (cnd num)).map Prod.fst) [a] rfl (HLO.out.below (below_new _ _)) _ 1 1 rfl (by have h := HAY.out; rw [hwy] at h; exact h) rfl (.inr ⟨_, _, rfl⟩) (by have := HLL.out; simp only [List.length_singleton]; omega) (by simp; omega) ?_; intro v9 w9 ho9 hg9 hv9; rw [← hwy] at hg9; have HO9 := Lib.hid ho9; have HG9 := Lib.hid hg9; clear ho9 hg9 hv9) | fail)
            go_roundw
            case rel =>
              exact ⟨k + 1, by simp, by omega, by show RI.Own _ _ _ (((E.take (k + 1)).filter (cnd num)).map Prod.fst); rw [HK.out]; exact HO9.out, (HBZ.out.trans (HBY.out.mono hszz)).grown HG9.out (by have := HBY.out.size; omega) (fun q e => (HLO.out.lt q e).1)⟩
            case measure => simp [intOf]; omega
          · have HK := Lib.hid (show ((E.take (k + 1)).filter (cnd num)).map Prod.fst = ((E.take k).filter (cnd num)).map Prod.fst by rw [HTK.out, if_neg hq, List.append_nil])
            have hne : ((ka' : Int) == (kb' : Int)) = false := by simp; omega
            clear hq
            go_upto_region 16 with fail
            rw [← hwz]
            clear hwz z0 z1
            go_wp2_with fail
            go_roundw
            case rel => exact ⟨k + 1, by simp, by omega, by show RI.Own _ _ _ (((E.take (k + 1)).filter (cnd num)).map Prod.fst); rw [HK.out]; exact HLO.out, HBZ.out⟩
            case measure => simp [intOf]; omega
        · obtain rfl : k = n2 := by omega
          have hlo2 : RI.Own wx w7.heap.size u14 ((E.filter (cnd num)).map Prod.fst) := by
            have h := hlo.out
            rwa [List.take_of_length_le (by rw [← HN2.out]; exact Nat.le_refl _)] at h
          have hll : ((E.filter (cnd num)).map Prod.fst).length ≤ 1000000000 := by
            rw [List.length_map]
            refine Nat.le_trans (List.length_filter_le _ _) ?_
            have := HEL.out; omega
          have HSO := Lib.hid (sortI_any wx hlo2 hll)
          have HLO2 := Lib.hid hlo2
          have HLL := Lib.hid hll
          clear hlo2 hll
          go_wp2_with fail
          refine HSO.out.mono ?_
          rintro e w8 ⟨rfl, l8, ho8, hl8, hm8, hp8, hg8⟩
          have HCO := Lib.hid (compactI_any w8 ho8 (by rw [hl8]; exact HLL.out) hp8)
          have HB8 := Lib.hid ((HB7.out.trans (hlb.out.mono HB7.out.size)).grown hg8 (Nat.le_trans HB7.out.size hlb.out.size) (fun q e => Nat.le_trans HB7.out.size (HLO2.out.lt q e).1))
          have HO8 := Lib.hid ho8
          have HM8 := Lib.hid hm8
          clear ho8 hl8 hm8 hp8 hg8
          go_wp2_with fail
          refine HCO.out.mono ?_
          rintro e w9 ⟨A9, c9, l9, rfl, hc9, hat9, hsp9, hp9, hm9, hg9⟩
          have el := HSTL.out l9 (fun x => (hm9 x).trans (HM8.out x)) hp9
          subst el
          have HR := Lib.hid (show _ ∧ _ ∧ _ from ⟨hc9, hat9, hsp9⟩)
          have HB9 := Lib.hid (HB8.out.grown hg9 HB8.out.size (fun q e => Nat.le_trans HB7.out.size (HO8.out.lt q e).1))
          clear hc9 hat9 hsp9 hp9 hm9 hg9
          go_wp2_with fail
          go_ret
          exact ⟨_, _, rfl, HR.out.1, HR.out.2.1, HR.out.2.2.imp id (fun ⟨g, e, h1, h2⟩ => ⟨g, e, Nat.le_trans HB7.out.size h1, h2⟩), HB9.out⟩
end Go.Proofs.YtbokhhialfbjcaaGreat
