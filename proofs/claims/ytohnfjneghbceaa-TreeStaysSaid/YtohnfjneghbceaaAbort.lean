/-
  One is undone, and all in it.
-/
import Derived.Test.YtohnfjneghbceaaCommit
namespace Go.Proofs.Ytohnfjneghbceaa
set_option maxRecDepth 100000
set_option linter.unusedVariables false
open Go.RowKit Go.Shelf

/-- the row when those of l that were not Undone are -/
def mixF (T : Tr) (c : Int) (l : List Nat) (y : Nat) : Tx := if y ∈ l ∧ (T.tx y).s ≠ 3 then { T.tx y with s := 3, e := c } else T.tx y
theorem mixF_skip {T : Tr} {c : Int} {l : List Nat} {x y : Nat} (h : (T.tx x).s = 3) : mixF T c (l ++ [x]) y = mixF T c l y := by
  unfold mixF
  by_cases e : y = x
  · subst e; rw [if_neg (fun h' => h'.2 h), if_neg (fun h' => h'.2 h)]
  · simp [e]
theorem mixF_add {T : Tr} {c : Int} {l : List Nat} {x y : Nat} (h : (T.tx x).s ≠ 3) (hx : x ∉ l) : (if y = x then { (if y = x then { mixF T c l y with s := 3 } else mixF T c l y) with e := c } else (if y = x then { mixF T c l y with s := 3 } else mixF T c l y)) = mixF T c (l ++ [x]) y := by
  unfold mixF
  by_cases e : y = x
  · subst e
    rw [if_pos rfl, if_pos rfl, if_neg (fun h' => hx h'.1), if_pos ⟨by simp, h⟩]
  · rw [if_neg e, if_neg e]
    simp [e]
theorem mixF_at {T : Tr} {c : Int} {l : List Nat} {x : Nat} (hx : x ∉ l) : mixF T c l x = T.tx x := by
  unfold mixF
  rw [if_neg (fun h => hx h.1)]
/-- those that an Abort undoes -/
def Tr.gone (T : Tr) (i n : Nat) : List Nat := (T.kin i n).filter (fun y => decide ((T.tx y).s ≠ 3))
theorem kin_lt (T : Tr) (i n : Nat) : (T.kin i n).Pairwise (· < ·) := List.Pairwise.filter _ List.pairwise_lt_range
theorem not_take {l : List Nat} (hp : l.Pairwise (· < ·)) {j x : Nat} (hx : l[j]? = some x) : x ∉ l.take j := by
  intro h
  obtain ⟨k, hk, hkx⟩ := List.mem_iff_getElem.1 h
  rw [List.getElem_take] at hkx
  obtain ⟨hj, e⟩ := List.getElem?_eq_some_iff.1 hx
  have hkj : k < j := by simp at hk; omega
  have := List.pairwise_iff_getElem.1 hp k j (by omega) hj hkj
  rw [hkx, e] at this
  omega

/-- what Abort answers -/
def AbortOut (T : Tr) (p : Int) (w : World) (e : Ending) (w' : World) : Prop :=
  Below w.heap.size w w' ∧ ((∃ i : Nat, p = i ∧ i < T.l.length ∧ (T.tx i).s = 1 ∧ ∃ A k n B kb m, n = T.l.length ∧ m = (T.gone i T.l.length).length ∧ e = .returned (.tuple #[.agg #[.slice A n k, .int .i64 (T.undone i).c], .slice B m kb, .int .i64 0]) ∧ TxAt w' A (T.undone i).l ∧ IdAt w' B (T.gone i T.l.length)) ∨
    (∃ E : Int, E ≠ 0 ∧ (∀ i : Nat, p = i → i < T.l.length → (T.tx i).s ≠ 1) ∧ e = .returned (.tuple #[.agg #[.slice none 0 0, .int .i64 0], .slice none 0 0, .int .i64 E])))

set_option maxHeartbeats 4000000 in
theorem abort_any (A : Option Addr) (T : Tr) (N cap : Nat) (c p : Int) (hN : T.l.length = N) (hG : Good T) (hc : T.c = c) (hcb : c ≤ 900) (w : World) (hT : TxAt w A T.l) :
    Calls Try.prog 22 #[.agg #[.slice A N cap, .int .i64 c], .int .i64 p] w (AbortOut T p w) := by
  have hn64 : N ≤ 64 := by have := hG.n; omega
  have hc0 : 0 ≤ c := by have := hG.c0; omega
  obtain ⟨wx, hw0⟩ : ∃ wx, wx = w.alloc (.cells #[.slice A N cap, .int .i64 c] 26) := ⟨_, rfl⟩
  obtain ⟨w1, hw1⟩ : ∃ wy, wy = wx.alloc (.cells #[.slice none 0 0, .int .i64 0] 26) := ⟨_, rfl⟩
  have b1 : TB w1 w.heap.size A N cap c := by rw [hw1, hw0]; exact (TB.new w _ _ _ _).below (below_new _ _)
  have b2 : TB w1 (w.heap.size + 1) none 0 0 0 := by
    have h := TB.new wx none 0 0 0
    rw [show wx.heap.size = w.heap.size + 1 from by rw [hw0]; simp] at h
    rw [hw1]; exact h
  have hb : Below w.heap.size w w1 := by rw [hw1, hw0]; exact below_two (below_new w _) (below_new _ _)
  have HTX := Lib.hid (hT.below hb)
  have HG := Lib.hid hG
  have HN := Lib.hid hN
  have HC := Lib.hid hc
  have HB := Lib.hid hb
  have H2 := Lib.hid b1
  have H4 := Lib.hid b2
  clear hG hN hc hb b1 b2 hT
  go_enter Try.func22, Try.ntmps22
  go_upto_region 1 with fail
  rw [← hw0, ← hw1]
  clear hw0 hw1 wx
  have hlive := live_any A T N cap c p HN.out hn64 w1 HTX.out
  obtain ⟨E, hE⟩ : ∃ E, E = T.liveE p := ⟨_, rfl⟩
  rw [← hE] at hlive
  have HE := Lib.hid hE
  have HLI := Lib.hid hlive
  have c0 := H2.out.c0
  have c1 := H2.out.c1
  clear hE hlive
  go_wp2_with fail
  refine HLI.out.mono ?_
  rintro e w2 ⟨rfl, hb2⟩
  have HB2 := Lib.hid (HB.out.trans (hb2.mono HB.out.size))
  have HTX2 := Lib.hid (HTX.out.below hb2)
  have H22 := Lib.hid (H2.out.below hb2)
  have H42 := Lib.hid (H4.out.below hb2)
  clear hb2 c0 c1 HLI HB HTX H2 H4
  by_cases hz : E = 0
  · have hzb : (E == 0) = true := by simpa using hz
    obtain ⟨i, hpi, hiN, HSI⟩ : ∃ i : Nat, p = i ∧ i < N ∧ Hid ((T.tx i).s = 1) := by
      have h1 := HE.out
      rw [hz] at h1
      unfold Tr.liveE at h1
      split at h1
      · next h2 =>
        split at h1
        · next h3 => exact ⟨p.toNat, by omega, by have := HN.out; omega, h3⟩
        · omega
      · omega
    subst hpi
    clear hz HE
    have hnext := next_any A T N cap c HN.out hn64 ⟨hc0, by omega⟩ w2 HTX2.out
    have HNX := Lib.hid hnext
    have c0 := H22.out.c0
    have c1 := H22.out.c1
    clear hnext
    go_wp2_with fail
    refine HNX.out.mono ?_
    rintro e w4 ⟨A', k', rfl, hown, hb4⟩
    have HLO := Lib.hid (show w.heap.size + 2 ≤ w2.heap.size from H42.out.lt)
    obtain ⟨b, hAb, hbl⟩ : ∃ b, A' = some ⟨b, 0, none⟩ ∧ w2.heap.size ≤ b := by
      obtain ⟨A9, c9, e9, ht9, hb9⟩ := hown.form
      injection e9 with e9 _ _
      subst e9
      obtain ⟨b, e, _⟩ := ht9.get (i := i) (by rw [HN.out]; exact hiN)
      exact ⟨b, e, hb9 b 0 e⟩
    subst hAb
    have HBL := Lib.hid hbl
    have HRF := Lib.hid (RowF.of hown HN.out)
    have HB4 := Lib.hid (HB2.out.trans (hb4.mono HB2.out.size))
    have H24 := Lib.hid (H22.out.below hb4)
    have H44 := Lib.hid (H42.out.below hb4)
    clear hb4 hown c0 c1 HNX H22 H42 HB2 hbl HTX2
    go_upto_region 6 with (first | (refine wpList_store_tree rfl (.tmp 2) (.tmp 19) rfl rfl rfl H24.out ?_; intro w5 hb5 hg5; have HB5 := Lib.hid hb5; have HG5 := Lib.hid hg5; clear hb5 hg5) | fail)
    have HT5 := Lib.hid (show Turn (fun k => k = w.heap.size) w4 w5 from (Turn.refl _ w4).grown HG5.out (fun j e => by injection e with e; exact .inl e.symm))
    have HR5 := Lib.hid (HRF.out.turn HT5.out (by have := HLO.out; have := HBL.out; omega))
    have H45 := Lib.hid (H44.out.turn HT5.out (by omega))
    have HBB5 := Lib.hid (HB4.out.trans (HT5.out.below (fun k e => by omega) HB4.out.size))
    clear HG5 HT5 HRF H44 HB4 H24
    have hkin := innOf_any (some ⟨b, 0, none⟩) T N k' (c + 1) i hiN HN.out HG.out w5 (HR5.out.tx HN.out)
    have HKI := Lib.hid hkin
    have c0 := HB5.out.c0
    have c1 := HB5.out.c1
    clear hkin
    go_wp2_with fail
    refine HKI.out.mono ?_
    rintro e w3 ⟨Ak, kk, m, rfl, hm, hid3, hb3, hlo3⟩
    have HM := Lib.hid hm
    have HID := Lib.hid hid3
    have HLK := Lib.hid (show ∀ bb o, Ak = some ⟨bb, o, none⟩ → b < bb ∧ bb < w3.heap.size from fun bb o e => by
      refine ⟨?_, ?_⟩
      · have := hlo3 bb o e; have := HR5.out.lt; omega
      · rcases hid3 with ⟨h, _⟩ | ⟨b9, e9, hb9, _⟩
        · rw [h] at e; cases e
        · rw [e9] at e; injection e with e; injection e with e; omega)
    have HB3 := Lib.hid (HBB5.out.trans (hb3.mono HBB5.out.size))
    have HR3 := Lib.hid (HR5.out.below hb3)
    have H23 := Lib.hid (HB5.out.below hb3)
    have H43 := Lib.hid (H45.out.below hb3)
    have HSZ := Lib.hid (show b < w3.heap.size from Nat.lt_of_lt_of_le HR5.out.lt hb3.size)
    have hm64 : m ≤ 64 := by rw [hm]; have := kin_len T i N; omega
    clear hb3 c0 c1 HKI hm hid3 hlo3 HBB5 HR5 HB5 H45
    have c0 := H23.out.c0
    have c1 := H23.out.c1
    go_wp2_with fail
    go_loopw [8, 24] (fun ids iv wr => ∃ j : Nat, iv = .int .i64 (j : Int) ∧ j ≤ m ∧ Hid (OwnId wr w3.heap.size ids (((T.kin i N).take j).filter (fun y => decide ((T.tx y).s ≠ 3)))) ∧ Hid (RowF wr b N (mixF T (c + 1) ((T.kin i N).take j))) ∧ Hid (TB wr w.heap.size (some ⟨b, 0, none⟩) N k' (c + 1)) ∧ Hid (TB wr (w.heap.size + 1) none 0 0 0) ∧ Hid (IdAt wr Ak (T.kin i N)) ∧ Hid (Below w.heap.size w wr) ∧ Hid (w3.heap.size ≤ wr.heap.size)) (fun _ iv _ => m - (intOf iv).toNat)
    case atStart => exact ⟨0, rfl, Nat.zero_le _, OwnId.nil _ _, HR3.out.congr (fun j hj => by unfold mixF; simp), H23.out, H43.out, HID.out, HB3.out, Nat.le_refl _⟩
    case round =>
      obtain ⟨j, rfl, hj, hoi, hrf, htb, ht4, hidr, hblr, hszr⟩ := hrel
      clear HR3 H23 H43 HID HB3 c0 c1
      have c0 := htb.out.c0
      have c1 := htb.out.c1
      rcases Nat.lt_or_ge j m with hlt | hge
      · obtain ⟨x, hx⟩ : ∃ x, (T.kin i N)[j]? = some x := ⟨_, List.getElem?_eq_getElem (by rw [← HM.out]; exact hlt)⟩
        obtain ⟨bk, hAk, hb, ck⟩ := hidr.out.get2 hx
        have hxk := kin_mem (T := T) (of := i) (n := N) (x := x) (List.mem_of_getElem? hx)
        have hxN := hxk.1
        have hnot : x ∉ (T.kin i N).take j := not_take (kin_lt T i N) hx
        have hnext : ((T.kin i N).take (j + 1)) = (T.kin i N).take j ++ [x] := by
          rw [List.take_add_one, hx]; rfl
        have HNE := Lib.hid hnext
        have HNOT := Lib.hid hnot
        have HXK := Lib.hid hxk
        have HX := Lib.hid hx
        obtain ⟨_, p1, _, _⟩ := hrf.out.c x hxN
        rw [mixF_at hnot] at p1
        obtain ⟨q, hq⟩ : ∃ q, q = (T.tx x).s := ⟨_, rfl⟩
        rw [← hq] at p1
        have HQ := Lib.hid hq
        subst hAk
        clear hq hx hxk hnext hnot
        by_cases hq3 : q = 3
        · have hqb : (q == 3) = true := by simpa using hq3
          have HQ3 := Lib.hid hq3
          clear hq3
          go_wp2
          go_roundw
          case rel =>
            have h3 : (T.tx x).s = 3 := by rw [← HQ.out]; exact HQ3.out
            exact ⟨j + 1, by simp, by omega, by rw [HNE.out, List.filter_append]; simpa [h3] using hoi, hrf.out.congr (fun y hy => by rw [HNE.out, mixF_skip h3]), htb, ht4, hidr, hblr, hszr⟩
          case measure => simp [intOf]; omega
        · have hqb : (q == 3) = false := by simpa using hq3
          have HQ3 := Lib.hid hq3
          clear hq3 c0 c1
          have c0 := htb.out.c0
          go_upto_region 10 with fail
          clear c0 ck p1
          obtain ⟨wz, hwz⟩ : ∃ wz, wz = wr := ⟨_, rfl⟩
          subst hwz
          have hk0 := fun (V : World) (h : Turn (fun k => k = b) wz V) => (htb.out.turn h (by have := HLO.out; have := HBL.out; omega)).c0
          have hk1 := fun (V : World) (h : Turn (fun k => k = b) wz V) => (htb.out.turn h (by have := HLO.out; have := HBL.out; omega)).c1
          have HRW := hrf.out.below ((Below.refl wz.heap.size wz).drew)
          refine wp_region_turn (X := (fun k => k = b)) (by kernel_rfl) ?_
          have hS : Turn (fun k => k = b) wz (World.drew wz) := (Turn.refl _ _).drew
          refine wpAnyH_take (i := 0) (oi := ⟨some 35, _, _, _, _, _⟩) (v := ?_) rfl (by kernel_rfl) (by kernel_rfl) (by kernel_rfl) (fun _ _ _ h => h) (Or.inl ⟨by rfl, ?_⟩) hS ?_
          rotate_left
          · intro W hW; go_simp; with_reducible rfl
          try simp only [Act.put, List.setIfInBounds_toArray, List.set_cons_zero, List.set_cons_succ]
          refine wpAnyH_take (i := 1) (oi := ⟨some 36, _, _, _, _, _⟩) (v := ?_) rfl (by kernel_rfl) (by kernel_rfl) (by kernel_rfl) (fun _ _ _ h => h) (Or.inl ⟨by rfl, ?_⟩) hS ?_
          rotate_left
          · intro W hW; go_simp; with_reducible rfl
          try simp only [Act.put, List.setIfInBounds_toArray, List.set_cons_zero, List.set_cons_succ]
          refine wpAnyH_take (i := 2) (oi := ⟨some 37, _, _, _, _, _⟩) (v := ?_) rfl (by kernel_rfl) (by kernel_rfl) (by kernel_rfl) (fun _ _ _ h => h) (Or.inl ⟨by rfl, ?_⟩) hS ?_
          rotate_left
          · intro W hW; go_simp; with_reducible rfl
          try simp only [Act.put, List.setIfInBounds_toArray, List.set_cons_zero, List.set_cons_succ]
          refine wpAnyH_take (i := 3) (oi := ⟨some 38, _, _, _, _, _⟩) (v := ?_) rfl (by kernel_rfl) (by kernel_rfl) (by kernel_rfl) (fun _ _ _ h => h) (Or.inl ⟨by rfl, ?_⟩) hS ?_
          rotate_left
          · intro W hW; go_simp; with_reducible rfl
          try simp only [Act.put, List.setIfInBounds_toArray, List.set_cons_zero, List.set_cons_succ]
          refine wpAnyH_take (i := 4) (oi := ⟨some 39, _, _, _, _, _⟩) (v := ?_) rfl (by kernel_rfl) (by kernel_rfl) (by kernel_rfl) (fun _ _ _ h => h) (Or.inl ⟨by rfl, ?_⟩) hS ?_
          rotate_left
          · intro W hW; go_simp; with_reducible rfl
          try simp only [Act.put, List.setIfInBounds_toArray, List.set_cons_zero, List.set_cons_succ]
          refine wpAnyH_take (i := 5) (oi := ⟨some 40, _, _, _, _, _⟩) (v := ?_) rfl (by kernel_rfl) (by kernel_rfl) (by kernel_rfl) (fun _ _ _ h => h) (Or.inl ⟨by rfl, ?_⟩) hS ?_
          rotate_left
          · intro W hW; go_simp; with_reducible rfl
          try simp only [Act.put, List.setIfInBounds_toArray, List.set_cons_zero, List.set_cons_succ]
          refine wpAnyH_take (i := 6) (oi := ⟨some 41, _, _, _, _, _⟩) (v := ?_) rfl (by kernel_rfl) (by kernel_rfl) (by kernel_rfl) (fun _ _ _ h => h) (Or.inl ⟨by rfl, ?_⟩) hS ?_
          rotate_left
          · intro W hW; go_simp; with_reducible rfl
          try simp only [Act.put, List.setIfInBounds_toArray, List.set_cons_zero, List.set_cons_succ]
          refine wpAnyH_take (i := 7) (oi := ⟨some 42, _, _, _, _, _⟩) (v := ?_) rfl (by kernel_rfl) (by kernel_rfl) (by kernel_rfl) (fun _ _ _ h => h) (Or.inl ⟨by rfl, ?_⟩) hS ?_
          rotate_left
          · intro W hW; go_simp; with_reducible rfl
          try simp only [Act.put, List.setIfInBounds_toArray, List.set_cons_zero, List.set_cons_succ]
          refine wpAnyH_take (i := 8) (oi := ⟨some 43, _, _, _, _, _⟩) (v := ?_) rfl (by kernel_rfl) (by kernel_rfl) (by kernel_rfl) (fun _ _ _ h => h) (Or.inl ⟨by rfl, ?_⟩) hS ?_
          rotate_left
          · intro W hW; go_simp; with_reducible rfl
          try simp only [Act.put, List.setIfInBounds_toArray, List.set_cons_zero, List.set_cons_succ]
          refine wpAnyH_take (i := 9) (oi := ⟨some 44, _, _, _, _, _⟩) (v := ?_) rfl (by kernel_rfl) (by kernel_rfl) (by kernel_rfl) (fun _ _ _ h => h) (Or.inl ⟨by rfl, ?_⟩) hS ?_
          rotate_left
          · intro W hW; go_simp; with_reducible rfl
          try simp only [Act.put, List.setIfInBounds_toArray, List.set_cons_zero, List.set_cons_succ]
          refine wpAnyH_ready (rs := [10]) (by kernel_rfl) (by simp) ?_
          refine AllReadyH.cons (o := ⟨none, _, _, _, _, _⟩) rfl (fun Kr hKr => ?_) AllReadyH.nil
          -- operation 10: a step
          rw [if_pos (by kernel_rfl)]
          refine wp_store_int (.tmp 44) (.const (.int .i64 3)) rfl b (x * 4 + 1) 3 rfl rfl (HRW.c x hxN).2.1 (HRW.fr _) ?_
          replace HRW := HRW.s hxN 3
          show Kr _ _
          refine hKr.out _ _ ?_ (fun _ => ?_)
          · exact hS.setCell ⟨b, x * 4 + 1, none⟩ (.int .i64 3) (.inl rfl)
          clear hKr Kr
          replace hS : Turn (fun k => k = b) wz ((World.drew wz).setCell ⟨b, x * 4 + 1, none⟩ (.int .i64 3)) := hS.setCell ⟨b, x * 4 + 1, none⟩ (.int .i64 3) (.inl rfl)
          try simp only [Act.put]
          refine wpAnyH_take (i := 11) (oi := ⟨some 45, _, _, _, _, _⟩) (v := ?_) rfl (by kernel_rfl) (by kernel_rfl) (by kernel_rfl) (fun _ _ _ h => h) (Or.inl ⟨by rfl, ?_⟩) hS ?_
          rotate_left
          · intro W hW; go_simp; with_reducible rfl
          try simp only [Act.put, List.setIfInBounds_toArray, List.set_cons_zero, List.set_cons_succ]
          refine wpAnyH_take (i := 12) (oi := ⟨some 46, _, _, _, _, _⟩) (v := ?_) rfl (by kernel_rfl) (by kernel_rfl) (by kernel_rfl) (fun _ _ _ h => h) (Or.inl ⟨by rfl, ?_⟩) hS ?_
          rotate_left
          · intro W hW; go_simp; with_reducible rfl
          try simp only [Act.put, List.setIfInBounds_toArray, List.set_cons_zero, List.set_cons_succ]
          refine wpAnyH_ready (rs := [13]) (by kernel_rfl) (by simp) ?_
          refine AllReadyH.cons (o := ⟨none, _, _, _, _, _⟩) rfl (fun Kr hKr => ?_) AllReadyH.nil
          -- operation 13: a step
          rw [if_pos (by kernel_rfl)]
          refine wp_store_int (.tmp 46) (.tmp 42) rfl b (x * 4 + 3) (c + 1) rfl rfl (HRW.c x hxN).2.2.2 (HRW.fr _) ?_
          replace HRW := HRW.e hxN (c + 1)
          show Kr _ _
          refine hKr.out _ _ ?_ (fun _ => ?_)
          · exact hS.setCell ⟨b, x * 4 + 3, none⟩ (.int .i64 (c + 1)) (.inl rfl)
          clear hKr Kr
          replace hS : Turn (fun k => k = b) wz (((World.drew wz).setCell ⟨b, x * 4 + 1, none⟩ (.int .i64 3)).setCell ⟨b, x * 4 + 3, none⟩ (.int .i64 (c + 1))) := hS.setCell ⟨b, x * 4 + 3, none⟩ (.int .i64 (c + 1)) (.inl rfl)
          try simp only [Act.put]
          refine wpAnyH_done (by kernel_rfl) ?_ _
          have HRW3 := Lib.hid (HRW.congr (g := mixF T (c + 1) ((T.kin i N).take j ++ [x])) (fun y hy => mixF_add (by rw [← HQ.out]; exact HQ3.out) HNOT.out))
          have HT7 := Lib.hid hS
          clear HRW hS hk0 hk1
          generalize ((World.drew wz).setCell ⟨b, x * 4 + 1, none⟩ (.int .i64 3)).setCell ⟨b, x * 4 + 3, none⟩ (.int .i64 (c + 1)) = w7 at *
          have HO7 := Lib.hid (hoi.out.turn HT7.out (fun k e h => by have := (hoi.out.lt k e).1; have := HSZ.out; omega))
          have HB7 := Lib.hid (htb.out.turn HT7.out (by have := HLO.out; have := HBL.out; omega))
          have H47 := Lib.hid (ht4.out.turn HT7.out (by have := HLO.out; have := HBL.out; omega))
          have HI7 := Lib.hid (hidr.out.turn HT7.out (fun bb o e h => by have := (HLK.out bb o e).1; omega))
          have HBL7 := Lib.hid (hblr.out.trans (HT7.out.below (fun k e => by have := HLO.out; have := HBL.out; omega) hblr.out.size))
          have HSZ7 := Lib.hid (Nat.le_trans hszr.out HT7.out.size)
          have hfl : (((T.kin i N).take j).filter (fun y => decide ((T.tx y).s ≠ 3))).length ≤ 1000 := by
            have h1 := List.length_filter_le (fun y => decide ((T.tx y).s ≠ 3)) ((T.kin i N).take j)
            have h2 : ((T.kin i N).take j).length ≤ j := List.length_take_le _ _
            omega
          have HFL := Lib.hid hfl
          clear hoi hrf htb ht4 hidr hblr hszr HT7 hfl
          go_wp2_with (first | (at_builtin; refine wpList_append_id rfl _ _ rfl w3.heap.size _ _ rfl (HO7.out.below (below_new _ _)) _ x rfl ((cell_new w7 _ _ 0).trans rfl) (Nat.le_trans HFL.out (by omega)) (Nat.le_trans HSZ7.out (by simp)) ?_; intro v' w8 hown8 hg8 hat8; have HO8 := Lib.hid hown8; have HG8 := Lib.hid hg8; clear hown8 hg8 hat8) | fail)
          go_roundw
          case rel =>
            have t8 : Turn (fun r => w3.heap.size ≤ r) w7 w8 := ((Turn.refl _ w7).alloc _).grown HG8.out (fun r e => .inl (HO7.out.lt r e).1)
            have h3 : (T.tx x).s ≠ 3 := by rw [← HQ.out]; exact HQ3.out
            have hlk := HLK.out bk 0 rfl
            exact ⟨j + 1, by simp, by omega, by rw [HNE.out, List.filter_append]; simpa [h3] using HO8, by rw [HNE.out]; exact HRW3.out.turn t8 (by have := HSZ.out; omega), HB7.out.turn t8 (by have := HSZ.out; have := HLO.out; have := HBL.out; omega), H47.out.turn t8 (by have := HSZ.out; have := HLO.out; have := HBL.out; omega), HI7.out.turn t8 (fun bb o e h => by have := (HLK.out bb o e).2; omega), HBL7.out.trans (t8.below (fun k e => by have := HSZ.out; have := HLO.out; have := HBL.out; omega) HBL7.out.size), Nat.le_trans HSZ7.out t8.size⟩
          case measure => simp [intOf]; omega
      · obtain rfl : j = m := by omega
        have htk : (T.kin i N).take j = T.kin i N := List.take_of_length_le (by rw [← HM.out]; exact Nat.le_refl _)
        obtain ⟨AO, kO, eO, hidO, hloO⟩ := hoi.out.form
        rw [htk] at hidO eO
        have hrf2 := hrf.out
        rw [htk] at hrf2
        have HRF2 := Lib.hid hrf2
        have HIO := Lib.hid hidO
        have HLOO := Lib.hid hloO
        obtain ⟨mo, hmo⟩ : ∃ mo, mo = ((T.kin i N).filter (fun y => decide ((T.tx y).s ≠ 3))).length := ⟨_, rfl⟩
        rw [← hmo] at eO
        have HMO := Lib.hid hmo
        subst eO
        clear htk hoi hrf hrf2 hidO hloO hmo
        go_wp2_with (first | (refine wpList_store_tree rfl (.tmp 4) (.tmp 52) rfl rfl rfl ht4.out ?_; intro w8 hb8 hg8; have HB8 := Lib.hid hb8; have HG8 := Lib.hid hg8; clear hb8 hg8) | fail)
        refine bodyPost_ret (results_tree3 rfl _ rfl _ _ rfl rfl HB8.out) rfl ?_
        have t8 : Turn (fun k => k = w.heap.size + 1) wr w8 := (Turn.refl _ wr).grown HG8.out (fun j e => by injection e with e; exact .inl e.symm)
        have hrow := HRF2.out.turn t8 (by have := HLO.out; have := HBL.out; omega)
        have hids := HIO.out.turn t8 (fun bb o e h => by have := HLOO.out bb o e; have := HSZ.out; have := HLO.out; have := HBL.out; omega)
        refine ⟨hblr.out.grown HG8.out hblr.out.size (fun j e => by injection e with e; omega), .inl ⟨i, rfl, by rw [HN.out]; exact hiN, HSI.out, some ⟨b, 0, none⟩, k', N, AO, kO, mo, HN.out.symm, by rw [HN.out]; exact HMO.out, ?_, ?_, by rw [HN.out]; exact hids⟩⟩
        · show _ = Ending.returned (.tuple #[.agg #[.slice (some ⟨b, 0, none⟩) N k', .int .i64 (T.c + 1)], _, _])
          rw [HC.out]
          rfl
        · refine RowF.tx (T := T.undone i) (n := N) (hrow.congr (fun y hy => ?_)) (by unfold Tr.undone; rw [len_turned]; exact HN.out)
          unfold Tr.undone mixF
          rw [tx_turned (by rw [HN.out]; exact hy), HC.out]
          by_cases e : T.inn i y
          · by_cases e3 : (T.tx y).s = 3
            · rw [if_neg (fun h => h.2 e3), if_neg (fun h => h.2 e3)]
            · rw [if_pos ⟨mem_kin hy e, e3⟩, if_pos ⟨e, e3⟩]
          · rw [if_neg (fun h => e (kin_mem h.1).2), if_neg (fun h => e h.1)]
  · have hzb : (E == 0) = false := by simpa using hz
    have HZ := Lib.hid hz
    clear hz
    go_wp2_with (first | (refine wpList_store_tree rfl (.tmp 4) (.tmp 16) rfl rfl rfl H42.out ?_; intro w5 hb5 hg5; have HB5 := Lib.hid hb5; have HG5 := Lib.hid hg5; clear hb5 hg5) | fail)
    refine bodyPost_ret (results_tree3 rfl _ rfl _ _ rfl rfl HB5.out) rfl ?_
    exact ⟨HB2.out.grown HG5.out HB2.out.size (fun j e => by injection e with e; omega), .inr ⟨E, HZ.out, fun i hp hi hs => HZ.out (by
      rw [HE.out, hp]
      unfold Tr.liveE
      rw [if_pos (by omega)]
      simp [hs]), rfl⟩⟩

end Go.Proofs.Ytohnfjneghbceaa
