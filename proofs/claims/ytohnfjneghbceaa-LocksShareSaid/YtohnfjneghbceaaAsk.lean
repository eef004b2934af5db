/-
  A lock asked for.
-/
import Derived.Test.YtohnfjneghbceaaPass
namespace Go.Proofs.Ytohnfjneghbceaa
set_option maxRecDepth 100000
set_option linter.unusedVariables false
open Go.RowKit Go.Shelf Go.Sort

theorem among_high (a b : Int) (h : b ≤ a) (w : World) : Calls Try.prog 56 #[.int .i64 a, .int .i64 b] w fun e w' => e = .returned (.bool false) ∧ w' = w := by
  rcases Int.lt_or_le a 0 with h0 | h0
  · exact among_low a b h0 w
  have h1 : decide (a < b) = false := decide_eq_false (by omega)
  have h2 : decide (0 ≤ a) = true := decide_eq_true h0
  have h3 : decide (a ≥ 0) = true := decide_eq_true h0
  go_enter Try.func56, Try.ntmps56
  go_wp2
  go_ret
  exact ⟨rfl, rfl⟩

/-- what Ask tells -/
def askE (T : Tr) (L : List Lk) (tx b md : Int) : Int :=
  if 0 ≤ tx ∧ tx < (T.l.length : Int) then (if (T.tx tx.toNat).s = 1 then (if agL T tx b md L = [] then 0 else 9) else 7) else 6
/-- .. and makes -/
def askL (T : Tr) (L : List Lk) (tx b md : Int) : List Lk := if askE T L tx b md = 0 then ins L ⟨b, tx, md, 0⟩ else []

def AskOut (T : Tr) (L : List Lk) (tx b md : Int) (w : World) (e : Ending) (w' : World) : Prop :=
  ∃ A' n' k', e = .returned (.tuple #[.agg #[.slice A' n' k'], .int .i64 (askE T L tx b md)]) ∧ OwnLk w' w.heap.size (.slice A' n' k') (askL T L tx b md) ∧ Below w.heap.size w w'

set_option maxHeartbeats 2000000 in
theorem ask_any (A : Option Addr) (L : List Lk) (n k : Nat) (hN : L.length = n) (hnk : n ≤ k) (hA : Sp A) (hl : LG L) (Ax : Option Addr) (T : Tr) (N cap : Nat) (c : Int) (hNx : T.l.length = N) (hG : Good T) (tx b md : Int) (hb : 0 ≤ b ∧ b ≤ 255) (hmd : md = 1 ∨ md = 2) (w : World) (hL : LkAt w A L) (hT : TxAt w Ax T.l) :
    Calls Try.prog 32 #[.agg #[.slice A n k], .agg #[.slice Ax N cap, .int .i64 c], .int .i64 tx, .int .i64 b, .int .i64 md] w (AskOut T L tx b md w) := by
  have hn16 : n ≤ 16384 := by rw [← hN]; exact hl.len
  have hN64 : N ≤ 64 := by have := hG.n; omega
  obtain ⟨wa, hwa⟩ : ∃ wa, wa = w.alloc (.cells #[.slice A n k] 49) := ⟨_, rfl⟩
  obtain ⟨wb, hwb⟩ : ∃ wb, wb = wa.alloc (.cells #[.slice Ax N cap, .int .i64 c] 26) := ⟨_, rfl⟩
  obtain ⟨w1, hw1⟩ : ∃ w1, w1 = wb.alloc (.cells #[.slice none 0 0] 49) := ⟨_, rfl⟩
  have sa : wa.heap.size = w.heap.size + 1 := by rw [hwa]; simp
  have sb : wb.heap.size = w.heap.size + 1 + 1 := by rw [hwb, World.size_alloc, sa]
  have s1 : w1.heap.size = w.heap.size + 1 + 1 + 1 := by rw [hw1, World.size_alloc, sb]
  have b1 : Below w.heap.size w w1 := by rw [hw1, hwb, hwa]; exact below_two (below_two (below_new _ _) (below_new _ _)) (below_new _ _)
  have k1 : KB w1 w.heap.size A n k := by rw [hw1, hwb, hwa]; exact ((KB.new w A n k).below (below_new _ _)).below (below_new _ _)
  have t1 : TB w1 (w.heap.size + 1) Ax N cap c := by
    have h := TB.new wa Ax N cap c
    rw [sa] at h
    rw [hw1, hwb]; exact h.below (below_new _ _)
  have r1 : KB w1 (w.heap.size + 1 + 1) none 0 0 := by
    have h := KB.new wb none 0 0
    rw [sb] at h
    rw [hw1]; exact h
  have HN := Lib.hid hN
  have HNK := Lib.hid hnk
  have HA := Lib.hid hA
  have HLG := Lib.hid hl
  have HNX := Lib.hid hNx
  have HGT := Lib.hid hG
  have HBB := Lib.hid hb
  have HMD := Lib.hid hmd
  have HL := Lib.hid hL
  have HT := Lib.hid hT
  have HB1 := Lib.hid b1
  have HK1 := Lib.hid k1
  have HT1 := Lib.hid t1
  have HR1 := Lib.hid r1
  have HSN := Lib.hid (sane_any A L n k hN hl w1 (hL.below b1))
  have hmin : min (N : Int) 64 = (N : Int) := by omega
  have hm1 : (md != 1) = !(md == 1) := rfl
  obtain ⟨q1, hq1⟩ : ∃ q1, (md != 1) = q1 := ⟨_, rfl⟩
  obtain ⟨q2, hq2⟩ : ∃ q2, (md != 2) = q2 := ⟨_, rfl⟩
  have HQ := Lib.hid (show q1 = false ∨ (q1 = true ∧ q2 = false) by
    rcases hmd with rfl | rfl
    · left; rw [← hq1]; rfl
    · right; rw [← hq1, ← hq2]; exact ⟨rfl, rfl⟩)
  clear hN hnk hA hl hNx hG hb hmd hL hT b1 k1 t1 r1 hm1 s1
  go_enter Try.func32, Try.ntmps32
  go_upto_region 1 with fail
  rw [← hwa, ← hwb, ← hw1]
  clear hw1 hwb hwa sb sa wb wa
  have c0 := HK1.out.c0
  rcases HQ.out with hf | ⟨hf, hf2⟩
  · subst hf
    go_upto_region 3 with (first
      | (go_at_call 27; refine HSN.out.mono ?_; rintro e w2 ⟨rfl, hb2⟩; have HB2 := Lib.hid hb2; have HBW := Lib.hid (HB1.out.trans (hb2.mono HB1.out.size)); have HK2 := Lib.hid (HK1.out.below hb2); have HT2 := Lib.hid (HT1.out.below hb2); have HR2 := Lib.hid (HR1.out.below hb2); clear hb2 c0)
      | (go_at_call 56; refine (among_yes _ _ (by have := HBB.out; omega) _).mono ?_; rintro e w' ⟨rfl, hw'⟩; replace hw' := hw'.symm; subst hw')
      | fail)
    have t0 := HT2.out.c0
    have NE := Lib.hid (show ∀ E : Int, askE T L tx b md = E → E ≠ 0 → askL T L tx b md = [] from fun E h1 h2 => by unfold askL; rw [if_neg (by rw [h1]; exact h2)])
    rcases Int.lt_or_le tx 0 with hlo | hlo
    · have HE := Lib.hid (show askE T L tx b md = 6 by unfold askE; rw [if_neg (by omega)])
      have HEL := Lib.hid (NE.out 6 HE.out (by decide))
      have HRX := HR2
      have HBX := HBW
      have HLO := Lib.hid hlo
      clear hlo
      go_wp2_with (first
        | (go_at_call 56; refine (among_low _ _ HLO.out _).mono ?_; rintro e w' ⟨rfl, hw'⟩; replace hw' := hw'.symm; subst hw')
        | (refine wpList_store_table rfl (.tmp 10) (.tmp 36) rfl rfl rfl HRX.out ?_; intro w7 hk7 hg7; have HK7 := Lib.hid hk7; have HG7 := Lib.hid hg7; clear hk7 hg7)
        | fail)
      refine bodyPost_ret (results_table2 rfl _ rfl _ rfl HK7.out) rfl ?_
      exact ⟨none, 0, 0, by rw [HE.out]; rfl, by rw [HEL.out]; exact OwnLk.nil _ _, HBX.out.grown HG7.out HBX.out.size (fun q e => by injection e with e; omega)⟩
    obtain ⟨i, hi⟩ : ∃ i : Nat, tx = i := ⟨tx.toNat, by omega⟩
    subst hi
    rcases Nat.lt_or_ge i N with hiN | hiN
    · have HIN := Lib.hid hiN
      obtain ⟨bx, hAe, hbx, _, p1, _, _⟩ := (HT.out.below HBW.out).get (i := i) (by rw [HNX.out]; exact hiN)
      subst hAe
      obtain ⟨s, hs⟩ : ∃ s, (T.tx i).s = s := ⟨_, rfl⟩
      rw [hs] at p1
      have HAE := Lib.hid (show askE T L i b md = (if s = 1 then (if agL T i b md L = [] then 0 else 9) else 7) by unfold askE; rw [if_pos (by rw [HNX.out]; omega)]; simp [hs])
      clear hs hbx hlo
      by_cases hs1 : s = 1
      · have hsb : (s != 1) = false := by subst hs1; rfl
        have HS1 := Lib.hid hs1
        clear hs1
        have k0 := HK2.out.c0
        have t1 := HT2.out.c1
        have HAG := Lib.hid (against_any A L n k HN.out HNK.out HLG.out (some ⟨bx, 0, none⟩) T N cap c HNX.out HGT.out i b md HMD.out w2 (HL.out.below HBW.out) (HT.out.below HBW.out))
        rcases List.eq_nil_or_concat (agL T i b md L) with hag | ⟨l0, z0, hag⟩
        · have HE := Lib.hid (show askE T L i b md = 0 by rw [HAE.out, if_pos HS1.out, if_pos hag])
          have HEL := Lib.hid (show askL T L i b md = ins L ⟨b, i, md, 0⟩ by unfold askL; rw [if_pos HE.out])
          rw [hag] at HAG
          clear hag
          have HMZ := Lib.hid (show May ⟨b, i, md, 0⟩ from ⟨HBB.out, by have h1 := HIN.out; show 0 ≤ (i : Int) ∧ (i : Int) ≤ 63; omega, by have := HMD.out; show 0 ≤ md ∧ md ≤ 2; omega, ⟨Int.le_refl 0, show (0 : Int) ≤ 2 by decide⟩, by have := HMD.out; unfold Lk.s; show 0 < max md 0; omega⟩)
          go_wp2_with (first
            | (go_at_call 56; refine (among_yes _ _ (by have := HIN.out; omega) _).mono ?_; rintro e w' ⟨rfl, hw'⟩; replace hw' := hw'.symm; subst hw')
            | (go_at_call 33; refine HAG.out.mono ?_; rintro e w3 ⟨v3, rfl, ho3, hb3⟩; obtain ⟨A3, c3, rfl, _, _⟩ := ho3.form; have HB3 := Lib.hid hb3; have HBX := Lib.hid (HBW.out.trans (hb3.mono HBW.out.size)); have k3 := (HK2.out.below hb3).c0; have HR3 := Lib.hid (HR2.out.below hb3); clear ho3 hb3)
            | (go_at_call 49; refine (with_any A L n k HN.out HNK.out HA.out HLG.out (some ⟨w3.heap.size, 0, none⟩) [⟨b, i, md, 0⟩] 1 1 rfl (LG.cons HMZ.out lg_nil (by simp)) _ ((HL.out.below HBX.out).below (below_new _ _)) (LkAt.new w3 ⟨b, i, md, 0⟩ _)).mono ?_; rintro e w4 ⟨A4, n4, k4, rfl, ho4, hb4⟩; have HO4 := Lib.hid ho4; have HB4 := Lib.hid hb4; have HRX := Lib.hid ((HR3.out.below (below_new w3 _)).below hb4); clear ho4 hb4)
            | (refine wpList_store_table rfl (.tmp 10) (.tmp 60) rfl rfl rfl HRX.out ?_; intro w7 hk7 hg7; have HK7 := Lib.hid hk7; have HG7 := Lib.hid hg7; clear hk7 hg7)
            | fail)
          have h5 : Below w.heap.size w w4 := (HBX.out.alloc HBX.out.size (.cells #[.int .i64 b, .int .i64 (i : Int), .int .i64 md, .int .i64 0] 53)).trans (HB4.out.mono (by have := HBX.out.size; simp; omega))
          refine bodyPost_ret (results_table2 rfl _ rfl _ rfl HK7.out) rfl ?_
          refine ⟨A4, n4, k4, by rw [HE.out]; rfl, ?_, h5.grown HG7.out h5.size (fun q e => by injection e with e; omega)⟩
          rw [HEL.out]
          have h8 := HO4.out.turn (S := fun q => q = w.heap.size + 1 + 1) ((Turn.refl _ w4).grown HG7.out (fun q e => by injection e with e; exact .inl e.symm)) (fun q e h => by have h1 := (HO4.out.lt q e).1; have h2 := HR3.out.lt; simp at h1; omega)
          exact OwnLk.le (b := w.heap.size) h8 (by have := HBX.out.size; simp; omega)
        · have hne : agL T i b md L ≠ [] := by rw [hag]; simp
          have HE := Lib.hid (show askE T L i b md = 9 by rw [HAE.out, if_pos HS1.out, if_neg hne])
          have HEL := Lib.hid (NE.out 9 HE.out (by decide))
          obtain ⟨na, hna⟩ : ∃ na, (agL T i b md L).length = na := ⟨_, rfl⟩
          have hnp : decide (0 < na) = true := decide_eq_true (by rw [← hna, hag]; simp)
          have HNA := Lib.hid hna
          clear hag hne hna
          go_wp2_with (first
            | (go_at_call 56; refine (among_yes _ _ (by have := HIN.out; omega) _).mono ?_; rintro e w' ⟨rfl, hw'⟩; replace hw' := hw'.symm; subst hw')
            | (go_at_call 33; refine HAG.out.mono ?_; rintro e w3 ⟨v3, rfl, ho3, hb3⟩; obtain ⟨A3, c3, rfl, _, _⟩ := ho3.form; rw [HNA.out]; have HBX := Lib.hid (HBW.out.trans (hb3.mono HBW.out.size)); have HRX := Lib.hid (HR2.out.below hb3); clear ho3 hb3)
            | (refine wpList_store_table rfl (.tmp 10) (.tmp 53) rfl rfl rfl HRX.out ?_; intro w7 hk7 hg7; have HK7 := Lib.hid hk7; have HG7 := Lib.hid hg7; clear hk7 hg7)
            | fail)
          refine bodyPost_ret (results_table2 rfl _ rfl _ rfl HK7.out) rfl ?_
          exact ⟨none, 0, 0, by rw [HE.out]; rfl, by rw [HEL.out]; exact OwnLk.nil _ _, HBX.out.grown HG7.out HBX.out.size (fun q e => by injection e with e; omega)⟩
      · have hsb : (s != 1) = true := by simpa using hs1
        have HE := Lib.hid (show askE T L i b md = 7 by rw [HAE.out, if_neg hs1])
        have HEL := Lib.hid (NE.out 7 HE.out (by decide))
        have HRX := HR2
        have HBX := HBW
        clear hs1
        go_wp2_with (first
          | (go_at_call 56; refine (among_yes _ _ (by have := HIN.out; omega) _).mono ?_; rintro e w' ⟨rfl, hw'⟩; replace hw' := hw'.symm; subst hw')
          | (refine wpList_store_table rfl (.tmp 10) (.tmp 44) rfl rfl rfl HRX.out ?_; intro w7 hk7 hg7; have HK7 := Lib.hid hk7; have HG7 := Lib.hid hg7; clear hk7 hg7)
          | fail)
        refine bodyPost_ret (results_table2 rfl _ rfl _ rfl HK7.out) rfl ?_
        exact ⟨none, 0, 0, by rw [HE.out]; rfl, by rw [HEL.out]; exact OwnLk.nil _ _, HBX.out.grown HG7.out HBX.out.size (fun q e => by injection e with e; omega)⟩
    · have HE := Lib.hid (show askE T L i b md = 6 by unfold askE; rw [if_neg (by rw [HNX.out]; omega)])
      have HEL := Lib.hid (NE.out 6 HE.out (by decide))
      have HRX := HR2
      have HBX := HBW
      have HLO := Lib.hid (show (N : Int) ≤ (i : Int) by omega)
      clear hlo hiN
      go_wp2_with (first
        | (go_at_call 56; refine (among_high _ _ HLO.out _).mono ?_; rintro e w' ⟨rfl, hw'⟩; replace hw' := hw'.symm; subst hw')
        | (refine wpList_store_table rfl (.tmp 10) (.tmp 36) rfl rfl rfl HRX.out ?_; intro w7 hk7 hg7; have HK7 := Lib.hid hk7; have HG7 := Lib.hid hg7; clear hk7 hg7)
        | fail)
      refine bodyPost_ret (results_table2 rfl _ rfl _ rfl HK7.out) rfl ?_
      exact ⟨none, 0, 0, by rw [HE.out]; rfl, by rw [HEL.out]; exact OwnLk.nil _ _, HBX.out.grown HG7.out HBX.out.size (fun q e => by injection e with e; omega)⟩
  · subst hf
    subst hf2
    go_upto_region 3 with (first
      | (go_at_call 27; refine HSN.out.mono ?_; rintro e w2 ⟨rfl, hb2⟩; have HB2 := Lib.hid hb2; have HBW := Lib.hid (HB1.out.trans (hb2.mono HB1.out.size)); have HK2 := Lib.hid (HK1.out.below hb2); have HT2 := Lib.hid (HT1.out.below hb2); have HR2 := Lib.hid (HR1.out.below hb2); clear hb2 c0)
      | (go_at_call 56; refine (among_yes _ _ (by have := HBB.out; omega) _).mono ?_; rintro e w' ⟨rfl, hw'⟩; replace hw' := hw'.symm; subst hw')
      | fail)
    have t0 := HT2.out.c0
    have NE := Lib.hid (show ∀ E : Int, askE T L tx b md = E → E ≠ 0 → askL T L tx b md = [] from fun E h1 h2 => by unfold askL; rw [if_neg (by rw [h1]; exact h2)])
    rcases Int.lt_or_le tx 0 with hlo | hlo
    · have HE := Lib.hid (show askE T L tx b md = 6 by unfold askE; rw [if_neg (by omega)])
      have HEL := Lib.hid (NE.out 6 HE.out (by decide))
      have HRX := HR2
      have HBX := HBW
      have HLO := Lib.hid hlo
      clear hlo
      go_wp2_with (first
        | (go_at_call 56; refine (among_low _ _ HLO.out _).mono ?_; rintro e w' ⟨rfl, hw'⟩; replace hw' := hw'.symm; subst hw')
        | (refine wpList_store_table rfl (.tmp 10) (.tmp 36) rfl rfl rfl HRX.out ?_; intro w7 hk7 hg7; have HK7 := Lib.hid hk7; have HG7 := Lib.hid hg7; clear hk7 hg7)
        | fail)
      refine bodyPost_ret (results_table2 rfl _ rfl _ rfl HK7.out) rfl ?_
      exact ⟨none, 0, 0, by rw [HE.out]; rfl, by rw [HEL.out]; exact OwnLk.nil _ _, HBX.out.grown HG7.out HBX.out.size (fun q e => by injection e with e; omega)⟩
    obtain ⟨i, hi⟩ : ∃ i : Nat, tx = i := ⟨tx.toNat, by omega⟩
    subst hi
    rcases Nat.lt_or_ge i N with hiN | hiN
    · have HIN := Lib.hid hiN
      obtain ⟨bx, hAe, hbx, _, p1, _, _⟩ := (HT.out.below HBW.out).get (i := i) (by rw [HNX.out]; exact hiN)
      subst hAe
      obtain ⟨s, hs⟩ : ∃ s, (T.tx i).s = s := ⟨_, rfl⟩
      rw [hs] at p1
      have HAE := Lib.hid (show askE T L i b md = (if s = 1 then (if agL T i b md L = [] then 0 else 9) else 7) by unfold askE; rw [if_pos (by rw [HNX.out]; omega)]; simp [hs])
      clear hs hbx hlo
      by_cases hs1 : s = 1
      · have hsb : (s != 1) = false := by subst hs1; rfl
        have HS1 := Lib.hid hs1
        clear hs1
        have k0 := HK2.out.c0
        have t1 := HT2.out.c1
        have HAG := Lib.hid (against_any A L n k HN.out HNK.out HLG.out (some ⟨bx, 0, none⟩) T N cap c HNX.out HGT.out i b md HMD.out w2 (HL.out.below HBW.out) (HT.out.below HBW.out))
        rcases List.eq_nil_or_concat (agL T i b md L) with hag | ⟨l0, z0, hag⟩
        · have HE := Lib.hid (show askE T L i b md = 0 by rw [HAE.out, if_pos HS1.out, if_pos hag])
          have HEL := Lib.hid (show askL T L i b md = ins L ⟨b, i, md, 0⟩ by unfold askL; rw [if_pos HE.out])
          rw [hag] at HAG
          clear hag
          have HMZ := Lib.hid (show May ⟨b, i, md, 0⟩ from ⟨HBB.out, by have h1 := HIN.out; show 0 ≤ (i : Int) ∧ (i : Int) ≤ 63; omega, by have := HMD.out; show 0 ≤ md ∧ md ≤ 2; omega, ⟨Int.le_refl 0, show (0 : Int) ≤ 2 by decide⟩, by have := HMD.out; unfold Lk.s; show 0 < max md 0; omega⟩)
          go_wp2_with (first
            | (go_at_call 56; refine (among_yes _ _ (by have := HIN.out; omega) _).mono ?_; rintro e w' ⟨rfl, hw'⟩; replace hw' := hw'.symm; subst hw')
            | (go_at_call 33; refine HAG.out.mono ?_; rintro e w3 ⟨v3, rfl, ho3, hb3⟩; obtain ⟨A3, c3, rfl, _, _⟩ := ho3.form; have HB3 := Lib.hid hb3; have HBX := Lib.hid (HBW.out.trans (hb3.mono HBW.out.size)); have k3 := (HK2.out.below hb3).c0; have HR3 := Lib.hid (HR2.out.below hb3); clear ho3 hb3)
            | (go_at_call 49; refine (with_any A L n k HN.out HNK.out HA.out HLG.out (some ⟨w3.heap.size, 0, none⟩) [⟨b, i, md, 0⟩] 1 1 rfl (LG.cons HMZ.out lg_nil (by simp)) _ ((HL.out.below HBX.out).below (below_new _ _)) (LkAt.new w3 ⟨b, i, md, 0⟩ _)).mono ?_; rintro e w4 ⟨A4, n4, k4, rfl, ho4, hb4⟩; have HO4 := Lib.hid ho4; have HB4 := Lib.hid hb4; have HRX := Lib.hid ((HR3.out.below (below_new w3 _)).below hb4); clear ho4 hb4)
            | (refine wpList_store_table rfl (.tmp 10) (.tmp 60) rfl rfl rfl HRX.out ?_; intro w7 hk7 hg7; have HK7 := Lib.hid hk7; have HG7 := Lib.hid hg7; clear hk7 hg7)
            | fail)
          have h5 : Below w.heap.size w w4 := (HBX.out.alloc HBX.out.size (.cells #[.int .i64 b, .int .i64 (i : Int), .int .i64 md, .int .i64 0] 53)).trans (HB4.out.mono (by have := HBX.out.size; simp; omega))
          refine bodyPost_ret (results_table2 rfl _ rfl _ rfl HK7.out) rfl ?_
          refine ⟨A4, n4, k4, by rw [HE.out]; rfl, ?_, h5.grown HG7.out h5.size (fun q e => by injection e with e; omega)⟩
          rw [HEL.out]
          have h8 := HO4.out.turn (S := fun q => q = w.heap.size + 1 + 1) ((Turn.refl _ w4).grown HG7.out (fun q e => by injection e with e; exact .inl e.symm)) (fun q e h => by have h1 := (HO4.out.lt q e).1; have h2 := HR3.out.lt; simp at h1; omega)
          exact OwnLk.le (b := w.heap.size) h8 (by have := HBX.out.size; simp; omega)
        · have hne : agL T i b md L ≠ [] := by rw [hag]; simp
          have HE := Lib.hid (show askE T L i b md = 9 by rw [HAE.out, if_pos HS1.out, if_neg hne])
          have HEL := Lib.hid (NE.out 9 HE.out (by decide))
          obtain ⟨na, hna⟩ : ∃ na, (agL T i b md L).length = na := ⟨_, rfl⟩
          have hnp : decide (0 < na) = true := decide_eq_true (by rw [← hna, hag]; simp)
          have HNA := Lib.hid hna
          clear hag hne hna
          go_wp2_with (first
            | (go_at_call 56; refine (among_yes _ _ (by have := HIN.out; omega) _).mono ?_; rintro e w' ⟨rfl, hw'⟩; replace hw' := hw'.symm; subst hw')
            | (go_at_call 33; refine HAG.out.mono ?_; rintro e w3 ⟨v3, rfl, ho3, hb3⟩; obtain ⟨A3, c3, rfl, _, _⟩ := ho3.form; rw [HNA.out]; have HBX := Lib.hid (HBW.out.trans (hb3.mono HBW.out.size)); have HRX := Lib.hid (HR2.out.below hb3); clear ho3 hb3)
            | (refine wpList_store_table rfl (.tmp 10) (.tmp 53) rfl rfl rfl HRX.out ?_; intro w7 hk7 hg7; have HK7 := Lib.hid hk7; have HG7 := Lib.hid hg7; clear hk7 hg7)
            | fail)
          refine bodyPost_ret (results_table2 rfl _ rfl _ rfl HK7.out) rfl ?_
          exact ⟨none, 0, 0, by rw [HE.out]; rfl, by rw [HEL.out]; exact OwnLk.nil _ _, HBX.out.grown HG7.out HBX.out.size (fun q e => by injection e with e; omega)⟩
      · have hsb : (s != 1) = true := by simpa using hs1
        have HE := Lib.hid (show askE T L i b md = 7 by rw [HAE.out, if_neg hs1])
        have HEL := Lib.hid (NE.out 7 HE.out (by decide))
        have HRX := HR2
        have HBX := HBW
        clear hs1
        go_wp2_with (first
          | (go_at_call 56; refine (among_yes _ _ (by have := HIN.out; omega) _).mono ?_; rintro e w' ⟨rfl, hw'⟩; replace hw' := hw'.symm; subst hw')
          | (refine wpList_store_table rfl (.tmp 10) (.tmp 44) rfl rfl rfl HRX.out ?_; intro w7 hk7 hg7; have HK7 := Lib.hid hk7; have HG7 := Lib.hid hg7; clear hk7 hg7)
          | fail)
        refine bodyPost_ret (results_table2 rfl _ rfl _ rfl HK7.out) rfl ?_
        exact ⟨none, 0, 0, by rw [HE.out]; rfl, by rw [HEL.out]; exact OwnLk.nil _ _, HBX.out.grown HG7.out HBX.out.size (fun q e => by injection e with e; omega)⟩
    · have HE := Lib.hid (show askE T L i b md = 6 by unfold askE; rw [if_neg (by rw [HNX.out]; omega)])
      have HEL := Lib.hid (NE.out 6 HE.out (by decide))
      have HRX := HR2
      have HBX := HBW
      have HLO := Lib.hid (show (N : Int) ≤ (i : Int) by omega)
      clear hlo hiN
      go_wp2_with (first
        | (go_at_call 56; refine (among_high _ _ HLO.out _).mono ?_; rintro e w' ⟨rfl, hw'⟩; replace hw' := hw'.symm; subst hw')
        | (refine wpList_store_table rfl (.tmp 10) (.tmp 36) rfl rfl rfl HRX.out ?_; intro w7 hk7 hg7; have HK7 := Lib.hid hk7; have HG7 := Lib.hid hg7; clear hk7 hg7)
        | fail)
      refine bodyPost_ret (results_table2 rfl _ rfl _ rfl HK7.out) rfl ?_
      exact ⟨none, 0, 0, by rw [HE.out]; rfl, by rw [HEL.out]; exact OwnLk.nil _ _, HBX.out.grown HG7.out HBX.out.size (fun q e => by injection e with e; omega)⟩
end Go.Proofs.Ytohnfjneghbceaa
