/-
  LocksAgain's walk.
-/
import Derived.Test.YtohnfjneghbceaaEndWalk
import Derived.Test.YtohnfjneghbceaaTheirs
namespace Go.Proofs.Ytohnfjneghbceaa
set_option maxRecDepth 100000
set_option linter.unusedVariables false
set_option linter.unusedSimpArgs false
open Go.RowKit Go.Shelf

theorem exc_one {md s : Int} (hmd : md = 1 ∨ md = 2) (h : exc 1 s = true) : exc md s = true := by
  unfold exc at *
  rw [if_pos rfl] at h
  have hs : s = 2 := by simpa using h
  rcases hmd with rfl | rfl
  · rw [if_pos rfl, hs]; rfl
  · rw [if_neg (by decide), hs]; rfl
/-- asked again: nothing changes -/
theorem ask_again {T : Tr} {L : List Lk} (h : Apt T L) {y : Nat} {b md md2 : Int} (hb : 0 ≤ b ∧ b ≤ 255) (hmd : md = 1 ∨ md = 2) (hmd2 : md2 = md ∨ md2 = 1) (he : askE T L (y : Int) b md = 0) :
    askE T (ins L ⟨b, (y : Int), md, 0⟩) (y : Int) b md2 = 0 ∧ ins (ins L ⟨b, (y : Int), md, 0⟩) ⟨b, (y : Int), md2, 0⟩ = ins L ⟨b, (y : Int), md, 0⟩ ∧ md ≤ hof (ins L ⟨b, (y : Int), md, 0⟩) (b * 64 + (y : Int)) := by
  obtain ⟨i, e, hi, hs, hag⟩ := ask_facts he
  have hiy : i = y := by omega
  subst hiy
  have hm := ask_may h.good rfl hi hb hmd
  have h64 := h.good.n
  have hL2 := h.tab.ins hm
  have hh := hof_ins h.tab hm (b * 64 + (i : Int))
  have hk0 := h.tab.hk0 (b * 64 + (i : Int))
  have hk2 := hL2.hk0 (b * 64 + (i : Int))
  have hq : (⟨b, (i : Int), md, 0⟩ : Lk).q = b * 64 + (i : Int) := rfl
  rw [if_pos hq, if_pos hq] at hh
  have hmax : max (⟨b, (i : Int), md, 0⟩ : Lk).h (hof L (b * 64 + (i : Int))) = max md (hof L (b * 64 + (i : Int))) := rfl
  rw [hmax] at hh
  refine ⟨?_, ?_, by rw [hh.1]; omega⟩
  · unfold askE
    rw [if_pos (by omega), if_pos (by simpa using hs), if_pos ?_]
    unfold agL
    rw [List.map_eq_nil_iff, List.filter_eq_nil_iff]
    intro t ht
    unfold hit
    by_cases hc : t.b = b ∧ exc md2 t.s = true
    · have hst : T.stands (i : Int) t.x = true := by
        rcases ins_mem h.tab ht with ⟨h1, _⟩ | h1 | ⟨_, h1⟩
        · refine agL_nil hag h1 hc.1 ?_
          rcases hmd2 with e2 | e2
          · rw [← e2]; exact hc.2
          · rw [e2] at hc; exact exc_one hmd hc.2
        · rw [h1]; exact stands_self hi
        · rw [h1]; exact stands_self hi
      rw [hst]; simp
    · intro h2
      refine hc ?_
      simp at h2
      exact h2.1
  · refine ins_same hL2 ?_ ?_ ?_ ?_
    · show md2 ≤ hof _ (b * 64 + (i : Int))
      rw [hh.1]; omega
    · show (0 : Int) ≤ kof _ (b * 64 + (i : Int))
      exact hk2.2.2.1
    · show 0 < md2
      omega
    · show 0 ≤ (i : Int) ∧ (i : Int) ≤ 63
      omega

set_option maxHeartbeats 4000000 in
theorem again_walk (a : Option Addr) (len cap : Nat) (F G P R : Nat → Int) (id bl mo : Int) (w : World) (hacts : Acts w a len F G P R) :
    Calls Try.prog 10 #[.slice a len cap, .int .i64 id, .int .i64 bl, .int .i64 mo] w fun e w' => e = .returned (.bool true) ∧ Below w.heap.size w w' := by
  have HACT := Lib.hid hacts
  clear hacts
  go_enter Try.func10, Try.ntmps10
  go_wp2_with fail
  refine (awake_any w).mono ?_
  rintro e w1 ⟨rfl, hb1⟩
  have HB1 := Lib.hid hb1
  have HAC1 := Lib.hid (HACT.out.below hb1)
  clear hb1
  rcases Nat.lt_or_ge 120 len with hbig | hlen
  · have hgt : decide (120 < len) = true := decide_eq_true hbig
    have hgt2 : decide ((120 : Int) < (len : Int)) = true := decide_eq_true (by omega)
    go_wp2
    go_ret
    exact ⟨rfl, HB1.out⟩
  have hgt : decide (120 < len) = false := decide_eq_false (by omega)
  have hgt2 : decide ((120 : Int) < (len : Int)) = false := decide_eq_false (by omega)
  go_wp2_with fail
  refine (grown_any a len cap F G P R (by omega) w1 HAC1.out).mono ?_
  rintro e w2 ⟨A, k, n, c, T, B, m, kb, L, rfl, hN, hC, hcb, hap, hx, hm, hmk, hsp, hl, hb2⟩
  have HN := Lib.hid hN
  have HAP := Lib.hid hap
  have HX2 := Lib.hid hx
  have HM := Lib.hid hm
  have HMK := Lib.hid hmk
  have HSP := Lib.hid hsp
  have HL2 := Lib.hid hl
  have HB2 := Lib.hid (HB1.out.trans (hb2.mono HB1.out.size))
  have hm16 : m ≤ 16384 := by rw [← hm]; exact hap.tab.len
  have hn64 : n ≤ 64 := by rw [← hN]; exact hap.good.n
  clear hN hC hap hx hm hmk hsp hl hb2 HACT HAC1 HB1 hgt hgt2
  obtain ⟨g, hg⟩ : ∃ g, g = w2.heap.size := ⟨_, rfl⟩
  obtain ⟨h, hh⟩ : ∃ h, h = w2.heap.size + 1 := ⟨_, rfl⟩
  go_upto_region 5 with (first
    | (refine wpList_store_tree rfl (.tmp 10) (.tmp 32) rfl rfl rfl ((TB.new w2 none 0 0 0).below (below_new _ (.cells #[.slice none 0 0] 49))) ?_; intro w3 hu hg3; have HU3 := Lib.hid hu; have HG3 := Lib.hid hg3; have HK3 := Lib.hid (KB.far (by have h9 := KB.new (w2.alloc (.cells #[.slice none 0 0, .int .i64 0] 26)) none 0 0; rw [World.size_alloc] at h9; exact h9) hg3 (fun e => by injection e with e; omega)); clear hu hg3)
    | (refine wpList_store_table rfl (.tmp 11) (.tmp 33) rfl rfl rfl HK3.out ?_; intro w4 hu hg4; have HK4 := Lib.hid hu; have HG4 := Lib.hid hg4; clear hu hg4)
    | fail)
  have t3 : Below w2.heap.size w2 w4 := by
    have h1 : Below w2.heap.size w2 w3 := ((below_new w2 (.cells #[.slice none 0 0, .int .i64 0] 26)).alloc (by simp) (.cells #[.slice none 0 0] 49)).grown HG3.out (by simp; omega) (fun q e => by injection e with e; omega)
    exact h1.grown HG4.out h1.size (fun q e => by injection e with e; omega)
  rw [← hh, ← hg]
  have HU4 := Lib.hid (show TB w4 g A n k c by rw [hg]; exact HU3.out.far HG4.out (fun e => by injection e with e; omega))
  have HKB := Lib.hid (show KB w4 h B m kb by rw [hh]; exact HK4.out)
  have HX4 := Lib.hid (HX2.out.below t3)
  have HL4 := Lib.hid (HL2.out.below t3)
  have HB4 := Lib.hid (HB2.out.trans (t3.mono HB2.out.size))
  clear t3 hg hh HU3 HG3 HK3 HK4 HG4 HX2 HL2 HB2
  have u0 := HU4.out.c0
  rcases Nat.eq_zero_or_pos n with hn0 | hn0
  · have hne : (n == 0) = true := by simpa using hn0
    have hne2 : ((n : Int) == 0) = true := by simpa using hn0
    go_wp2
    go_ret
    exact ⟨rfl, HB4.out⟩
  have hne : (n == 0) = false := by simp; omega
  have hne2 : ((n : Int) == 0) = false := by simp; omega
  obtain ⟨x, hx, hlow⟩ := low id 65535 16 (by decide) (by omega)
  have hx2 : x < 65536 := hx
  obtain ⟨y, hy⟩ : ∃ y : Nat, y = x % n := ⟨_, rfl⟩
  have hyn : y < n := by rw [hy]; exact Nat.mod_lt _ hn0
  have hmod : (x : Int) % (n : Int) = (y : Int) := by rw [hy]; simp
  have hmod2 : Int.tmod (x : Int) (n : Int) = (y : Int) := by rw [Int.tmod_eq_emod_of_nonneg (by omega)]; exact hmod
  have hw3 : IntKind.i64.wrap (y : Int) = (y : Int) := by simp [IntKind.wrap, IntKind.bits, IntKind.signed]; omega
  have hnz2 : ¬ (n : Int) = 0 := by omega
  have hnz3 : ¬ n = 0 := by omega
  clear hx hy hx2
  have c1 := HU4.out.c1
  have c2 := HKB.out.c0
  obtain ⟨b, hb, hlow7⟩ := low bl 7 3 (by decide) (by omega)
  obtain ⟨y2, hy2, hlow1⟩ := low mo 1 1 (by decide) (by omega)
  obtain ⟨md, hmd⟩ : ∃ md : Int, 1 + (y2 : Int) = md := ⟨_, rfl⟩
  have HMD := Lib.hid (show md = 1 ∨ md = 2 by have : y2 < 2 := hy2; omega)
  have hmw : IntKind.i64.wrap md = md := by rw [IntKind.wrap_i64]; have := HMD.out; omega
  have HBB := Lib.hid (show 0 ≤ (b : Int) ∧ (b : Int) ≤ 255 by have : b < 8 := hb; omega)
  have HYN := Lib.hid hyn
  have HY63 := Lib.hid (show y ≤ 63 by omega)
  obtain ⟨E, hE⟩ : ∃ E, E = askE T L (y : Int) (b : Int) md := ⟨_, rfl⟩
  obtain ⟨L2, hL2⟩ : ∃ L2, L2 = askL T L (y : Int) (b : Int) md := ⟨_, rfl⟩
  have HAK : Hid (Calls Try.prog 32 #[.agg #[.slice B m kb], .agg #[.slice A n k, .int .i64 c], .int .i64 (y : Int), .int .i64 (b : Int), .int .i64 md] w4 fun e w' => ∃ A' n' k', e = .returned (.tuple #[.agg #[.slice A' n' k'], .int .i64 E]) ∧ OwnLk w' w4.heap.size (.slice A' n' k') L2 ∧ Below w4.heap.size w4 w') := by
    rw [hE, hL2]
    exact ask_any B L m kb HM.out HMK.out HSP.out HAP.out.tab A T n k c HN.out HAP.out.good (y : Int) b md HBB.out HMD.out w4 HL4.out HX4.out
  have HE := Lib.hid hE
  have HL2 := Lib.hid hL2
  clear hb hy2 hE hL2
  go_upto_region 11 with (first
    | (go_at_call 32; refine HAK.out.mono ?_; rintro e w5 ⟨B5, m5, kb5, rfl, ho5, hb5⟩; have HO5 := Lib.hid ho5; have HB5 := Lib.hid hb5; clear ho5 hb5 u0 c1 c2)
    | (refine wpList_store_table rfl (.tmp 15) (.tmp 57) rfl rfl rfl (KB.new w5 none 0 0) ?_; intro w6 hk6 hg6; have HK6 := Lib.hid hk6; have HG6 := Lib.hid hg6; clear hk6 hg6)
    | fail)
  obtain ⟨h6, hh6⟩ : ∃ h6, h6 = w5.heap.size := ⟨_, rfl⟩
  rw [← hh6]
  have t6 := (below_new w5 (.cells #[.slice none 0 0] 49)).grown HG6.out (by simp) (fun q e => by injection e with e; omega)
  have b46 : Below w4.heap.size w4 w6 := HB5.out.trans (t6.mono HB5.out.size)
  have HL6 := Lib.hid (show Lp w6 h6 B5 m5 kb5 L2 from ⟨by rw [hh6]; exact HK6.out, (HO5.out.below t6).parts.2.2.2, HO5.out.parts.1, HO5.out.parts.2.1, HO5.out.parts.2.2.1⟩)
  have HX6 := Lib.hid (HX4.out.below b46)
  have HLT6 := Lib.hid (HL4.out.below b46)
  have HU6 := Lib.hid (HU4.out.below b46)
  have HKT6 := Lib.hid (HKB.out.below b46)
  have HB6 := Lib.hid (HB4.out.trans (b46.mono HB4.out.size))
  clear t6 b46 hh6 HK6 HG6 HO5 HB5 HX4 HL4 HU4 HKB HB4 HAK hlow hmod hmod2 hw3 hnz2 hnz3 hne hne2 hlow7 hlow1 hmd hmw
  have u0 := HU6.out.c0
  have u1 := HU6.out.c1
  have c2 := HKT6.out.c0
  have HAG := Lib.hid (against_any B L m kb HM.out HMK.out HAP.out.tab A T n k c HN.out HAP.out.good (y : Int) b md HMD.out w6 HLT6.out HX6.out)
  go_upto_region 12 with (first
    | (go_at_call 33; refine HAG.out.mono ?_; rintro e w7 ⟨v7, rfl, ho7, hb7⟩; have HO7 := Lib.hid ho7; have HB7 := Lib.hid hb7; clear ho7 hb7 u0 u1 c2)
    | fail)
  obtain ⟨Aw, kw, hv7, hiw, _⟩ := HO7.out.form
  subst hv7
  obtain ⟨ids, hids⟩ : ∃ ids, ids = agL T (y : Int) (b : Int) md L := ⟨_, rfl⟩
  obtain ⟨ni, hni⟩ : ∃ ni, ni = ids.length := ⟨_, rfl⟩
  rw [← hids, ← hni]
  rw [← hids] at hiw
  have HIW := Lib.hid hiw
  have HIDS := Lib.hid hids
  have HNI := Lib.hid hni
  have hni16 : ni ≤ 16384 := by rw [hni, hids]; have := agL_len T (y : Int) (b : Int) md L; rw [HM.out] at this; omega
  have HL7 := Lib.hid (HL6.out.below HB7.out)
  have HX7 := Lib.hid (HX6.out.below HB7.out)
  have HLT7 := Lib.hid (HLT6.out.below HB7.out)
  have HU7 := Lib.hid (HU6.out.below HB7.out)
  have HKT7 := Lib.hid (HKT6.out.below HB7.out)
  have HBW := Lib.hid (HB6.out.trans (HB7.out.mono HB6.out.size))
  clear hids hni hiw HO7 HB7 HL6 HX6 HLT6 HU6 HKT6 HB6 HAG
  have hyT : y < T.l.length := by rw [HN.out]; exact hyn
  have HYT := Lib.hid hyT
  have HEV := Lib.hid (show ((T.tx y).s = 1 → E = if ids = [] then 0 else 9) ∧ ((T.tx y).s ≠ 1 → E = 7) by
    rw [HE.out]
    unfold askE
    rw [if_pos (by omega), HIDS.out]
    simp only [Int.toNat_natCast]
    exact ⟨fun h => by rw [if_pos h], fun h => by rw [if_neg h]⟩)
  clear hyT
  by_cases hs1 : (T.tx y).s = 1
  · have hE9 := HEV.out.1 hs1
    by_cases hid : ids = []
    · -- it is held
      rw [if_pos hid] at hE9
      have e9 : (E == 9) = false := by rw [hE9]; rfl
      have e0 : (E != 0) = false := by rw [hE9]; rfl
      have hn0' : ni = 0 := by rw [HNI.out, hid]; rfl
      have HE0 := Lib.hid hE9
      have HID := Lib.hid hid
      subst hn0'
      clear hE9 hid hs1
      have HAG1 := Lib.hid (ask_again (y := y) HAP.out HBB.out HMD.out (md2 := md) (.inl rfl) (by rw [← HE.out]; exact HE0.out))
      have HAG2 := Lib.hid (ask_again (y := y) HAP.out HBB.out HMD.out (md2 := 1) (.inr rfl) (by rw [← HE.out]; exact HE0.out))
      have hL2e : L2 = ins L ⟨b, (y : Int), md, 0⟩ := by rw [HL2.out]; unfold askL; rw [if_pos (by rw [← HE.out]; exact HE0.out)]
      rw [← hL2e] at HAG1 HAG2
      have HAP2 := Lib.hid (show Apt T L2 by rw [hL2e]; exact HAP.out.ask HBB.out HMD.out (by rw [← HE.out]; exact HE0.out))
      have HM5 := Lib.hid (show m5 ≤ 16384 by rw [← HL7.out.hn]; exact HAP2.out.tab.len)
      clear hL2e
      have u0 := HU7.out.c0
      have u1 := HU7.out.c1
      have c5 := HL7.out.t.c0
      have HAK1 : Hid (∀ V, Since w7 V → Calls Try.prog 32 #[.agg #[.slice B5 m5 kb5], .agg #[.slice A n k, .int .i64 c], .int .i64 (y : Int), .int .i64 (b : Int), .int .i64 md] V fun e w' => ∃ A' k', e = .returned (.tuple #[.agg #[.slice A' m5 k'], .int .i64 0]) ∧ m5 ≤ k' ∧ Sp A' ∧ LkAt w' A' L2 ∧ Below V.heap.size V w') := fun V hV => by
        refine (ask_any B5 L2 m5 kb5 HL7.out.hn HL7.out.hk HL7.out.s HAP2.out.tab A T n k c HN.out HAP.out.good (y : Int) b md HBB.out HMD.out V (HL7.out.x.below hV) (HX7.out.below hV)).mono ?_
        rintro e w' ⟨A', n', k', rfl, ho, hb⟩
        unfold askL at ho
        rw [HAG1.out.1, if_pos rfl, HAG1.out.2.1] at ho
        obtain ⟨h1, h2, h3, h4⟩ := ho.parts
        have hn' : n' = m5 := by rw [← h1]; exact HL7.out.hn
        rw [hn'] at h2 ⊢
        rw [HAG1.out.1]
        exact ⟨A', k', rfl, h2, h3, h4, hb⟩
      have HAK2 : Hid (∀ V, Since w7 V → Calls Try.prog 32 #[.agg #[.slice B5 m5 kb5], .agg #[.slice A n k, .int .i64 c], .int .i64 (y : Int), .int .i64 (b : Int), .int .i64 1] V fun e w' => ∃ A' k', e = .returned (.tuple #[.agg #[.slice A' m5 k'], .int .i64 0]) ∧ m5 ≤ k' ∧ Sp A' ∧ LkAt w' A' L2 ∧ Below V.heap.size V w') := fun V hV => by
        refine (ask_any B5 L2 m5 kb5 HL7.out.hn HL7.out.hk HL7.out.s HAP2.out.tab A T n k c HN.out HAP.out.good (y : Int) b 1 HBB.out (.inl rfl) V (HL7.out.x.below hV) (HX7.out.below hV)).mono ?_
        rintro e w' ⟨A', n', k', rfl, ho, hb⟩
        unfold askL at ho
        rw [HAG2.out.1, if_pos rfl, HAG2.out.2.1] at ho
        obtain ⟨h1, h2, h3, h4⟩ := ho.parts
        have hn' : n' = m5 := by rw [← h1]; exact HL7.out.hn
        rw [hn'] at h2 ⊢
        rw [HAG2.out.1]
        exact ⟨A', k', rfl, h2, h3, h4, hb⟩
      go_upto_region 23 with (first
        | (go_at_call 32; refine (HAK1.out w7 (Below.refl _ _)).mono ?_; rintro e w8 ⟨B8, kb8, rfl, hk8, hs8, hl8, hb8⟩; have HL8 := Lib.hid hl8; have HB8 := Lib.hid hb8; clear hk8 hs8 hl8 hb8 u0 u1 c5)
        | (refine wpList_store_table rfl (.tmp 20) (.tmp 130) rfl rfl rfl (KB.new w8 none 0 0) ?_; intro w9 hk9 hg9; have HK9 := Lib.hid hk9; have HG9 := Lib.hid hg9; clear hk9 hg9)
        | fail)
      obtain ⟨h9, hh9⟩ : ∃ h9, h9 = w8.heap.size := ⟨_, rfl⟩
      rw [← hh9]
      have t9 := (below_new w8 (.cells #[.slice none 0 0] 49)).grown HG9.out (by simp) (fun q e => by injection e with e; omega)
      have HS9 := Lib.hid (show Since w7 w9 from HB8.out.trans (t9.mono HB8.out.size))
      have HKW := Lib.hid (show KB w9 h9 B8 m5 kb8 by rw [hh9]; exact HK9.out)
      have HLW := Lib.hid (HL8.out.below t9)
      have u0 := (HU7.out.below HS9.out).c0
      have u1 := (HU7.out.below HS9.out).c1
      have c5 := (HL7.out.below HS9.out).t.c0
      clear hh9 t9 HK9 HG9 HL8 HB8
      go_upto_region 24 with (first
        | (go_at_call 32; refine (HAK2.out w9 HS9.out).mono ?_; rintro e w10 ⟨B10, kb10, rfl, hk10, hs10, hl10, hb10⟩; have HL10 := Lib.hid hl10; have HB10 := Lib.hid hb10; clear hk10 hs10 hl10 hb10 u0 u1 c5)
        | (refine wpList_store_table rfl (.tmp 22) (.tmp 138) rfl rfl rfl (KB.new w10 none 0 0) ?_; intro wy hk11 hg11; have HK11 := Lib.hid hk11; have HG11 := Lib.hid hg11; clear hk11 hg11)
        | fail)
      obtain ⟨h11, hh11⟩ : ∃ h11, h11 = w10.heap.size := ⟨_, rfl⟩
      rw [← hh11]
      have t11 := (below_new w10 (.cells #[.slice none 0 0] 49)).grown HG11.out (by simp) (fun q e => by injection e with e; omega)
      have b911 := HB10.out.trans (t11.mono HB10.out.size)
      have HSY := Lib.hid (since_trans HS9.out b911)
      have HKV := Lib.hid (show KB wy h11 B10 m5 kb10 by rw [hh11]; exact HK11.out)
      have HLV := Lib.hid (HL10.out.below t11)
      have HKW2 := Lib.hid (HKW.out.below b911)
      have HLW2 := Lib.hid (HLW.out.below b911)
      have HLU := Lib.hid (HL7.out.below HSY.out)
      have HBY := Lib.hid (HBW.out.trans (Below.mono HSY.out HBW.out.size))
      clear hh11 t11 b911 HK11 HG11 HL10 HB10
      obtain ⟨hq, hhq⟩ : ∃ q, hof L2 ((b : Int) * 64 + (y : Int)) = q := ⟨_, rfl⟩
      obtain ⟨kq, hkq⟩ : ∃ q, kof L2 ((b : Int) * 64 + (y : Int)) = q := ⟨_, rfl⟩
      have hge : decide (md ≤ hq) = true := decide_eq_true (by rw [← hhq]; exact HAG1.out.2.2)
      have HFD : Hid (∀ V, Since wy V → Calls Try.prog 30 #[.agg #[.slice B5 m5 kb5], .int .i64 (y : Int), .int .i64 (b : Int)] V fun e w' => e = .returned (.agg #[.int .i64 (b : Int), .int .i64 (y : Int), .int .i64 hq, .int .i64 kq]) ∧ Below V.heap.size V w') := fun V hV => by
        have h := find_any B5 L2 m5 kb5 HL7.out.hn HAP2.out.tab (y : Int) (b : Int) (by have := HY63.out; omega) V (HLU.out.x.below hV)
        rw [hhq, hkq] at h
        exact h
      have HTHu : Hid (∀ V, Since wy V → Calls Try.prog 35 #[.slice B5 m5 kb5] V fun e w' => ∃ B c, e = .returned (.slice B m5 c) ∧ LkAt w' B L2 ∧ Below V.heap.size V w') := fun V hV => theirs_any B5 L2 m5 kb5 HL7.out.hn HM5.out V (HLU.out.x.below hV)
      have HTHw : Hid (∀ V, Since wy V → Calls Try.prog 35 #[.slice B8 m5 kb8] V fun e w' => ∃ B c, e = .returned (.slice B m5 c) ∧ LkAt w' B L2 ∧ Below V.heap.size V w') := fun V hV => theirs_any B8 L2 m5 kb8 HL7.out.hn HM5.out V (HLW2.out.below hV)
      have HTHv : Hid (∀ V, Since wy V → Calls Try.prog 35 #[.slice B10 m5 kb10] V fun e w' => ∃ B c, e = .returned (.slice B m5 c) ∧ LkAt w' B L2 ∧ Below V.heap.size V w') := fun V hV => theirs_any B10 L2 m5 kb10 HL7.out.hn HM5.out V (HLV.out.below hV)
      have s0 : ∀ V, Since wy V → V.cell? ⟨h6, 0, none⟩ = some (.slice B5 m5 kb5) := fun V hV => (HLU.out.t.below hV).c0
      have s1 : ∀ V, Since wy V → V.cell? ⟨h9, 0, none⟩ = some (.slice B8 m5 kb8) := fun V hV => (HKW2.out.below hV).c0
      have s2 : ∀ V, Since wy V → V.cell? ⟨h11, 0, none⟩ = some (.slice B10 m5 kb10) := fun V hV => (HKV.out.below hV).c0
      have hfl := run_field_h
      clear hhq hkq
      refine wp_region_since (by kernel_rfl) ?_
      have hS : Since wy (World.drew wy) := (Below.refl _ _).drew
      refine wpAnyH_take (i := 0) (oi := ⟨some 140, _, _, _, _, _⟩) (v := ?_) rfl (by kernel_rfl) (by kernel_rfl) (by kernel_rfl) (fun _ _ _ h => h) (Or.inl ⟨by rfl, ?_⟩) hS ?_
      rotate_left
      · intro W hW; go_simp; with_reducible rfl
      try simp only [Act.put, List.setIfInBounds_toArray, List.set_cons_zero, List.set_cons_succ]
      refine wpAnyH_take (i := 1) (oi := ⟨some 141, _, _, _, _, _⟩) (v := ?_) rfl (by kernel_rfl) (by kernel_rfl) (by kernel_rfl) (fun _ _ _ h => h) (Or.inl ⟨by rfl, ?_⟩) hS ?_
      rotate_left
      · intro W hW; go_simp; with_reducible rfl
      try simp only [Act.put, List.setIfInBounds_toArray, List.set_cons_zero, List.set_cons_succ]
      refine wpAnyH_take (i := 2) (oi := ⟨some 142, _, _, _, _, _⟩) (v := ?_) rfl (by kernel_rfl) (by kernel_rfl) (by kernel_rfl) (fun _ _ _ h => h) (Or.inl ⟨by rfl, ?_⟩) hS ?_
      rotate_left
      · intro W hW; go_simp; with_reducible rfl
      try simp only [Act.put, List.setIfInBounds_toArray, List.set_cons_zero, List.set_cons_succ]
      refine wpAnyH_take (i := 3) (oi := ⟨some 143, _, _, _, _, _⟩) (v := ?_) rfl (by kernel_rfl) (by kernel_rfl) (by kernel_rfl) (fun _ _ _ h => h) (Or.inl ⟨by rfl, ?_⟩) hS ?_
      rotate_left
      · intro W hW; go_simp; with_reducible rfl
      try simp only [Act.put, List.setIfInBounds_toArray, List.set_cons_zero, List.set_cons_succ]
      refine wpAnyH_take (i := 4) (oi := ⟨some 144, _, _, _, _, _⟩) (v := ?_) rfl (by kernel_rfl) (by kernel_rfl) (by kernel_rfl) (fun _ _ _ h => h) (Or.inl ⟨by rfl, ?_⟩) hS ?_
      rotate_left
      · intro W hW; go_simp; with_reducible rfl
      try simp only [Act.put, List.setIfInBounds_toArray, List.set_cons_zero, List.set_cons_succ]
      refine wpAnyH_take (i := 5) (oi := ⟨some 145, _, _, _, _, _⟩) (v := ?_) rfl (by kernel_rfl) (by kernel_rfl) (by kernel_rfl) (fun _ _ _ h => h) (Or.inl ⟨by rfl, ?_⟩) hS ?_
      rotate_left
      · intro W hW; go_simp; with_reducible rfl
      try simp only [Act.put, List.setIfInBounds_toArray, List.set_cons_zero, List.set_cons_succ]
      refine wpAnyH_take (i := 6) (oi := ⟨some 146, _, _, _, _, _⟩) (v := ?_) rfl (by kernel_rfl) (by kernel_rfl) (by kernel_rfl) (fun _ _ _ h => h) (Or.inl ⟨by rfl, ?_⟩) hS ?_
      rotate_left
      · intro W hW; go_simp; with_reducible rfl
      try simp only [Act.put, List.setIfInBounds_toArray, List.set_cons_zero, List.set_cons_succ]
      refine wpAnyH_take (i := 7) (oi := ⟨some 147, _, _, _, _, _⟩) (v := ?_) rfl (by kernel_rfl) (by kernel_rfl) (by kernel_rfl) (fun _ _ _ h => h) (Or.inl ⟨by rfl, ?_⟩) hS ?_
      rotate_left
      · intro W hW; go_simp; with_reducible rfl
      try simp only [Act.put, List.setIfInBounds_toArray, List.set_cons_zero, List.set_cons_succ]
      refine wpAnyH_take (i := 8) (oi := ⟨some 148, _, _, _, _, _⟩) (v := ?_) rfl (by kernel_rfl) (by kernel_rfl) (by kernel_rfl) (fun _ _ _ h => h) (Or.inl ⟨by rfl, ?_⟩) hS ?_
      rotate_left
      · intro W hW; go_simp; with_reducible rfl
      try simp only [Act.put, List.setIfInBounds_toArray, List.set_cons_zero, List.set_cons_succ]
      refine wpAnyH_take (i := 9) (oi := ⟨some 149, _, _, _, _, _⟩) (v := ?_) rfl (by kernel_rfl) (by kernel_rfl) (by kernel_rfl) (fun _ _ _ h => h) (Or.inl ⟨by rfl, ?_⟩) hS ?_
      rotate_left
      · intro W hW; go_simp; with_reducible rfl
      try simp only [Act.put, List.setIfInBounds_toArray, List.set_cons_zero, List.set_cons_succ]
      refine wpAnyH_take (i := 10) (oi := ⟨some 150, _, _, _, _, _⟩) (v := ?_) rfl (by kernel_rfl) (by kernel_rfl) (by kernel_rfl) (fun _ _ _ h => h) (Or.inl ⟨by rfl, ?_⟩) hS ?_
      rotate_left
      · intro W hW; go_simp; with_reducible rfl
      try simp only [Act.put, List.setIfInBounds_toArray, List.set_cons_zero, List.set_cons_succ]
      refine wpAnyH_take (i := 11) (oi := ⟨some 151, _, _, _, _, _⟩) (v := ?_) rfl (by kernel_rfl) (by kernel_rfl) (by kernel_rfl) (fun _ _ _ h => h) (Or.inl ⟨by rfl, ?_⟩) hS ?_
      rotate_left
      · intro W hW; go_simp; with_reducible rfl
      try simp only [Act.put, List.setIfInBounds_toArray, List.set_cons_zero, List.set_cons_succ]
      refine wpAnyH_take (i := 13) (oi := ⟨some 153, _, _, _, _, _⟩) (v := ?_) rfl (by kernel_rfl) (by kernel_rfl) (by kernel_rfl) (fun _ _ _ h => h) (Or.inl ⟨by rfl, ?_⟩) hS ?_
      rotate_left
      · intro W hW; go_simp; with_reducible rfl
      try simp only [Act.put, List.setIfInBounds_toArray, List.set_cons_zero, List.set_cons_succ]
      refine wpAnyH_take (i := 14) (oi := ⟨some 154, _, _, _, _, _⟩) (v := ?_) rfl (by kernel_rfl) (by kernel_rfl) (by kernel_rfl) (fun _ _ _ h => h) (Or.inl ⟨by rfl, ?_⟩) hS ?_
      rotate_left
      · intro W hW; go_simp; with_reducible rfl
      try simp only [Act.put, List.setIfInBounds_toArray, List.set_cons_zero, List.set_cons_succ]
      refine wpAnyH_ready (rs := [12]) (by kernel_rfl) (by simp) ?_
      refine AllReadyH.cons (o := ⟨some 152, _, _, _, _, _⟩) rfl (fun Kr hKr => ?_) AllReadyH.nil
      -- operation 12: a call
      go_simp
      refine (HTHu.out _ hS).mono ?_
      rintro e w12 ⟨C12, d12, rfl, hl12, hb12⟩
      show Kr _ _
      refine hKr.out _ _ ?_ (fun _ => ?_)
      · exact since_trans hS hb12
      clear hKr Kr
      replace hS : Since wy w12 := since_trans hS hb12
      try simp only [Act.put, List.setIfInBounds_toArray, List.set_cons_zero, List.set_cons_succ]
      refine wpAnyH_ready (rs := [15]) (by kernel_rfl) (by simp) ?_
      refine AllReadyH.cons (o := ⟨some 155, _, _, _, _, _⟩) rfl (fun Kr hKr => ?_) AllReadyH.nil
      -- operation 15: a call
      go_simp
      refine (HTHw.out _ hS).mono ?_
      rintro e w15 ⟨C15, d15, rfl, hl15, hb15⟩
      show Kr _ _
      refine hKr.out _ _ ?_ (fun _ => ?_)
      · exact since_trans hS hb15
      clear hKr Kr
      replace hS : Since wy w15 := since_trans hS hb15
      try simp only [Act.put, List.setIfInBounds_toArray, List.set_cons_zero, List.set_cons_succ]
      refine wpAnyH_ready (rs := [16]) (by kernel_rfl) (by simp) ?_
      refine AllReadyH.cons (o := ⟨some 156, _, _, _, _, _⟩) rfl (fun Kr hKr => ?_) AllReadyH.nil
      -- operation 16: a call
      go_simp
      refine (same_any C12 C15 L2 m5 d12 d15 HL7.out.hn HM5.out _ (by first | exact hl12 | exact hl12.below hb15) (by first | exact hl15 | exact hl15.below hb12)).mono ?_
      rintro e w16 ⟨rfl, hb16⟩
      show Kr _ _
      refine hKr.out _ _ ?_ (fun _ => ?_)
      · exact since_trans hS hb16
      clear hKr Kr
      replace hS : Since wy w16 := since_trans hS hb16
      try simp only [Act.put, List.setIfInBounds_toArray, List.set_cons_zero, List.set_cons_succ]
      refine wpAnyH_take (i := 17) (oi := ⟨some 157, _, _, _, _, _⟩) (v := ?_) rfl (by kernel_rfl) (by kernel_rfl) (by kernel_rfl) (fun _ _ _ h => h) (Or.inl ⟨by rfl, ?_⟩) hS ?_
      rotate_left
      · intro W hW; go_simp; with_reducible rfl
      try simp only [Act.put, List.setIfInBounds_toArray, List.set_cons_zero, List.set_cons_succ]
      refine wpAnyH_take (i := 18) (oi := ⟨some 158, _, _, _, _, _⟩) (v := ?_) rfl (by kernel_rfl) (by kernel_rfl) (by kernel_rfl) (fun _ _ _ h => h) (Or.inl ⟨by rfl, ?_⟩) hS ?_
      rotate_left
      · intro W hW; go_simp; with_reducible rfl
      try simp only [Act.put, List.setIfInBounds_toArray, List.set_cons_zero, List.set_cons_succ]
      refine wpAnyH_take (i := 19) (oi := ⟨some 159, _, _, _, _, _⟩) (v := ?_) rfl (by kernel_rfl) (by kernel_rfl) (by kernel_rfl) (fun _ _ _ h => h) (Or.inl ⟨by rfl, ?_⟩) hS ?_
      rotate_left
      · intro W hW; go_simp; with_reducible rfl
      try simp only [Act.put, List.setIfInBounds_toArray, List.set_cons_zero, List.set_cons_succ]
      refine wpAnyH_take (i := 20) (oi := ⟨some 160, _, _, _, _, _⟩) (v := ?_) rfl (by kernel_rfl) (by kernel_rfl) (by kernel_rfl) (fun _ _ _ h => h) (Or.inl ⟨by rfl, ?_⟩) hS ?_
      rotate_left
      · intro W hW; go_simp; with_reducible rfl
      try simp only [Act.put, List.setIfInBounds_toArray, List.set_cons_zero, List.set_cons_succ]
      refine wpAnyH_take (i := 22) (oi := ⟨some 162, _, _, _, _, _⟩) (v := ?_) rfl (by kernel_rfl) (by kernel_rfl) (by kernel_rfl) (fun _ _ _ h => h) (Or.inl ⟨by rfl, ?_⟩) hS ?_
      rotate_left
      · intro W hW; go_simp; with_reducible rfl
      try simp only [Act.put, List.setIfInBounds_toArray, List.set_cons_zero, List.set_cons_succ]
      refine wpAnyH_take (i := 23) (oi := ⟨some 163, _, _, _, _, _⟩) (v := ?_) rfl (by kernel_rfl) (by kernel_rfl) (by kernel_rfl) (fun _ _ _ h => h) (Or.inl ⟨by rfl, ?_⟩) hS ?_
      rotate_left
      · intro W hW; go_simp; with_reducible rfl
      try simp only [Act.put, List.setIfInBounds_toArray, List.set_cons_zero, List.set_cons_succ]
      refine wpAnyH_ready (rs := [21]) (by kernel_rfl) (by simp) ?_
      refine AllReadyH.cons (o := ⟨some 161, _, _, _, _, _⟩) rfl (fun Kr hKr => ?_) AllReadyH.nil
      -- operation 21: a call
      go_simp
      refine (HTHu.out _ hS).mono ?_
      rintro e w21 ⟨C21, d21, rfl, hl21, hb21⟩
      show Kr _ _
      refine hKr.out _ _ ?_ (fun _ => ?_)
      · exact since_trans hS hb21
      clear hKr Kr
      replace hS : Since wy w21 := since_trans hS hb21
      try simp only [Act.put, List.setIfInBounds_toArray, List.set_cons_zero, List.set_cons_succ]
      refine wpAnyH_ready (rs := [24]) (by kernel_rfl) (by simp) ?_
      refine AllReadyH.cons (o := ⟨some 164, _, _, _, _, _⟩) rfl (fun Kr hKr => ?_) AllReadyH.nil
      -- operation 24: a call
      go_simp
      refine (HTHv.out _ hS).mono ?_
      rintro e w24 ⟨C24, d24, rfl, hl24, hb24⟩
      show Kr _ _
      refine hKr.out _ _ ?_ (fun _ => ?_)
      · exact since_trans hS hb24
      clear hKr Kr
      replace hS : Since wy w24 := since_trans hS hb24
      try simp only [Act.put, List.setIfInBounds_toArray, List.set_cons_zero, List.set_cons_succ]
      refine wpAnyH_ready (rs := [25]) (by kernel_rfl) (by simp) ?_
      refine AllReadyH.cons (o := ⟨some 165, _, _, _, _, _⟩) rfl (fun Kr hKr => ?_) AllReadyH.nil
      -- operation 25: a call
      go_simp
      refine (same_any C21 C24 L2 m5 d21 d24 HL7.out.hn HM5.out _ (by first | exact hl21 | exact hl21.below hb24) (by first | exact hl24 | exact hl24.below hb21)).mono ?_
      rintro e w25 ⟨rfl, hb25⟩
      show Kr _ _
      refine hKr.out _ _ ?_ (fun _ => ?_)
      · exact since_trans hS hb25
      clear hKr Kr
      replace hS : Since wy w25 := since_trans hS hb25
      try simp only [Act.put, List.setIfInBounds_toArray, List.set_cons_zero, List.set_cons_succ]
      refine wpAnyH_take (i := 26) (oi := ⟨some 166, _, _, _, _, _⟩) (v := ?_) rfl (by kernel_rfl) (by kernel_rfl) (by kernel_rfl) (fun _ _ _ h => h) (Or.inl ⟨by rfl, ?_⟩) hS ?_
      rotate_left
      · intro W hW; go_simp; with_reducible rfl
      try simp only [Act.put, List.setIfInBounds_toArray, List.set_cons_zero, List.set_cons_succ]
      refine wpAnyH_take (i := 27) (oi := ⟨some 167, _, _, _, _, _⟩) (v := ?_) rfl (by kernel_rfl) (by kernel_rfl) (by kernel_rfl) (fun _ _ _ h => h) (Or.inl ⟨by rfl, ?_⟩) hS ?_
      rotate_left
      · intro W hW; go_simp; with_reducible rfl
      try simp only [Act.put, List.setIfInBounds_toArray, List.set_cons_zero, List.set_cons_succ]
      refine wpAnyH_take (i := 28) (oi := ⟨some 168, _, _, _, _, _⟩) (v := ?_) rfl (by kernel_rfl) (by kernel_rfl) (by kernel_rfl) (fun _ _ _ h => h) (Or.inl ⟨by rfl, ?_⟩) hS ?_
      rotate_left
      · intro W hW; go_simp; with_reducible rfl
      try simp only [Act.put, List.setIfInBounds_toArray, List.set_cons_zero, List.set_cons_succ]
      refine wpAnyH_take (i := 29) (oi := ⟨some 169, _, _, _, _, _⟩) (v := ?_) rfl (by kernel_rfl) (by kernel_rfl) (by kernel_rfl) (fun _ _ _ h => h) (Or.inl ⟨by rfl, ?_⟩) hS ?_
      rotate_left
      · intro W hW; go_simp; with_reducible rfl
      try simp only [Act.put, List.setIfInBounds_toArray, List.set_cons_zero, List.set_cons_succ]
      refine wpAnyH_take (i := 30) (oi := ⟨some 170, _, _, _, _, _⟩) (v := ?_) rfl (by kernel_rfl) (by kernel_rfl) (by kernel_rfl) (fun _ _ _ h => h) (Or.inl ⟨by rfl, ?_⟩) hS ?_
      rotate_left
      · intro W hW; go_simp; with_reducible rfl
      try simp only [Act.put, List.setIfInBounds_toArray, List.set_cons_zero, List.set_cons_succ]
      refine wpAnyH_take (i := 33) (oi := ⟨some 173, _, _, _, _, _⟩) (v := ?_) rfl (by kernel_rfl) (by kernel_rfl) (by kernel_rfl) (fun _ _ _ h => h) (Or.inl ⟨by rfl, ?_⟩) hS ?_
      rotate_left
      · intro W hW; go_simp; with_reducible rfl
      try simp only [Act.put, List.setIfInBounds_toArray, List.set_cons_zero, List.set_cons_succ]
      refine wpAnyH_ready (rs := [31]) (by kernel_rfl) (by simp) ?_
      refine AllReadyH.cons (o := ⟨some 171, _, _, _, _, _⟩) rfl (fun Kr hKr => ?_) AllReadyH.nil
      -- operation 31: a call
      go_simp
      refine (HFD.out _ hS).mono ?_
      rintro e w31 ⟨rfl, hb31⟩
      show Kr _ _
      refine hKr.out _ _ ?_ (fun _ => ?_)
      · exact since_trans hS hb31
      clear hKr Kr
      replace hS : Since wy w31 := since_trans hS hb31
      try simp only [Act.put, List.setIfInBounds_toArray, List.set_cons_zero, List.set_cons_succ]
      refine wpAnyH_take (i := 32) (oi := ⟨some 172, _, _, _, _, _⟩) (v := ?_) rfl (by kernel_rfl) (by kernel_rfl) (by kernel_rfl) (fun _ _ _ h => h) (Or.inl ⟨by rfl, ?_⟩) hS ?_
      rotate_left
      · intro W hW; go_simp; with_reducible rfl
      try simp only [Act.put, List.setIfInBounds_toArray, List.set_cons_zero, List.set_cons_succ]
      refine wpAnyH_take (i := 34) (oi := ⟨some 174, _, _, _, _, _⟩) (v := ?_) rfl (by kernel_rfl) (by kernel_rfl) (by kernel_rfl) (fun _ _ _ h => h) (Or.inl ⟨by rfl, ?_⟩) hS ?_
      rotate_left
      · intro W hW; go_simp; with_reducible rfl
      try simp only [Act.put, List.setIfInBounds_toArray, List.set_cons_zero, List.set_cons_succ]
      refine wpAnyH_take (i := 35) (oi := ⟨some 175, _, _, _, _, _⟩) (v := ?_) rfl (by kernel_rfl) (by kernel_rfl) (by kernel_rfl) (fun _ _ _ h => h) (Or.inl ⟨by rfl, ?_⟩) hS ?_
      rotate_left
      · intro W hW; go_simp; with_reducible rfl
      try simp only [Act.put, List.setIfInBounds_toArray, List.set_cons_zero, List.set_cons_succ]
      refine wpAnyH_take (i := 36) (oi := ⟨some 176, _, _, _, _, _⟩) (v := ?_) rfl (by kernel_rfl) (by kernel_rfl) (by kernel_rfl) (fun _ _ _ h => h) (Or.inl ⟨by rfl, ?_⟩) hS ?_
      rotate_left
      · intro W hW; go_simp; with_reducible rfl
      try simp only [Act.put, List.setIfInBounds_toArray, List.set_cons_zero, List.set_cons_succ]
      refine wpAnyH_take (i := 37) (oi := ⟨some 177, _, _, _, _, _⟩) (v := ?_) rfl (by kernel_rfl) (by kernel_rfl) (by kernel_rfl) (fun _ _ _ h => h) (Or.inl ⟨by rfl, ?_⟩) hS ?_
      rotate_left
      · intro W hW; go_simp; with_reducible rfl
      try simp only [Act.put, List.setIfInBounds_toArray, List.set_cons_zero, List.set_cons_succ]
      refine wpAnyH_take (i := 38) (oi := ⟨some 178, _, _, _, _, _⟩) (v := ?_) rfl (by kernel_rfl) (by kernel_rfl) (by kernel_rfl) (fun _ _ _ h => h) (Or.inl ⟨by rfl, ?_⟩) hS ?_
      rotate_left
      · intro W hW; go_simp; with_reducible rfl
      try simp only [Act.put, List.setIfInBounds_toArray, List.set_cons_zero, List.set_cons_succ]
      refine wpAnyH_take (i := 39) (oi := ⟨some 179, _, _, _, _, _⟩) (v := ?_) rfl (by kernel_rfl) (by kernel_rfl) (by kernel_rfl) (fun _ _ _ h => h) (Or.inl ⟨by rfl, ?_⟩) hS ?_
      rotate_left
      · intro W hW; go_simp; with_reducible rfl
      try simp only [Act.put, List.setIfInBounds_toArray, List.set_cons_zero, List.set_cons_succ]
      refine wpAnyH_take (i := 40) (oi := ⟨some 180, _, _, _, _, _⟩) (v := ?_) rfl (by kernel_rfl) (by kernel_rfl) (by kernel_rfl) (fun _ _ _ h => h) (Or.inl ⟨by rfl, ?_⟩) hS ?_
      rotate_left
      · intro W hW; go_simp; with_reducible rfl
      try simp only [Act.put, List.setIfInBounds_toArray, List.set_cons_zero, List.set_cons_succ]
      refine wpAnyH_take (i := 41) (oi := ⟨some 8, _, _, _, _, _⟩) (v := ?_) rfl (by kernel_rfl) (by kernel_rfl) (by kernel_rfl) (fun _ _ _ h => h) (Or.inl ⟨by rfl, ?_⟩) hS ?_
      rotate_left
      · intro W hW; go_simp; with_reducible rfl
      try simp only [Act.put, List.setIfInBounds_toArray, List.set_cons_zero, List.set_cons_succ]
      refine wpAnyH_done (by kernel_rfl) ?_ _
      go_wp2
      go_ret
      exact ⟨rfl, HBY.out.trans (Below.mono hS HBY.out.size)⟩
    · -- it waits
      rw [if_neg hid] at hE9
      have e9 : (E == 9) = true := by rw [hE9]; rfl
      have hnp : 0 < ni := by rw [HNI.out]; exact List.length_pos_iff.2 hid
      have hnp1 : decide (0 < ni) = true := decide_eq_true hnp
      have HLE := Lib.hid (show m5 = 0 by
        have h1 := HL7.out.hn
        rw [HL2.out] at h1
        unfold askL at h1
        rw [if_neg (by rw [← HE.out, hE9]; decide)] at h1
        exact h1.symm)
      clear hE9 hid hs1
      go_wp2_with fail
      go_loopw [18] (fun iv wr => ∃ i : Nat, iv = .int .i64 (i : Int) ∧ i ≤ ni ∧ Hid (Below w7.heap.size w7 wr)) (fun iv _ => ni - (intOf iv).toNat)
      case atStart => exact ⟨0, rfl, Nat.zero_le _, Below.refl _ _⟩
      case round =>
        obtain ⟨i, rfl, hi, HR⟩ := hrel
        have HKTr := Lib.hid (HKT7.out.below HR.out)
        have HLTr := Lib.hid (HLT7.out.below HR.out)
        have HXr := Lib.hid (HX7.out.below HR.out)
        have HUr := Lib.hid (HU7.out.below HR.out)
        have HIr := Lib.hid (HIW.out.below HR.out)
        rcases Nat.lt_or_ge i ni with hlt | hge
        · obtain ⟨z, hz⟩ : ∃ z, ids[i]? = some z := ⟨ids[i]'(by rw [← HNI.out]; exact hlt), List.getElem?_eq_getElem (by rw [← HNI.out]; exact hlt)⟩
          obtain ⟨bi, hAi, hbi, hci⟩ := HIr.out.get2 hz
          subst hAi
          obtain ⟨t, ht, htx, htb, hte, hts⟩ := agL_mem (T := T) (tx := (y : Int)) (b := (b : Int)) (md := md) (L := L) (by rw [← HIDS.out]; exact List.mem_of_getElem? hz)
          have hmt := HAP.out.tab.may t ht
          have htz : t.x = (z : Int) := by have := hmt.x; omega
          have hz63 : 0 ≤ (z : Int) ∧ (z : Int) ≤ 63 := by have := hmt.x; omega
          obtain ⟨hq, hhq⟩ : ∃ q, hof L ((b : Int) * 64 + (z : Int)) = q := ⟨_, rfl⟩
          obtain ⟨kq, hkq⟩ : ∃ q, kof L ((b : Int) * 64 + (z : Int)) = q := ⟨_, rfl⟩
          obtain ⟨sq, hsq⟩ : ∃ q, max hq kq = q := ⟨_, rfl⟩
          have hat := HAP.out.tab.at_ ht
          have htq : t.q = (b : Int) * 64 + (z : Int) := by unfold Lk.q; rw [htb, htz]
          rw [htq, hhq, hkq] at hat
          have hsb : (sq == 0) = false := by
            have h1 := hmt.s
            have h2 : t.s = max t.h t.k := rfl
            rw [← hat.1, ← hat.2, hsq] at h2
            simp; omega
          rw [htz] at hts
          have HFD : Hid (∀ V, Since wr V → Calls Try.prog 30 #[.agg #[.slice B m kb], .int .i64 (z : Int), .int .i64 (b : Int)] V fun e w' => e = .returned (.agg #[.int .i64 (b : Int), .int .i64 (z : Int), .int .i64 hq, .int .i64 kq]) ∧ Below V.heap.size V w') := fun V hV => by
            have h := find_any B L m kb HM.out HAP.out.tab (z : Int) (b : Int) hz63 V (HLTr.out.below hV)
            rw [hhq, hkq] at h
            exact h
          have HWI0 : Hid (∀ V, Since wr V → Calls Try.prog 23 #[.agg #[.slice A n k, .int .i64 c], .int .i64 (y : Int), .int .i64 (z : Int)] V fun e w' => e = .returned (.bool false) ∧ Below V.heap.size V w') := fun V hV => by
            have h := within_any A T n k c (y : Int) (z : Int) HN.out HAP.out.good V (HXr.out.below hV)
            rw [hts] at h
            exact h
          have s0 : ∀ V, Since wr V → V.cell? ⟨h, 0, none⟩ = some (.slice B m kb) := fun V hV => (HKTr.out.below hV).c0
          have s1 : ∀ V, Since wr V → V.cell? ⟨bi, i, none⟩ = some (.int .i64 (z : Int)) := fun V hV => (hV.cell hbi).trans hci
          have HS1 := Lib.hid s1
          clear hci hz ht htx htb hte hmt htz hz63 hhq hkq hat htq hts hbi
          go_upto_region 16 with fail
          go_cut [19] from 67 to 94 (fun pv wc => ∃ h19 : Nat, pv = .pointer (some ⟨h19, 0, none⟩) ∧ Hid (LH wc h19 ⟨b, z, hq, kq⟩) ∧ Hid (Since wr wc))
          case first =>
            refine wp_region_since (by kernel_rfl) ?_
            have hS : Since wr (World.drew wr) := (Below.refl _ _).drew
            refine wpAnyH_take (i := 0) (oi := ⟨some 73, _, _, _, _, _⟩) (v := ?_) rfl (by kernel_rfl) (by kernel_rfl) (by kernel_rfl) (fun _ _ _ h => h) (Or.inl ⟨by rfl, ?_⟩) hS ?_
            rotate_left
            · intro W hW; go_simp; with_reducible rfl
            try simp only [Act.put, List.setIfInBounds_toArray, List.set_cons_zero, List.set_cons_succ]
            refine wpAnyH_take (i := 1) (oi := ⟨some 74, _, _, _, _, _⟩) (v := ?_) rfl (by kernel_rfl) (by kernel_rfl) (by kernel_rfl) (fun _ _ _ h => h) (Or.inl ⟨by rfl, ?_⟩) hS ?_
            rotate_left
            · intro W hW; go_simp; with_reducible rfl
            try simp only [Act.put, List.setIfInBounds_toArray, List.set_cons_zero, List.set_cons_succ]
            refine wpAnyH_take (i := 2) (oi := ⟨some 75, _, _, _, _, _⟩) (v := ?_) rfl (by kernel_rfl) (by kernel_rfl) (by kernel_rfl) (fun _ _ _ h => h) (Or.inl ⟨by rfl, ?_⟩) hS ?_
            rotate_left
            · intro W hW; go_simp; with_reducible rfl
            try simp only [Act.put, List.setIfInBounds_toArray, List.set_cons_zero, List.set_cons_succ]
            refine wpAnyH_take (i := 3) (oi := ⟨some 76, _, _, _, _, _⟩) (v := ?_) rfl (by kernel_rfl) (by kernel_rfl) (by kernel_rfl) (fun _ _ _ h => h) (Or.inl ⟨by rfl, ?_⟩) hS ?_
            rotate_left
            · intro W hW; go_simp; with_reducible rfl
            try simp only [Act.put, List.setIfInBounds_toArray, List.set_cons_zero, List.set_cons_succ]
            refine wpAnyH_take (i := 4) (oi := ⟨some 77, _, _, _, _, _⟩) (v := ?_) rfl (by kernel_rfl) (by kernel_rfl) (by kernel_rfl) (fun _ _ _ h => h) (Or.inl ⟨by rfl, ?_⟩) hS ?_
            rotate_left
            · intro W hW; go_simp; with_reducible rfl
            try simp only [Act.put, List.setIfInBounds_toArray, List.set_cons_zero, List.set_cons_succ]
            refine wpAnyH_take (i := 5) (oi := ⟨some 78, _, _, _, _, _⟩) (v := ?_) rfl (by kernel_rfl) (by kernel_rfl) (by kernel_rfl) (fun _ _ _ h => h) (Or.inl ⟨by rfl, ?_⟩) hS ?_
            rotate_left
            · intro W hW; go_simp; with_reducible rfl
            try simp only [Act.put, List.setIfInBounds_toArray, List.set_cons_zero, List.set_cons_succ]
            refine wpAnyH_ready (rs := [6, 7]) (by kernel_rfl) (by simp) ?_
            refine AllReadyH.cons (o := ⟨some 79, _, _, _, _, _⟩) rfl (fun Kr hKr => ?_) (AllReadyH.cons (o := ⟨some 19, _, _, _, _, _⟩) rfl (fun Kr hKr => ?_) AllReadyH.nil)
            · skip
              -- operation 6: a call
              go_simp
              refine (HFD.out _ hS).mono ?_
              rintro e w6 ⟨rfl, hb6⟩
              show Kr _ _
              refine hKr.out _ _ ?_ (fun _ => ?_)
              · exact since_trans hS hb6
              clear hKr Kr
              replace hS : Since wr w6 := since_trans hS hb6
              try simp only [Act.put, List.setIfInBounds_toArray, List.set_cons_zero, List.set_cons_succ]
              refine wpAnyH_ready (rs := [7]) (by kernel_rfl) (by simp) ?_
              refine AllReadyH.cons (o := ⟨some 19, _, _, _, _, _⟩) rfl (fun Kr hKr => ?_) AllReadyH.nil
              -- operation 7: a step
              refine wp_alloc_lock rfl ?_
              intro w20 g20 hg20 hk20 hb20
              have hG20 : wr.heap.size ≤ g20 := Nat.le_trans (Below.size hS) hg20
              show Kr _ _
              refine hKr.out _ _ ?_ (fun _ => ?_)
              · exact since_trans hS hb20
              clear hKr Kr
              replace hS : Since wr w20 := since_trans hS hb20
              try simp only [Act.put, List.setIfInBounds_toArray, List.set_cons_zero, List.set_cons_succ]
              refine wpAnyH_ready (rs := [8]) (by kernel_rfl) (by simp) ?_
              refine AllReadyH.cons (o := ⟨none, _, _, _, _, _⟩) rfl (fun Kr hKr => ?_) AllReadyH.nil
              -- operation 8: a step
              refine wp_store_lock (z := ⟨b, z, hq, kq⟩) (.tmp 19) (.tmp 79) rfl rfl rfl (by first | exact hk20 | exact LH.below hk20 hb6) ?_
              intro w7 hk7 hg7
              show Kr _ _
              refine hKr.out _ _ ?_ (fun _ => ?_)
              · exact Below.grown hS hg7 hS.size (fun q e => by injection e with e; omega)
              clear hKr Kr
              replace hS : Since wr w7 := Below.grown hS hg7 hS.size (fun q e => by injection e with e; omega)
              try simp only [Act.put, List.setIfInBounds_toArray, List.set_cons_zero, List.set_cons_succ]
              refine wpAnyH_done (by kernel_rfl) ?_ _
              go_wp2_with fail
              go_meet
              case rel => exact ⟨g20, rfl, hk7, hS⟩
            · skip
              -- operation 7: a step
              refine wp_alloc_lock rfl ?_
              intro w20 g20 hg20 hk20 hb20
              have hG20 : wr.heap.size ≤ g20 := Nat.le_trans (Below.size hS) hg20
              show Kr _ _
              refine hKr.out _ _ ?_ (fun _ => ?_)
              · exact since_trans hS hb20
              clear hKr Kr
              replace hS : Since wr w20 := since_trans hS hb20
              try simp only [Act.put, List.setIfInBounds_toArray, List.set_cons_zero, List.set_cons_succ]
              refine wpAnyH_ready (rs := [6]) (by kernel_rfl) (by simp) ?_
              refine AllReadyH.cons (o := ⟨some 79, _, _, _, _, _⟩) rfl (fun Kr hKr => ?_) AllReadyH.nil
              -- operation 6: a call
              go_simp
              refine (HFD.out _ hS).mono ?_
              rintro e w6 ⟨rfl, hb6⟩
              show Kr _ _
              refine hKr.out _ _ ?_ (fun _ => ?_)
              · exact since_trans hS hb6
              clear hKr Kr
              replace hS : Since wr w6 := since_trans hS hb6
              try simp only [Act.put, List.setIfInBounds_toArray, List.set_cons_zero, List.set_cons_succ]
              refine wpAnyH_ready (rs := [8]) (by kernel_rfl) (by simp) ?_
              refine AllReadyH.cons (o := ⟨none, _, _, _, _, _⟩) rfl (fun Kr hKr => ?_) AllReadyH.nil
              -- operation 8: a step
              refine wp_store_lock (z := ⟨b, z, hq, kq⟩) (.tmp 19) (.tmp 79) rfl rfl rfl (by first | exact hk20 | exact LH.below hk20 hb6) ?_
              intro w7 hk7 hg7
              show Kr _ _
              refine hKr.out _ _ ?_ (fun _ => ?_)
              · exact Below.grown hS hg7 hS.size (fun q e => by injection e with e; omega)
              clear hKr Kr
              replace hS : Since wr w7 := Below.grown hS hg7 hS.size (fun q e => by injection e with e; omega)
              try simp only [Act.put, List.setIfInBounds_toArray, List.set_cons_zero, List.set_cons_succ]
              refine wpAnyH_done (by kernel_rfl) ?_ _
              go_wp2_with fail
              go_meet
              case rel => exact ⟨g20, rfl, hk7, hS⟩
          obtain ⟨h19, rfl, HH, HS⟩ := hcut
          obtain ⟨wv, hwv⟩ : ∃ wv, wv = wc := ⟨_, rfl⟩
          subst hwv
          have HWI : Hid (∀ V, Since wv V → Calls Try.prog 23 #[.agg #[.slice A n k, .int .i64 c], .int .i64 (y : Int), .int .i64 (z : Int)] V fun e w' => e = .returned (.bool false) ∧ Below V.heap.size V w') := fun V hV => HWI0.out V (since_trans HS.out hV)
          have r0 : ∀ V, Since wv V → V.cell? ⟨h19, 2, none⟩ = some (.int .i64 hq) := fun V hV => (HH.out.below hV).c2
          have r1 : ∀ V, Since wv V → V.cell? ⟨h19, 3, none⟩ = some (.int .i64 kq) := fun V hV => (HH.out.below hV).c3
          have r2 : ∀ V, Since wv V → V.cell? ⟨bi, i, none⟩ = some (.int .i64 (z : Int)) := fun V hV => HS1.out V (since_trans HS.out hV)
          have r3 : ∀ V, Since wv V → V.cell? ⟨g, 0, none⟩ = some (.slice A n k) := fun V hV => (HUr.out.below (since_trans HS.out hV)).c0
          have r4 : ∀ V, Since wv V → V.cell? ⟨g, 1, none⟩ = some (.int .i64 c) := fun V hV => (HUr.out.below (since_trans HS.out hV)).c1
          clear s0 s1
          go_upto_region 17 with fail
          refine wp_region_since (by kernel_rfl) ?_
          have hS : Since wv (World.drew wv) := (Below.refl _ _).drew
          refine wpAnyH_take (i := 0) (oi := ⟨some 80, _, _, _, _, _⟩) (v := ?_) rfl (by kernel_rfl) (by kernel_rfl) (by kernel_rfl) (fun _ _ _ h => h) (Or.inl ⟨by rfl, ?_⟩) hS ?_
          rotate_left
          · intro W hW; go_simp; with_reducible rfl
          try simp only [Act.put, List.setIfInBounds_toArray, List.set_cons_zero, List.set_cons_succ]
          refine wpAnyH_take (i := 1) (oi := ⟨some 81, _, _, _, _, _⟩) (v := ?_) rfl (by kernel_rfl) (by kernel_rfl) (by kernel_rfl) (fun _ _ _ h => h) (Or.inl ⟨by rfl, ?_⟩) hS ?_
          rotate_left
          · intro W hW; go_simp; with_reducible rfl
          try simp only [Act.put, List.setIfInBounds_toArray, List.set_cons_zero, List.set_cons_succ]
          refine wpAnyH_take (i := 2) (oi := ⟨some 82, _, _, _, _, _⟩) (v := ?_) rfl (by kernel_rfl) (by kernel_rfl) (by kernel_rfl) (fun _ _ _ h => h) (Or.inl ⟨by rfl, ?_⟩) hS ?_
          rotate_left
          · intro W hW; go_simp; with_reducible rfl
          try simp only [Act.put, List.setIfInBounds_toArray, List.set_cons_zero, List.set_cons_succ]
          refine wpAnyH_take (i := 3) (oi := ⟨some 83, _, _, _, _, _⟩) (v := ?_) rfl (by kernel_rfl) (by kernel_rfl) (by kernel_rfl) (fun _ _ _ h => h) (Or.inl ⟨by rfl, ?_⟩) hS ?_
          rotate_left
          · intro W hW; go_simp; with_reducible rfl
          try simp only [Act.put, List.setIfInBounds_toArray, List.set_cons_zero, List.set_cons_succ]
          refine wpAnyH_take (i := 4) (oi := ⟨some 84, _, _, _, _, _⟩) (v := ?_) rfl (by kernel_rfl) (by kernel_rfl) (by kernel_rfl) (fun _ _ _ h => h) (Or.inl ⟨by rfl, ?_⟩) hS ?_
          rotate_left
          · intro W hW; go_simp; with_reducible rfl
          try simp only [Act.put, List.setIfInBounds_toArray, List.set_cons_zero, List.set_cons_succ]
          refine wpAnyH_take (i := 5) (oi := ⟨some 85, _, _, _, _, _⟩) (v := ?_) rfl (by kernel_rfl) (by kernel_rfl) (by kernel_rfl) (fun _ _ _ h => h) (Or.inl ⟨by rfl, ?_⟩) hS ?_
          rotate_left
          · intro W hW; go_simp; with_reducible rfl
          try simp only [Act.put, List.setIfInBounds_toArray, List.set_cons_zero, List.set_cons_succ]
          refine wpAnyH_take (i := 6) (oi := ⟨some 86, _, _, _, _, _⟩) (v := ?_) rfl (by kernel_rfl) (by kernel_rfl) (by kernel_rfl) (fun _ _ _ h => h) (Or.inl ⟨by rfl, ?_⟩) hS ?_
          rotate_left
          · intro W hW; go_simp; with_reducible rfl
          try simp only [Act.put, List.setIfInBounds_toArray, List.set_cons_zero, List.set_cons_succ]
          refine wpAnyH_take (i := 7) (oi := ⟨some 87, _, _, _, _, _⟩) (v := ?_) rfl (by kernel_rfl) (by kernel_rfl) (by kernel_rfl) (fun _ _ _ h => h) (Or.inl ⟨by rfl, ?_⟩) hS ?_
          rotate_left
          · intro W hW; go_simp; with_reducible rfl
          try simp only [Act.put, List.setIfInBounds_toArray, List.set_cons_zero, List.set_cons_succ]
          refine wpAnyH_take (i := 8) (oi := ⟨some 88, _, _, _, _, _⟩) (v := ?_) rfl (by kernel_rfl) (by kernel_rfl) (by kernel_rfl) (fun _ _ _ h => h) (Or.inl ⟨by rfl, ?_⟩) hS ?_
          rotate_left
          · intro W hW; go_simp; with_reducible rfl
          try simp only [Act.put, List.setIfInBounds_toArray, List.set_cons_zero, List.set_cons_succ]
          refine wpAnyH_take (i := 9) (oi := ⟨some 89, _, _, _, _, _⟩) (v := ?_) rfl (by kernel_rfl) (by kernel_rfl) (by kernel_rfl) (fun _ _ _ h => h) (Or.inl ⟨by rfl, ?_⟩) hS ?_
          rotate_left
          · intro W hW; go_simp; with_reducible rfl
          try simp only [Act.put, List.setIfInBounds_toArray, List.set_cons_zero, List.set_cons_succ]
          refine wpAnyH_take (i := 10) (oi := ⟨some 90, _, _, _, _, _⟩) (v := ?_) rfl (by kernel_rfl) (by kernel_rfl) (by kernel_rfl) (fun _ _ _ h => h) (Or.inl ⟨by rfl, ?_⟩) hS ?_
          rotate_left
          · intro W hW; go_simp; with_reducible rfl
          try simp only [Act.put, List.setIfInBounds_toArray, List.set_cons_zero, List.set_cons_succ]
          refine wpAnyH_take (i := 11) (oi := ⟨some 91, _, _, _, _, _⟩) (v := ?_) rfl (by kernel_rfl) (by kernel_rfl) (by kernel_rfl) (fun _ _ _ h => h) (Or.inl ⟨by rfl, ?_⟩) hS ?_
          rotate_left
          · intro W hW; go_simp; with_reducible rfl
          try simp only [Act.put, List.setIfInBounds_toArray, List.set_cons_zero, List.set_cons_succ]
          refine wpAnyH_take (i := 12) (oi := ⟨some 92, _, _, _, _, _⟩) (v := ?_) rfl (by kernel_rfl) (by kernel_rfl) (by kernel_rfl) (fun _ _ _ h => h) (Or.inl ⟨by rfl, ?_⟩) hS ?_
          rotate_left
          · intro W hW; go_simp; with_reducible rfl
          try simp only [Act.put, List.setIfInBounds_toArray, List.set_cons_zero, List.set_cons_succ]
          refine wpAnyH_ready (rs := [13]) (by kernel_rfl) (by simp) ?_
          refine AllReadyH.cons (o := ⟨some 93, _, _, _, _, _⟩) rfl (fun Kr hKr => ?_) AllReadyH.nil
          -- operation 13: a call
          go_simp
          refine (HWI.out _ hS).mono ?_
          rintro e w8 ⟨rfl, hb8⟩
          show Kr _ _
          refine hKr.out _ _ ?_ (fun _ => ?_)
          · exact since_trans hS hb8
          clear hKr Kr
          replace hS : Since wv w8 := since_trans hS hb8
          try simp only [Act.put, List.setIfInBounds_toArray, List.set_cons_zero, List.set_cons_succ]
          refine wpAnyH_take (i := 14) (oi := ⟨some 94, _, _, _, _, _⟩) (v := ?_) rfl (by kernel_rfl) (by kernel_rfl) (by kernel_rfl) (fun _ _ _ h => h) (Or.inl ⟨by rfl, ?_⟩) hS ?_
          rotate_left
          · intro W hW; go_simp; with_reducible rfl
          try simp only [Act.put, List.setIfInBounds_toArray, List.set_cons_zero, List.set_cons_succ]
          refine wpAnyH_done (by kernel_rfl) ?_ _
          have HS9 := Lib.hid (since_trans HS.out hS)
          clear hS r0 r1 r2 r3 r4
          go_wp2
          go_roundw
          case rel => exact ⟨i + 1, by simp, by omega, HR.out.trans (Below.mono HS9.out HR.out.size)⟩
          case measure => simp [intOf]; omega
        · obtain rfl : i = ni := by omega
          have q0 := (HL7.out.below HR.out).t.c0
          have hm5 := HLE.out
          subst hm5
          have H9 := Lib.hid (HBW.out.trans (HR.out.mono HBW.out.size))
          go_wp2
          go_ret
          exact ⟨rfl, H9.out⟩
  · -- it is not Live
    have hE7 := HEV.out.2 hs1
    have e9 : (E == 9) = false := by rw [hE7]; rfl
    have e0 : (E != 0) = true := by rw [hE7]; rfl
    have e7 : (E == 7) = true := by rw [hE7]; rfl
    obtain ⟨bx, hAe, hbx, _, px, _, _⟩ := HX7.out.get (i := y) HYT.out
    subst hAe
    obtain ⟨st, hst⟩ : ∃ st, (T.tx y).s = st := ⟨_, rfl⟩
    rw [hst] at px hs1
    have hsb : (st != 1) = true := by simpa using hs1
    have u0 := HU7.out.c0
    clear hE7 hs1 hbx
    go_wp2
    go_ret
    exact ⟨rfl, HBW.out⟩
end Go.Proofs.Ytohnfjneghbceaa
