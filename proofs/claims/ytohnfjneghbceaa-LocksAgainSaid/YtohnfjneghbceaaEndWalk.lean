/-
  LocksEnd's walk.
-/
import Derived.Test.YtohnfjneghbceaaApartWalk
namespace Go.Proofs.Ytohnfjneghbceaa
set_option maxRecDepth 100000
set_option linter.unusedVariables false
set_option linter.unusedSimpArgs false
open Go.RowKit Go.Shelf

theorem of_free (L : List Lk) (x : Int) : ofL (freeL L fun z => decide (z = x)) x = [] := by
  unfold ofL freeL
  rw [List.filter_filter, List.filter_eq_nil_iff]
  intro y _
  simp
theorem of_pass {L : List Lk} (h : LG L) {x p : Int} (hx : 0 ≤ x ∧ x ≤ 63) (hp : p ≤ 63) (hne : p ≠ x) : ofL (passL L x p) x = [] := by
  unfold ofL
  rw [List.filter_eq_nil_iff]
  intro y hy
  rcases pass_mem h hx hp hne hy with ⟨_, h1⟩ | ⟨_, h1, _⟩
  · simpa using h1
  · simp [h1, hne]

theorem IdAt.one (w : World) (y : Nat) : IdAt (w.alloc (.cells #[.int .i64 (y : Int)] 3)) (some ⟨w.heap.size, 0, none⟩) [y] := by
  refine .inr ⟨w.heap.size, rfl, by simp, fun j z hz => ?_⟩
  match j, hz with
  | 0, hz =>
    injection hz with hz
    subst hz
    exact (cell_new w #[.int .i64 (y : Int)] 3 0).trans rfl
  | j + 1, hz => simp at hz

theorem run_field_h (a b c d : Int) (W : World) : (Instr.field 53 (.agg #[.int .i64 a, .int .i64 b, .int .i64 c, .int .i64 d]) 2).run Try.prog W = .ok (.int .i64 c) W := by
  simp only [Instr.field, Sem.run_bind, run_underlying Try.underlying53, Result.andThen_ok]
  go_simp
  simp [asAgg, Result.andThen]

theorem wp_alloc_lock {o : Oper} {a : Act} {W : World} {K : Act → World → Prop} {Q : Exit → Act → World → Prop} (ho : o.op = .alloc 53)
    (h : ∀ w' g, W.heap.size ≤ g → LH w' g ⟨0, 0, 0, 0⟩ → Below W.heap.size W w' → K (a.put o.dst (.pointer (some ⟨g, 0, none⟩))) w') : o.wp Try.prog a W K Q := by
  unfold Oper.wp execOp
  simp only [ho]
  go_simp
  exact h _ _ (Nat.le_refl _) (LH.new W ⟨0, 0, 0, 0⟩) (below_new W _)
theorem wp_store_lock {o : Oper} {a : Act} {W : World} {g : Nat} {y z : Lk} {K : Act → World → Prop} {Q : Exit → Act → World → Prop} (x u : Operand) (ho : o.op = .store 53 x u) (hx : a.eval x = .pointer (some ⟨g, 0, none⟩)) (hy : a.eval u = .agg #[.int .i64 z.b, .int .i64 z.x, .int .i64 z.h, .int .i64 z.k])
    (hb : LH W g y) (h : ∀ w', LH w' g z → W.grownBy w' (some g) → K (a.put o.dst undef) w') : o.wp Try.prog a W K Q :=
  wp_store_row 53 x u ho g _ hx hy 53 _ hb lock_info rfl (by simp [Value.oneCell']) (h _ (setRow_heap _ _ _ _ _ _ hb) (setRow_grown _ _ _))

set_option maxHeartbeats 4000000 in
theorem end_walk (a : Option Addr) (len cap : Nat) (F G P R : Nat → Int) (id : Int) (w : World) (hacts : Acts w a len F G P R) :
    Calls Try.prog 9 #[.slice a len cap, .int .i64 id] w fun e w' => e = .returned (.bool true) ∧ Below w.heap.size w w' := by
  have HACT := Lib.hid hacts
  clear hacts
  go_enter Try.func9, Try.ntmps9
  go_wp2_with fail
  refine (awake_any w).mono ?_
  rintro e w1 ⟨rfl, hb1⟩
  have HB1 := Lib.hid hb1
  have HAC1 := Lib.hid (HACT.out.below hb1)
  clear hb1
  rcases Nat.lt_or_ge 120 len with hbig | hlen
  · have hgt : decide (120 < len) = true := decide_eq_true hbig
    have hgt2 : decide ((120 : Int) < (len : Int)) = true := decide_eq_true (by omega)
    go_wp2
    go_ret
    exact ⟨rfl, HB1.out⟩
  have hgt : decide (120 < len) = false := decide_eq_false (by omega)
  have hgt2 : decide ((120 : Int) < (len : Int)) = false := decide_eq_false (by omega)
  go_wp2_with fail
  refine (grown_any a len cap F G P R (by omega) w1 HAC1.out).mono ?_
  rintro e w2 ⟨A, k, n, c, T, B, m, kb, L, rfl, hN, hC, hcb, hap, hx, hm, hmk, hsp, hl, hb2⟩
  have HN := Lib.hid hN
  have HAP := Lib.hid hap
  have HX2 := Lib.hid hx
  have HM := Lib.hid hm
  have HMK := Lib.hid hmk
  have HSP := Lib.hid hsp
  have HL2 := Lib.hid hl
  have HB2 := Lib.hid (HB1.out.trans (hb2.mono HB1.out.size))
  have hm16 : m ≤ 16384 := by rw [← hm]; exact hap.tab.len
  have hn64 : n ≤ 64 := by rw [← hN]; exact hap.good.n
  clear hN hC hap hx hm hmk hsp hl hb2 HACT HAC1 HB1 hgt hgt2
  obtain ⟨g, hg⟩ : ∃ g, g = w2.heap.size := ⟨_, rfl⟩
  obtain ⟨h, hh⟩ : ∃ h, h = w2.heap.size + 1 := ⟨_, rfl⟩
  go_upto_region 5 with (first
    | (refine wpList_store_tree rfl (.tmp 6) (.tmp 23) rfl rfl rfl ((TB.new w2 none 0 0 0).below (below_new _ (.cells #[.slice none 0 0] 49))) ?_; intro w3 hu hg3; have HU3 := Lib.hid hu; have HG3 := Lib.hid hg3; have HK3 := Lib.hid (KB.far (by have h9 := KB.new (w2.alloc (.cells #[.slice none 0 0, .int .i64 0] 26)) none 0 0; rw [World.size_alloc] at h9; exact h9) hg3 (fun e => by injection e with e; omega)); clear hu hg3)
    | (refine wpList_store_table rfl (.tmp 7) (.tmp 24) rfl rfl rfl HK3.out ?_; intro w4 hu hg4; have HK4 := Lib.hid hu; have HG4 := Lib.hid hg4; clear hu hg4)
    | fail)
  have t3 : Below w2.heap.size w2 w4 := by
    have h1 : Below w2.heap.size w2 w3 := ((below_new w2 (.cells #[.slice none 0 0, .int .i64 0] 26)).alloc (by simp) (.cells #[.slice none 0 0] 49)).grown HG3.out (by simp; omega) (fun q e => by injection e with e; omega)
    exact h1.grown HG4.out h1.size (fun q e => by injection e with e; omega)
  rw [← hh, ← hg]
  have HU4 := Lib.hid (show TB w4 g A n k c by rw [hg]; exact HU3.out.far HG4.out (fun e => by injection e with e; omega))
  have HKB := Lib.hid (show KB w4 h B m kb by rw [hh]; exact HK4.out)
  have HX4 := Lib.hid (HX2.out.below t3)
  have HL4 := Lib.hid (HL2.out.below t3)
  have HB4 := Lib.hid (HB2.out.trans (t3.mono HB2.out.size))
  clear t3 hg hh HU3 HG3 HK3 HK4 HG4 HX2 HL2 HB2
  have u0 := HU4.out.c0
  rcases Nat.eq_zero_or_pos n with hn0 | hn0
  · have hne : (n == 0) = true := by simpa using hn0
    have hne2 : ((n : Int) == 0) = true := by simpa using hn0
    go_wp2
    go_ret
    exact ⟨rfl, HB4.out⟩
  have hne : (n == 0) = false := by simp; omega
  have hne2 : ((n : Int) == 0) = false := by simp; omega
  obtain ⟨x, hx, hlow⟩ := low id 65535 16 (by decide) (by omega)
  have hx2 : x < 65536 := hx
  obtain ⟨y, hy⟩ : ∃ y : Nat, y = x % n := ⟨_, rfl⟩
  have hyn : y < n := by rw [hy]; exact Nat.mod_lt _ hn0
  have hmod : (x : Int) % (n : Int) = (y : Int) := by rw [hy]; simp
  have hmod2 : Int.tmod (x : Int) (n : Int) = (y : Int) := by rw [Int.tmod_eq_emod_of_nonneg (by omega)]; exact hmod
  have hw3 : IntKind.i64.wrap (y : Int) = (y : Int) := by simp [IntKind.wrap, IntKind.bits, IntKind.signed]; omega
  have hnz2 : ¬ (n : Int) = 0 := by omega
  have hnz3 : ¬ n = 0 := by omega
  clear hx hy hx2
  have c2 := HKB.out.c0
  obtain ⟨p, hp⟩ : ∃ p, (T.tx y).p = p := ⟨_, rfl⟩
  have hpar := HAP.out.good.par y (by rw [HN.out]; exact hyn)
  rw [hp] at hpar
  have HY63 := Lib.hid (show y ≤ 63 by omega)
  have HPY := Lib.hid (show -1 ≤ p ∧ p < (y : Int) from hpar)
  have HP63 := Lib.hid (show p ≤ 63 by omega)
  have HOF := Lib.hid (of_any B L m kb (y : Int) HM.out HAP.out.tab w4 HL4.out)
  have HYN := Lib.hid hyn
  have HPP := Lib.hid hp
  clear hpar hp
  go_upto_region 9 with (first
    | (go_at_call 28; refine HOF.out.mono ?_; rintro e w5 ⟨v5, rfl, ho5, hb5⟩; have HO5 := Lib.hid ho5; have HB5 := Lib.hid hb5; clear ho5 hb5 u0 c2)
    | fail)
  clear hlow hmod hmod2 hw3 hnz2 hnz3 hne hne2
  obtain ⟨Am, km, hv5, hmm, hlm, hsm⟩ := HO5.out.form
  subst hv5
  obtain ⟨O, hO⟩ : ∃ O, O = ofL L (y : Int) := ⟨_, rfl⟩
  obtain ⟨mo, hmo⟩ : ∃ mo, mo = O.length := ⟨_, rfl⟩
  rw [← hO, ← hmo] at HO5 ⊢
  rw [← hO] at hlm
  have HLO := Lib.hid hlm
  have HOE := Lib.hid hO
  have HMO := Lib.hid hmo
  have HFL := Lib.hid (show (freeL L fun z => decide (z = (y : Int))).length + mo = m from by rw [hmo, hO, ← HM.out]; exact free_len L (y : Int))
  have hmo16 : mo ≤ m := by have := HFL.out; omega
  clear hmm hlm hsm hO hmo
  have HX5 := Lib.hid (HX4.out.below HB5.out)
  have HL5 := Lib.hid (HL4.out.below HB5.out)
  have HU5 := Lib.hid (HU4.out.below HB5.out)
  have HK5 := Lib.hid (HKB.out.below HB5.out)
  have HBB := Lib.hid (HB4.out.trans (HB5.out.mono HB4.out.size))
  clear HX4 HL4 HU4 HKB HB4 HB5 HO5
  have u0 := HU5.out.c0
  have c2 := HK5.out.c0
  obtain ⟨bx, hAe, hbx, pp, _, _, _⟩ := HX5.out.get (i := y) (by rw [HN.out]; exact hyn)
  subst hAe
  rw [HPP.out] at pp
  have HPS := Lib.hid (pass_any B L m kb HM.out HSP.out HAP.out.tab y p HY63.out HP63.out w5 HL5.out)
  have HQ := Lib.hid (show LG (passL L (y : Int) p) from HAP.out.tab.passL _ HP63.out)
  have HOP := Lib.hid (show ofL (passL L (y : Int) p) (y : Int) = [] from of_pass HAP.out.tab (by have := HY63.out; omega) HP63.out (by have := HPY.out; omega))
  clear hbx
  go_upto_region 11 with (first
    | (go_at_call 29; refine HPS.out.mono ?_; rintro e w6 ⟨B6, m6, kb6, rfl, ho6, hb6⟩; have HO6 := Lib.hid ho6; have HB6 := Lib.hid hb6; clear ho6 hb6)
    | (refine wpList_store_table rfl (.tmp 11) (.tmp 48) rfl rfl rfl (KB.new w6 none 0 0) ?_; intro w7 hk7 hg7; have HK7 := Lib.hid hk7; have HG7 := Lib.hid hg7; clear hk7 hg7)
    | fail)
  obtain ⟨g7, hg7⟩ : ∃ g7, g7 = w6.heap.size := ⟨_, rfl⟩
  rw [← hg7]
  have t7 : Below w6.heap.size w6 w7 := (below_new w6 _).grown HG7.out (by simp) (fun k e => by injection e with e; omega)
  have b57 : Below w5.heap.size w5 w7 := HB6.out.trans (t7.mono HB6.out.size)
  have HKU := Lib.hid (show KB w7 g7 B6 m6 kb6 by rw [hg7]; exact HK7.out)
  have HPT := Lib.hid (HO6.out.below t7).parts
  have HX7 := Lib.hid (HX5.out.below b57)
  have HL7 := Lib.hid (HL5.out.below b57)
  have HLO7 := Lib.hid (HLO.out.below b57)
  have HU7 := Lib.hid (HU5.out.below b57)
  have HKT := Lib.hid (HK5.out.below b57)
  have HB7 := Lib.hid (HBB.out.trans (b57.mono HBB.out.size))
  clear hg7 t7 b57 u0 c2 pp HK7 HG7 HO6 HB6 HX5 HL5 HLO HU5 HK5 HBB HPS HOF
  have k7 := HKU.out.c0
  have HOF := Lib.hid (of_any B6 (passL L (y : Int) p) m6 kb6 (y : Int) HPT.out.1 HQ.out w7 HPT.out.2.2.2)
  rw [HOP.out] at HOF
  go_upto_region 13 with (first
    | (go_at_call 28; refine HOF.out.mono ?_; rintro e w8 ⟨v8, rfl, ho8, hb8⟩; obtain ⟨A8, k8, rfl, _, _, _⟩ := ho8.form; have HB8 := Lib.hid hb8; clear ho8 hb8 k7)
    | fail)
  have HKU8 := Lib.hid (HKU.out.below HB8.out)
  have HLU8 := Lib.hid (HPT.out.2.2.2.below HB8.out)
  have HL8 := Lib.hid (HL7.out.below HB8.out)
  have HLO8 := Lib.hid (HLO7.out.below HB8.out)
  have HKT8 := Lib.hid (HKT.out.below HB8.out)
  have HBB := Lib.hid (HB7.out.trans (HB8.out.mono HB7.out.size))
  clear HKU HX7 HL7 HLO7 HU7 HKT HB7 HB8 HOF
  go_wp2_with fail
  go_loopw [12] (fun iv wr => ∃ i : Nat, iv = .int .i64 (i : Int) ∧ i ≤ mo ∧ (0 < i → 0 ≤ p) ∧ Hid (Below w8.heap.size w8 wr)) (fun iv _ => mo - (intOf iv).toNat)
  case atStart => exact ⟨0, rfl, Nat.zero_le _, fun h => absurd h (Nat.lt_irrefl 0), Below.refl _ _⟩
  case round =>
    obtain ⟨i, rfl, hi, hip, HR⟩ := hrel
    have HKUr := Lib.hid (HKU8.out.below HR.out)
    have HLUr := Lib.hid (HLU8.out.below HR.out)
    have HLr := Lib.hid (HL8.out.below HR.out)
    have HLOr := Lib.hid (HLO8.out.below HR.out)
    have HKTr := Lib.hid (HKT8.out.below HR.out)
    by_cases hgo : i < mo ∧ 0 ≤ p
    · obtain ⟨hlt, hp0⟩ := hgo
      have hpb : decide (0 ≤ p) = true := decide_eq_true hp0
      have hpb2 : decide (p ≥ 0) = true := decide_eq_true hp0
      obtain ⟨z, hz⟩ : ∃ z, O[i]? = some z := ⟨O[i]'(by rw [← HMO.out]; exact hlt), List.getElem?_eq_getElem (by rw [← HMO.out]; exact hlt)⟩
      have hzL : z ∈ L ∧ z.x = (y : Int) := ofL_mem.1 (by rw [← HOE.out]; exact List.mem_of_getElem? hz)
      have hmz := HAP.out.tab.may z hzL.1
      obtain ⟨bm, om, rfl, hbm, hc⟩ := HLOr.out.get hz
      obtain ⟨hq, hhq⟩ : ∃ q, hof L (z.b * 64 + p) = q := ⟨_, rfl⟩
      obtain ⟨kq, hkq⟩ : ∃ q, kof (passL L (y : Int) p) (z.b * 64 + p) = q := ⟨_, rfl⟩
      obtain ⟨kt, hkt⟩ : ∃ q, kof L (z.b * 64 + p) = q := ⟨_, rfl⟩
      obtain ⟨sz, hsz⟩ : ∃ s, max z.h z.k = s := ⟨_, rfl⟩
      have hps := hof_pass HAP.out.tab (x := (y : Int)) (p := p) (by have := HY63.out; omega) ⟨hp0, HP63.out⟩ (by have := HPY.out; omega) z.b hmz.b.1
      have hat := HAP.out.tab.at_ hzL.1
      have hzq : z.q = z.b * 64 + (y : Int) := by unfold Lk.q; rw [hzL.2]
      rw [hzq] at hat
      have hle : decide (kq < sz) = false := decide_eq_false (by rw [← hkq, hps.2, hat.1, hat.2, ← hsz]; omega)
      have HFD : Hid (∀ V, Since wr V → Calls Try.prog 30 #[.agg #[.slice B6 m6 kb6], .int .i64 p, .int .i64 z.b] V fun e w' => e = .returned (.agg #[.int .i64 z.b, .int .i64 p, .int .i64 hq, .int .i64 kq]) ∧ Below V.heap.size V w') := fun V hV => by
        have h := find_any B6 (passL L (y : Int) p) m6 kb6 HPT.out.1 HQ.out p z.b ⟨hp0, HP63.out⟩ V (HLUr.out.below hV)
        rw [hps.1, hhq, hkq] at h
        exact h
      have HFT0 : Hid (∀ V, Since wr V → Calls Try.prog 30 #[.agg #[.slice B m kb], .int .i64 p, .int .i64 z.b] V fun e w' => e = .returned (.agg #[.int .i64 z.b, .int .i64 p, .int .i64 hq, .int .i64 kt]) ∧ Below V.heap.size V w') := fun V hV => by
        have h := find_any B L m kb HM.out HAP.out.tab p z.b ⟨hp0, HP63.out⟩ V (HLr.out.below hV)
        rw [hhq, hkt] at h
        exact h
      have s0 : ∀ V, Since wr V → V.cell? ⟨g7, 0, none⟩ = some (.slice B6 m6 kb6) := fun V hV => (HKUr.out.below hV).c0
      have s1 : ∀ V, Since wr V → CellsAt V bm (om + i * 4) z := fun V hV => hc.turn (S := fun _ => False) (Turn.ofBelow hV) (fun h => h)
      have s2 : ∀ V, Since wr V → V.cell? ⟨bm, om + i * 4, none⟩ = some (.int .i64 z.b) := fun V hV => (s1 V hV).c0
      have HS1 := Lib.hid s1
      have hi16 : i ≤ 16384 := by omega
      have HHQ := Lib.hid hhq
      clear s1 hc hbm hz hzL hmz hps hat hzq hhq hkq hkt
      go_upto_region 16 with fail
      go_cut [13] from 54 to 99 (fun pv wc => ∃ h13 : Nat, pv = .pointer (some ⟨h13, 0, none⟩) ∧ Hid (LH wc h13 ⟨z.b, p, hq, kq⟩) ∧ Hid (Since wr wc))
      case first =>
        refine wp_region_since (by kernel_rfl) ?_
        have hS : Since wr (World.drew wr) := (Below.refl _ _).drew
        refine wpAnyH_take (i := 0) (oi := ⟨some 64, _, _, _, _, _⟩) (v := ?_) rfl (by kernel_rfl) (by kernel_rfl) (by kernel_rfl) (fun _ _ _ h => h) (Or.inl ⟨by rfl, ?_⟩) hS ?_
        rotate_left
        · intro W hW; go_simp; with_reducible rfl
        try simp only [Act.put, List.setIfInBounds_toArray, List.set_cons_zero, List.set_cons_succ]
        refine wpAnyH_take (i := 1) (oi := ⟨some 65, _, _, _, _, _⟩) (v := ?_) rfl (by kernel_rfl) (by kernel_rfl) (by kernel_rfl) (fun _ _ _ h => h) (Or.inl ⟨by rfl, ?_⟩) hS ?_
        rotate_left
        · intro W hW; go_simp; with_reducible rfl
        try simp only [Act.put, List.setIfInBounds_toArray, List.set_cons_zero, List.set_cons_succ]
        refine wpAnyH_take (i := 2) (oi := ⟨some 66, _, _, _, _, _⟩) (v := ?_) rfl (by kernel_rfl) (by kernel_rfl) (by kernel_rfl) (fun _ _ _ h => h) (Or.inl ⟨by rfl, ?_⟩) hS ?_
        rotate_left
        · intro W hW; go_simp; with_reducible rfl
        try simp only [Act.put, List.setIfInBounds_toArray, List.set_cons_zero, List.set_cons_succ]
        refine wpAnyH_take (i := 3) (oi := ⟨some 67, _, _, _, _, _⟩) (v := ?_) rfl (by kernel_rfl) (by kernel_rfl) (by kernel_rfl) (fun _ _ _ h => h) (Or.inl ⟨by rfl, ?_⟩) hS ?_
        rotate_left
        · intro W hW; go_simp; with_reducible rfl
        try simp only [Act.put, List.setIfInBounds_toArray, List.set_cons_zero, List.set_cons_succ]
        refine wpAnyH_take (i := 4) (oi := ⟨some 68, _, _, _, _, _⟩) (v := ?_) rfl (by kernel_rfl) (by kernel_rfl) (by kernel_rfl) (fun _ _ _ h => h) (Or.inl ⟨by rfl, ?_⟩) hS ?_
        rotate_left
        · intro W hW; go_simp; with_reducible rfl
        try simp only [Act.put, List.setIfInBounds_toArray, List.set_cons_zero, List.set_cons_succ]
        refine wpAnyH_take (i := 5) (oi := ⟨some 69, _, _, _, _, _⟩) (v := ?_) rfl (by kernel_rfl) (by kernel_rfl) (by kernel_rfl) (fun _ _ _ h => h) (Or.inl ⟨by rfl, ?_⟩) hS ?_
        rotate_left
        · intro W hW; go_simp; with_reducible rfl
        try simp only [Act.put, List.setIfInBounds_toArray, List.set_cons_zero, List.set_cons_succ]
        refine wpAnyH_take (i := 6) (oi := ⟨some 70, _, _, _, _, _⟩) (v := ?_) rfl (by kernel_rfl) (by kernel_rfl) (by kernel_rfl) (fun _ _ _ h => h) (Or.inl ⟨by rfl, ?_⟩) hS ?_
        rotate_left
        · intro W hW; go_simp; with_reducible rfl
        try simp only [Act.put, List.setIfInBounds_toArray, List.set_cons_zero, List.set_cons_succ]
        refine wpAnyH_ready (rs := [7, 8]) (by kernel_rfl) (by simp) ?_
        refine AllReadyH.cons (o := ⟨some 71, _, _, _, _, _⟩) rfl (fun Kr hKr => ?_) (AllReadyH.cons (o := ⟨some 13, _, _, _, _, _⟩) rfl (fun Kr hKr => ?_) AllReadyH.nil)
        · skip
          -- operation 7: a call
          go_simp
          refine (HFD.out _ hS).mono ?_
          rintro e w6 ⟨rfl, hb6⟩
          show Kr _ _
          refine hKr.out _ _ ?_ (fun _ => ?_)
          · exact since_trans hS hb6
          clear hKr Kr
          replace hS : Since wr w6 := since_trans hS hb6
          try simp only [Act.put, List.setIfInBounds_toArray, List.set_cons_zero, List.set_cons_succ]
          refine wpAnyH_ready (rs := [8]) (by kernel_rfl) (by simp) ?_
          refine AllReadyH.cons (o := ⟨some 13, _, _, _, _, _⟩) rfl (fun Kr hKr => ?_) AllReadyH.nil
          -- operation 8: a step
          refine wp_alloc_lock rfl ?_
          intro w20 g20 hg20 hk20 hb20
          have hG20 : wr.heap.size ≤ g20 := Nat.le_trans (Below.size hS) hg20
          show Kr _ _
          refine hKr.out _ _ ?_ (fun _ => ?_)
          · exact since_trans hS hb20
          clear hKr Kr
          replace hS : Since wr w20 := since_trans hS hb20
          try simp only [Act.put, List.setIfInBounds_toArray, List.set_cons_zero, List.set_cons_succ]
          refine wpAnyH_ready (rs := [9]) (by kernel_rfl) (by simp) ?_
          refine AllReadyH.cons (o := ⟨none, _, _, _, _, _⟩) rfl (fun Kr hKr => ?_) AllReadyH.nil
          -- operation 9: a step
          refine wp_store_lock (z := ⟨z.b, p, hq, kq⟩) (.tmp 13) (.tmp 71) rfl rfl rfl (by first | exact hk20 | exact LH.below hk20 hb6) ?_
          intro w7 hk7 hg7
          show Kr _ _
          refine hKr.out _ _ ?_ (fun _ => ?_)
          · exact Below.grown hS hg7 hS.size (fun q e => by injection e with e; omega)
          clear hKr Kr
          replace hS : Since wr w7 := Below.grown hS hg7 hS.size (fun q e => by injection e with e; omega)
          try simp only [Act.put, List.setIfInBounds_toArray, List.set_cons_zero, List.set_cons_succ]
          refine wpAnyH_done (by kernel_rfl) ?_ _
          go_wp2_with fail
          go_meet
          case rel => exact ⟨g20, rfl, hk7, hS⟩
        · skip
          -- operation 8: a step
          refine wp_alloc_lock rfl ?_
          intro w20 g20 hg20 hk20 hb20
          have hG20 : wr.heap.size ≤ g20 := Nat.le_trans (Below.size hS) hg20
          show Kr _ _
          refine hKr.out _ _ ?_ (fun _ => ?_)
          · exact since_trans hS hb20
          clear hKr Kr
          replace hS : Since wr w20 := since_trans hS hb20
          try simp only [Act.put, List.setIfInBounds_toArray, List.set_cons_zero, List.set_cons_succ]
          refine wpAnyH_ready (rs := [7]) (by kernel_rfl) (by simp) ?_
          refine AllReadyH.cons (o := ⟨some 71, _, _, _, _, _⟩) rfl (fun Kr hKr => ?_) AllReadyH.nil
          -- operation 7: a call
          go_simp
          refine (HFD.out _ hS).mono ?_
          rintro e w6 ⟨rfl, hb6⟩
          show Kr _ _
          refine hKr.out _ _ ?_ (fun _ => ?_)
          · exact since_trans hS hb6
          clear hKr Kr
          replace hS : Since wr w6 := since_trans hS hb6
          try simp only [Act.put, List.setIfInBounds_toArray, List.set_cons_zero, List.set_cons_succ]
          refine wpAnyH_ready (rs := [9]) (by kernel_rfl) (by simp) ?_
          refine AllReadyH.cons (o := ⟨none, _, _, _, _, _⟩) rfl (fun Kr hKr => ?_) AllReadyH.nil
          -- operation 9: a step
          refine wp_store_lock (z := ⟨z.b, p, hq, kq⟩) (.tmp 13) (.tmp 71) rfl rfl rfl (by first | exact hk20 | exact LH.below hk20 hb6) ?_
          intro w7 hk7 hg7
          show Kr _ _
          refine hKr.out _ _ ?_ (fun _ => ?_)
          · exact Below.grown hS hg7 hS.size (fun q e => by injection e with e; omega)
          clear hKr Kr
          replace hS : Since wr w7 := Below.grown hS hg7 hS.size (fun q e => by injection e with e; omega)
          try simp only [Act.put, List.setIfInBounds_toArray, List.set_cons_zero, List.set_cons_succ]
          refine wpAnyH_done (by kernel_rfl) ?_ _
          go_wp2_with fail
          go_meet
          case rel => exact ⟨g20, rfl, hk7, hS⟩
      obtain ⟨h13, rfl, HH, HS⟩ := hcut
      obtain ⟨wv, hwv⟩ : ∃ wv, wv = wc := ⟨_, rfl⟩
      subst hwv
      have HFT : Hid (∀ V, Since wv V → Calls Try.prog 30 #[.agg #[.slice B m kb], .int .i64 p, .int .i64 z.b] V fun e w' => e = .returned (.agg #[.int .i64 z.b, .int .i64 p, .int .i64 hq, .int .i64 kt]) ∧ Below V.heap.size V w') := fun V hV => HFT0.out V (since_trans HS.out hV)
      have r0 : ∀ V, Since wv V → V.cell? ⟨h13, 2, none⟩ = some (.int .i64 hq) := fun V hV => (HH.out.below hV).c2
      have r1 : ∀ V, Since wv V → V.cell? ⟨h13, 3, none⟩ = some (.int .i64 kq) := fun V hV => (HH.out.below hV).c3
      have r2 : ∀ V, Since wv V → V.cell? ⟨bm, om + i * 4, none⟩ = some (.int .i64 z.b) := fun V hV => (HS1.out V (since_trans HS.out hV)).c0
      have r3 : ∀ V, Since wv V → V.cell? ⟨bm, om + i * 4 + 2, none⟩ = some (.int .i64 z.h) := fun V hV => (HS1.out V (since_trans HS.out hV)).c2
      have r4 : ∀ V, Since wv V → V.cell? ⟨bm, om + i * 4 + 3, none⟩ = some (.int .i64 z.k) := fun V hV => (HS1.out V (since_trans HS.out hV)).c3
      have r5 : ∀ V, Since wv V → V.cell? ⟨h, 0, none⟩ = some (.slice B m kb) := fun V hV => (HKTr.out.below (since_trans HS.out hV)).c0
      have hfl := run_field_h
      clear s0 s2
      go_upto_region 17 with fail
      refine wp_region_since (by kernel_rfl) ?_
      have hS : Since wv (World.drew wv) := (Below.refl _ _).drew
      refine wpAnyH_take (i := 0) (oi := ⟨some 72, _, _, _, _, _⟩) (v := ?_) rfl (by kernel_rfl) (by kernel_rfl) (by kernel_rfl) (fun _ _ _ h => h) (Or.inl ⟨by rfl, ?_⟩) hS ?_
      rotate_left
      · intro W hW; go_simp; with_reducible rfl
      try simp only [Act.put, List.setIfInBounds_toArray, List.set_cons_zero, List.set_cons_succ]
      refine wpAnyH_take (i := 1) (oi := ⟨some 73, _, _, _, _, _⟩) (v := ?_) rfl (by kernel_rfl) (by kernel_rfl) (by kernel_rfl) (fun _ _ _ h => h) (Or.inl ⟨by rfl, ?_⟩) hS ?_
      rotate_left
      · intro W hW; go_simp; with_reducible rfl
      try simp only [Act.put, List.setIfInBounds_toArray, List.set_cons_zero, List.set_cons_succ]
      refine wpAnyH_take (i := 2) (oi := ⟨some 74, _, _, _, _, _⟩) (v := ?_) rfl (by kernel_rfl) (by kernel_rfl) (by kernel_rfl) (fun _ _ _ h => h) (Or.inl ⟨by rfl, ?_⟩) hS ?_
      rotate_left
      · intro W hW; go_simp; with_reducible rfl
      try simp only [Act.put, List.setIfInBounds_toArray, List.set_cons_zero, List.set_cons_succ]
      refine wpAnyH_take (i := 3) (oi := ⟨some 75, _, _, _, _, _⟩) (v := ?_) rfl (by kernel_rfl) (by kernel_rfl) (by kernel_rfl) (fun _ _ _ h => h) (Or.inl ⟨by rfl, ?_⟩) hS ?_
      rotate_left
      · intro W hW; go_simp; with_reducible rfl
      try simp only [Act.put, List.setIfInBounds_toArray, List.set_cons_zero, List.set_cons_succ]
      refine wpAnyH_take (i := 4) (oi := ⟨some 76, _, _, _, _, _⟩) (v := ?_) rfl (by kernel_rfl) (by kernel_rfl) (by kernel_rfl) (fun _ _ _ h => h) (Or.inl ⟨by rfl, ?_⟩) hS ?_
      rotate_left
      · intro W hW; go_simp; with_reducible rfl
      try simp only [Act.put, List.setIfInBounds_toArray, List.set_cons_zero, List.set_cons_succ]
      refine wpAnyH_take (i := 5) (oi := ⟨some 77, _, _, _, _, _⟩) (v := ?_) rfl (by kernel_rfl) (by kernel_rfl) (by kernel_rfl) (fun _ _ _ h => h) (Or.inl ⟨by rfl, ?_⟩) hS ?_
      rotate_left
      · intro W hW; go_simp; with_reducible rfl
      try simp only [Act.put, List.setIfInBounds_toArray, List.set_cons_zero, List.set_cons_succ]
      refine wpAnyH_take (i := 6) (oi := ⟨some 78, _, _, _, _, _⟩) (v := ?_) rfl (by kernel_rfl) (by kernel_rfl) (by kernel_rfl) (fun _ _ _ h => h) (Or.inl ⟨by rfl, ?_⟩) hS ?_
      rotate_left
      · intro W hW; go_simp; with_reducible rfl
      try simp only [Act.put, List.setIfInBounds_toArray, List.set_cons_zero, List.set_cons_succ]
      refine wpAnyH_take (i := 7) (oi := ⟨some 79, _, _, _, _, _⟩) (v := ?_) rfl (by kernel_rfl) (by kernel_rfl) (by kernel_rfl) (fun _ _ _ h => h) (Or.inl ⟨by rfl, ?_⟩) hS ?_
      rotate_left
      · intro W hW; go_simp; with_reducible rfl
      try simp only [Act.put, List.setIfInBounds_toArray, List.set_cons_zero, List.set_cons_succ]
      refine wpAnyH_take (i := 8) (oi := ⟨some 80, _, _, _, _, _⟩) (v := ?_) rfl (by kernel_rfl) (by kernel_rfl) (by kernel_rfl) (fun _ _ _ h => h) (Or.inl ⟨by rfl, ?_⟩) hS ?_
      rotate_left
      · intro W hW; go_simp; with_reducible rfl
      try simp only [Act.put, List.setIfInBounds_toArray, List.set_cons_zero, List.set_cons_succ]
      refine wpAnyH_take (i := 9) (oi := ⟨some 81, _, _, _, _, _⟩) (v := ?_) rfl (by kernel_rfl) (by kernel_rfl) (by kernel_rfl) (fun _ _ _ h => h) (Or.inl ⟨by rfl, ?_⟩) hS ?_
      rotate_left
      · intro W hW; go_simp; with_reducible rfl
      try simp only [Act.put, List.setIfInBounds_toArray, List.set_cons_zero, List.set_cons_succ]
      refine wpAnyH_take (i := 10) (oi := ⟨some 82, _, _, _, _, _⟩) (v := ?_) rfl (by kernel_rfl) (by kernel_rfl) (by kernel_rfl) (fun _ _ _ h => h) (Or.inl ⟨by rfl, ?_⟩) hS ?_
      rotate_left
      · intro W hW; go_simp; with_reducible rfl
      try simp only [Act.put, List.setIfInBounds_toArray, List.set_cons_zero, List.set_cons_succ]
      refine wpAnyH_take (i := 11) (oi := ⟨some 83, _, _, _, _, _⟩) (v := ?_) rfl (by kernel_rfl) (by kernel_rfl) (by kernel_rfl) (fun _ _ _ h => h) (Or.inl ⟨by rfl, ?_⟩) hS ?_
      rotate_left
      · intro W hW; go_simp; with_reducible rfl
      try simp only [Act.put, List.setIfInBounds_toArray, List.set_cons_zero, List.set_cons_succ]
      refine wpAnyH_take (i := 12) (oi := ⟨some 84, _, _, _, _, _⟩) (v := ?_) rfl (by kernel_rfl) (by kernel_rfl) (by kernel_rfl) (fun _ _ _ h => h) (Or.inl ⟨by rfl, ?_⟩) hS ?_
      rotate_left
      · intro W hW; go_simp; with_reducible rfl
      try simp only [Act.put, List.setIfInBounds_toArray, List.set_cons_zero, List.set_cons_succ]
      refine wpAnyH_take (i := 13) (oi := ⟨some 85, _, _, _, _, _⟩) (v := ?_) rfl (by kernel_rfl) (by kernel_rfl) (by kernel_rfl) (fun _ _ _ h => h) (Or.inl ⟨by rfl, ?_⟩) hS ?_
      rotate_left
      · intro W hW; go_simp; with_reducible rfl
      try simp only [Act.put, List.setIfInBounds_toArray, List.set_cons_zero, List.set_cons_succ]
      refine wpAnyH_take (i := 14) (oi := ⟨some 86, _, _, _, _, _⟩) (v := ?_) rfl (by kernel_rfl) (by kernel_rfl) (by kernel_rfl) (fun _ _ _ h => h) (Or.inl ⟨by rfl, ?_⟩) hS ?_
      rotate_left
      · intro W hW; go_simp; with_reducible rfl
      try simp only [Act.put, List.setIfInBounds_toArray, List.set_cons_zero, List.set_cons_succ]
      refine wpAnyH_take (i := 15) (oi := ⟨some 87, _, _, _, _, _⟩) (v := ?_) rfl (by kernel_rfl) (by kernel_rfl) (by kernel_rfl) (fun _ _ _ h => h) (Or.inl ⟨by rfl, ?_⟩) hS ?_
      rotate_left
      · intro W hW; go_simp; with_reducible rfl
      try simp only [Act.put, List.setIfInBounds_toArray, List.set_cons_zero, List.set_cons_succ]
      refine wpAnyH_take (i := 16) (oi := ⟨some 88, _, _, _, _, _⟩) (v := ?_) rfl (by kernel_rfl) (by kernel_rfl) (by kernel_rfl) (fun _ _ _ h => h) (Or.inl ⟨by rfl, ?_⟩) hS ?_
      rotate_left
      · intro W hW; go_simp; with_reducible rfl
      try simp only [Act.put, List.setIfInBounds_toArray, List.set_cons_zero, List.set_cons_succ]
      refine wpAnyH_take (i := 17) (oi := ⟨some 89, _, _, _, _, _⟩) (v := ?_) rfl (by kernel_rfl) (by kernel_rfl) (by kernel_rfl) (fun _ _ _ h => h) (Or.inl ⟨by rfl, ?_⟩) hS ?_
      rotate_left
      · intro W hW; go_simp; with_reducible rfl
      try simp only [Act.put, List.setIfInBounds_toArray, List.set_cons_zero, List.set_cons_succ]
      refine wpAnyH_take (i := 18) (oi := ⟨some 90, _, _, _, _, _⟩) (v := ?_) rfl (by kernel_rfl) (by kernel_rfl) (by kernel_rfl) (fun _ _ _ h => h) (Or.inl ⟨by rfl, ?_⟩) hS ?_
      rotate_left
      · intro W hW; go_simp; with_reducible rfl
      try simp only [Act.put, List.setIfInBounds_toArray, List.set_cons_zero, List.set_cons_succ]
      refine wpAnyH_take (i := 19) (oi := ⟨some 91, _, _, _, _, _⟩) (v := ?_) rfl (by kernel_rfl) (by kernel_rfl) (by kernel_rfl) (fun _ _ _ h => h) (Or.inl ⟨by rfl, ?_⟩) hS ?_
      rotate_left
      · intro W hW; go_simp; with_reducible rfl
      try simp only [Act.put, List.setIfInBounds_toArray, List.set_cons_zero, List.set_cons_succ]
      refine wpAnyH_take (i := 20) (oi := ⟨some 92, _, _, _, _, _⟩) (v := ?_) rfl (by kernel_rfl) (by kernel_rfl) (by kernel_rfl) (fun _ _ _ h => h) (Or.inl ⟨by rfl, ?_⟩) hS ?_
      rotate_left
      · intro W hW; go_simp; with_reducible rfl
      try simp only [Act.put, List.setIfInBounds_toArray, List.set_cons_zero, List.set_cons_succ]
      refine wpAnyH_take (i := 21) (oi := ⟨some 93, _, _, _, _, _⟩) (v := ?_) rfl (by kernel_rfl) (by kernel_rfl) (by kernel_rfl) (fun _ _ _ h => h) (Or.inl ⟨by rfl, ?_⟩) hS ?_
      rotate_left
      · intro W hW; go_simp; with_reducible rfl
      try simp only [Act.put, List.setIfInBounds_toArray, List.set_cons_zero, List.set_cons_succ]
      refine wpAnyH_take (i := 22) (oi := ⟨some 94, _, _, _, _, _⟩) (v := ?_) rfl (by kernel_rfl) (by kernel_rfl) (by kernel_rfl) (fun _ _ _ h => h) (Or.inl ⟨by rfl, ?_⟩) hS ?_
      rotate_left
      · intro W hW; go_simp; with_reducible rfl
      try simp only [Act.put, List.setIfInBounds_toArray, List.set_cons_zero, List.set_cons_succ]
      refine wpAnyH_take (i := 23) (oi := ⟨some 95, _, _, _, _, _⟩) (v := ?_) rfl (by kernel_rfl) (by kernel_rfl) (by kernel_rfl) (fun _ _ _ h => h) (Or.inl ⟨by rfl, ?_⟩) hS ?_
      rotate_left
      · intro W hW; go_simp; with_reducible rfl
      try simp only [Act.put, List.setIfInBounds_toArray, List.set_cons_zero, List.set_cons_succ]
      refine wpAnyH_ready (rs := [24]) (by kernel_rfl) (by simp) ?_
      refine AllReadyH.cons (o := ⟨some 96, _, _, _, _, _⟩) rfl (fun Kr hKr => ?_) AllReadyH.nil
      -- operation 24: a call
      go_simp
      refine (HFT.out _ hS).mono ?_
      rintro e w8 ⟨rfl, hb8⟩
      show Kr _ _
      refine hKr.out _ _ ?_ (fun _ => ?_)
      · exact since_trans hS hb8
      clear hKr Kr
      replace hS : Since wv w8 := since_trans hS hb8
      try simp only [Act.put, List.setIfInBounds_toArray, List.set_cons_zero, List.set_cons_succ]
      refine wpAnyH_take (i := 25) (oi := ⟨some 97, _, _, _, _, _⟩) (v := ?_) rfl (by kernel_rfl) (by kernel_rfl) (by kernel_rfl) (fun _ _ _ h => h) (Or.inl ⟨by rfl, ?_⟩) hS ?_
      rotate_left
      · intro W hW; go_simp; with_reducible rfl
      try simp only [Act.put, List.setIfInBounds_toArray, List.set_cons_zero, List.set_cons_succ]
      refine wpAnyH_take (i := 26) (oi := ⟨some 98, _, _, _, _, _⟩) (v := ?_) rfl (by kernel_rfl) (by kernel_rfl) (by kernel_rfl) (fun _ _ _ h => h) (Or.inl ⟨by rfl, ?_⟩) hS ?_
      rotate_left
      · intro W hW; go_simp; with_reducible rfl
      try simp only [Act.put, List.setIfInBounds_toArray, List.set_cons_zero, List.set_cons_succ]
      refine wpAnyH_take (i := 27) (oi := ⟨some 99, _, _, _, _, _⟩) (v := ?_) rfl (by kernel_rfl) (by kernel_rfl) (by kernel_rfl) (fun _ _ _ h => h) (Or.inl ⟨by rfl, ?_⟩) hS ?_
      rotate_left
      · intro W hW; go_simp; with_reducible rfl
      try simp only [Act.put, List.setIfInBounds_toArray, List.set_cons_zero, List.set_cons_succ]
      refine wpAnyH_done (by kernel_rfl) ?_ _
      have HS9 := Lib.hid (since_trans HS.out hS)
      clear hS r0 r1 r2 r3 r4 r5
      go_wp2
      go_roundw
      case rel => exact ⟨i + 1, by simp, by omega, fun _ => hp0, HR.out.trans (Below.mono HS9.out HR.out.size)⟩
      case measure => simp [intOf]; omega
    · have hstop : Hid (p < 0 ∨ i = mo) := by
        rcases Nat.lt_or_ge i mo with h1 | h1
        · left
          exact Int.not_le.1 fun h2 => hgo ⟨h1, h2⟩
        · right; omega
      have HFR0 := Lib.hid (free_any B L m kb HM.out HSP.out HAP.out.tab)
      have HPL := Lib.hid (show p < 0 → m6 + mo = m from fun h1 => by
        have h2 := HPT.out.1
        unfold passL at h2
        rw [if_pos h1] at h2
        have := HFL.out
        omega)
      obtain ⟨nd, hnd⟩ : ∃ nd : Nat, nd = m - mo := ⟨_, rfl⟩
      have hsub : (m : Int) - (mo : Int) = (nd : Int) := by omega
      have hsw : IntKind.i64.wrap (nd : Int) = (nd : Int) := by rw [IntKind.wrap_i64]; omega
      have HND := Lib.hid hnd
      have HR2 := Lib.hid (HBB.out.trans (HR.out.mono HBB.out.size))
      have k1 := HKUr.out.c0
      have k2 := HKTr.out.c0
      have HSU := Lib.hid (show ∀ V, Since wr V → Calls Try.prog 27 #[.agg #[.slice B6 m6 kb6]] V fun e w' => e = .returned (.bool true) ∧ Below V.heap.size V w' from fun V hV => sane_any B6 _ m6 kb6 HPT.out.1 HQ.out V (HLUr.out.below hV))
      have HFG := Lib.hid (HAP.out.tab.freeL fun z => decide (z = (y : Int)))
      have HFR := Lib.hid (HFR0.out (some ⟨wr.heap.size, 0, none⟩) [y] 1 1 rfl (by omega) (fun i hi => by rw [List.mem_singleton.1 hi]; exact HY63.out) _ (HLr.out.below (below_new _ _)) (IdAt.one wr y))
      by_cases hp : p < 0
      · have hpb : decide (0 ≤ p) = false := decide_eq_false (by omega)
        have hpl : decide (p < 0) = true := decide_eq_true hp
        have hm6 : m6 = nd := by have := HPL.out hp; omega
        have hmb : ((m6 : Int) != (nd : Int)) = false := by rw [hm6]; simp
        have hmb2 : (m6 != nd) = false := by rw [hm6]; simp
        clear hm6
        rcases Nat.lt_or_ge i mo with h1 | h1
        · have hc1 : decide (i < mo) = true := decide_eq_true h1
          clear hgo
          clear hnd hip HFR0
          go_upto_region 21 with fail
          clear hpl hc1
          try clear hmb hmb2
          go_wp2_with fail
          refine HFR.out.mono ?_
          rintro e w9 ⟨A9, n9, k9, rfl, ho9, hb9⟩
          rw [free_one] at ho9
          have hn9 : n9 = nd := (by have h1 := ho9.parts.1; have h2 := HFL.out; have h3 := HND.out; omega)
          rw [hn9] at ho9 ⊢
          have HO9 := Lib.hid ho9
          have HB9 := Lib.hid (show Below wr.heap.size wr w9 from below_two (below_new _ _) hb9)
          clear ho9 hb9 k1 k2
          go_upto_region 22 with (first | (refine wpList_store_table rfl (.tmp 14) (.tmp 117) rfl rfl rfl (KB.new w9 none 0 0) ?_; intro w10 hk10 hg10; have HK10 := Lib.hid hk10; have HG10 := Lib.hid hg10; clear hk10 hg10) | fail)
          have hb10 := (below_new w9 (.cells #[.slice none 0 0] 49)).grown HG10.out (by simp) (fun q e => by injection e with e; omega)
          have HB10 := Lib.hid hb10
          have HBR := Lib.hid (HB9.out.trans (hb10.mono HB9.out.size))
          have HP9 := Lib.hid (HO9.out.below hb10).parts
          have q1 := HK10.out.c0
          have q2 := (HKTr.out.below HBR.out).c0
          have q3 := (HKUr.out.below HBR.out).c0
          clear hb10 HG10 HO9 HB9
          go_wp2_with fail
          refine (of_any A9 (freeL L fun z => decide (z = (y : Int))) nd k9 (y : Int) HP9.out.1 HFG.out w10 HP9.out.2.2.2).mono ?_
          rintro e w11 ⟨v11, rfl, ho11, hb11⟩
          rw [of_free] at ho11
          obtain ⟨A11, c11, rfl, _, _, _⟩ := ho11.form
          have HB11 := Lib.hid (HBR.out.trans (hb11.mono HBR.out.size))
          have r1 := (HK10.out.below hb11).c0
          have r3 := (hb11.cell (block_lt_of_cell q3)).trans q3
          have HP11 := Lib.hid (HP9.out.2.2.2.below hb11)
          have HK11 := Lib.hid (HK10.out.below hb11)
          clear ho11 hb11 q1 q2 q3
          go_wp2_with fail
          refine (HSU.out w11 HB11.out).mono ?_
          rintro e w12 ⟨rfl, hb12⟩
          have HB12 := Lib.hid (HB11.out.trans (hb12.mono HB11.out.size))
          have s1 := (HK11.out.below hb12).c0
          have HP12 := Lib.hid (HP11.out.below hb12)
          clear hb12 r1 r3
          go_wp2_with fail
          refine (sane_any A9 _ nd k9 HP9.out.1 HFG.out w12 HP12.out).mono ?_
          rintro e w13 ⟨rfl, hb13⟩
          go_wp2
          go_ret
          have h9 := HR2.out.trans (HB12.out.mono HR2.out.size)
          exact ⟨rfl, h9.trans (hb13.mono h9.size)⟩
        · have hc1 : decide (i < mo) = false := decide_eq_false (by omega)
          clear hgo
          clear hnd hip HFR0
          go_upto_region 21 with fail
          clear hpl hc1
          try clear hmb hmb2
          go_wp2_with fail
          refine HFR.out.mono ?_
          rintro e w9 ⟨A9, n9, k9, rfl, ho9, hb9⟩
          rw [free_one] at ho9
          have hn9 : n9 = nd := (by have h1 := ho9.parts.1; have h2 := HFL.out; have h3 := HND.out; omega)
          rw [hn9] at ho9 ⊢
          have HO9 := Lib.hid ho9
          have HB9 := Lib.hid (show Below wr.heap.size wr w9 from below_two (below_new _ _) hb9)
          clear ho9 hb9 k1 k2
          go_upto_region 22 with (first | (refine wpList_store_table rfl (.tmp 14) (.tmp 117) rfl rfl rfl (KB.new w9 none 0 0) ?_; intro w10 hk10 hg10; have HK10 := Lib.hid hk10; have HG10 := Lib.hid hg10; clear hk10 hg10) | fail)
          have hb10 := (below_new w9 (.cells #[.slice none 0 0] 49)).grown HG10.out (by simp) (fun q e => by injection e with e; omega)
          have HB10 := Lib.hid hb10
          have HBR := Lib.hid (HB9.out.trans (hb10.mono HB9.out.size))
          have HP9 := Lib.hid (HO9.out.below hb10).parts
          have q1 := HK10.out.c0
          have q2 := (HKTr.out.below HBR.out).c0
          have q3 := (HKUr.out.below HBR.out).c0
          clear hb10 HG10 HO9 HB9
          go_wp2_with fail
          refine (of_any A9 (freeL L fun z => decide (z = (y : Int))) nd k9 (y : Int) HP9.out.1 HFG.out w10 HP9.out.2.2.2).mono ?_
          rintro e w11 ⟨v11, rfl, ho11, hb11⟩
          rw [of_free] at ho11
          obtain ⟨A11, c11, rfl, _, _, _⟩ := ho11.form
          have HB11 := Lib.hid (HBR.out.trans (hb11.mono HBR.out.size))
          have r1 := (HK10.out.below hb11).c0
          have r3 := (hb11.cell (block_lt_of_cell q3)).trans q3
          have HP11 := Lib.hid (HP9.out.2.2.2.below hb11)
          have HK11 := Lib.hid (HK10.out.below hb11)
          clear ho11 hb11 q1 q2 q3
          go_wp2_with fail
          refine (HSU.out w11 HB11.out).mono ?_
          rintro e w12 ⟨rfl, hb12⟩
          have HB12 := Lib.hid (HB11.out.trans (hb12.mono HB11.out.size))
          have s1 := (HK11.out.below hb12).c0
          have HP12 := Lib.hid (HP11.out.below hb12)
          clear hb12 r1 r3
          go_wp2_with fail
          refine (sane_any A9 _ nd k9 HP9.out.1 HFG.out w12 HP12.out).mono ?_
          rintro e w13 ⟨rfl, hb13⟩
          go_wp2
          go_ret
          have h9 := HR2.out.trans (HB12.out.mono HR2.out.size)
          exact ⟨rfl, h9.trans (hb13.mono h9.size)⟩
      · have hpl : decide (p < 0) = false := decide_eq_false hp
        have him : i = mo := by have := hstop.out; omega
        have hc1 : decide (i < mo) = false := decide_eq_false (by omega)
        clear hgo
        clear hnd hip HFR0
        go_upto_region 21 with fail
        clear hpl hc1
        try clear hmb hmb2
        go_wp2_with fail
        refine HFR.out.mono ?_
        rintro e w9 ⟨A9, n9, k9, rfl, ho9, hb9⟩
        rw [free_one] at ho9
        have hn9 : n9 = nd := (by have h1 := ho9.parts.1; have h2 := HFL.out; have h3 := HND.out; omega)
        rw [hn9] at ho9 ⊢
        have HO9 := Lib.hid ho9
        have HB9 := Lib.hid (show Below wr.heap.size wr w9 from below_two (below_new _ _) hb9)
        clear ho9 hb9 k1 k2
        go_upto_region 22 with (first | (refine wpList_store_table rfl (.tmp 14) (.tmp 117) rfl rfl rfl (KB.new w9 none 0 0) ?_; intro w10 hk10 hg10; have HK10 := Lib.hid hk10; have HG10 := Lib.hid hg10; clear hk10 hg10) | fail)
        have hb10 := (below_new w9 (.cells #[.slice none 0 0] 49)).grown HG10.out (by simp) (fun q e => by injection e with e; omega)
        have HB10 := Lib.hid hb10
        have HBR := Lib.hid (HB9.out.trans (hb10.mono HB9.out.size))
        have HP9 := Lib.hid (HO9.out.below hb10).parts
        have q1 := HK10.out.c0
        have q2 := (HKTr.out.below HBR.out).c0
        have q3 := (HKUr.out.below HBR.out).c0
        clear hb10 HG10 HO9 HB9
        go_wp2_with fail
        refine (of_any A9 (freeL L fun z => decide (z = (y : Int))) nd k9 (y : Int) HP9.out.1 HFG.out w10 HP9.out.2.2.2).mono ?_
        rintro e w11 ⟨v11, rfl, ho11, hb11⟩
        rw [of_free] at ho11
        obtain ⟨A11, c11, rfl, _, _, _⟩ := ho11.form
        have HB11 := Lib.hid (HBR.out.trans (hb11.mono HBR.out.size))
        have r1 := (HK10.out.below hb11).c0
        have r3 := (hb11.cell (block_lt_of_cell q3)).trans q3
        have HP11 := Lib.hid (HP9.out.2.2.2.below hb11)
        have HK11 := Lib.hid (HK10.out.below hb11)
        clear ho11 hb11 q1 q2 q3
        go_wp2_with fail
        refine (HSU.out w11 HB11.out).mono ?_
        rintro e w12 ⟨rfl, hb12⟩
        have HB12 := Lib.hid (HB11.out.trans (hb12.mono HB11.out.size))
        have s1 := (HK11.out.below hb12).c0
        have HP12 := Lib.hid (HP11.out.below hb12)
        clear hb12 r1 r3
        go_wp2_with fail
        refine (sane_any A9 _ nd k9 HP9.out.1 HFG.out w12 HP12.out).mono ?_
        rintro e w13 ⟨rfl, hb13⟩
        go_wp2
        go_ret
        have h9 := HR2.out.trans (HB12.out.mono HR2.out.size)
        exact ⟨rfl, h9.trans (hb13.mono h9.size)⟩
end Go.Proofs.Ytohnfjneghbceaa
