/-
  A list with more versions in it.
-/
import Derived.Test.YtmhnjmfcenbogaaPk
namespace Go.Proofs.Ytmhnjmfcenbogaa
set_option maxRecDepth 100000
set_option linter.unusedVariables false
set_option linter.unusedSimpArgs false
open Go.RowKit Go.Shelf

theorem ve_at (w : World) (x y : Int) (A : Option Addr) (n c : Nat) (g : Nat) (hg : w.heap.size = g) : RVo.At (w.alloc (.cells (veC x y A n c) 74)) (some ⟨g, 0, none⟩) [⟨x, y, ⟨A, n, c⟩⟩] := by
  subst hg; exact Rk.At.new rv_oko w ⟨x, y, ⟨A, n, c⟩⟩ 74

set_option maxHeartbeats 4000000 in
theorem with_any (A C : Option Addr) (n a k kc : Nat) (P M : List Vn) (ps us : List Vr) (hn : n ≤ 1000) (hk : k ≤ 1000) (hr : RiseV P) (hrm : RiseV M) (hna : n ≤ a) (hsa : a = 0 ∨ Sp A) (w : World) (hP : VrsAt RVo w A n P ps) (hM : VrsAt RVo w C k M us) :
    Calls Try.prog 25 #[.slice A n a, .slice C k kc] w fun e w' => ∃ A' n' c' vs, e = .returned (.slice A' n' c') ∧ VrsAt RVo w' A' n' (withV P M) vs ∧ RVo.Own w' w.heap.size (.slice A' n' c') vs ∧ Below w.heap.size w w' ∧ ∀ r ∈ vs, r ∈ ps ∨ r ∈ us := by
  have HPP := Lib.hid hP
  have HMM := Lib.hid hM
  have HRP := Lib.hid hr
  have HRM := Lib.hid hrm
  have HSA := Lib.hid hsa
  obtain ⟨w1, hmk, ho1, hb1⟩ := Rk.run_make_cap rv_oko w (n + k) (by show 40 * (n + k) ≤ _; omega) (by omega)
  have HMK := Lib.hid (show (Instr.makeSlice 28 (.int .i64 0) (.int .i64 ((n + k : Nat) : Int))).run Try.prog w = .ok (.slice (some ⟨w.heap.size, 0, none⟩) 0 (n + k)) w1 from hmk)
  have HO := Lib.hid ho1
  have HB := Lib.hid hb1
  obtain ⟨c0, hc0⟩ : ∃ c0, c0 = n + k := ⟨_, rfl⟩
  have hw0 : IntKind.i64.wrap ((n : Int) + (k : Int)) = (c0 : Int) := by rw [IntKind.wrap_i64]; omega
  rw [← hc0] at HMK HO
  clear hP hM hr hrm hsa hmk ho1 hb1 hc0
  go_enter Try.func25, Try.ntmps25
  go_wp2_with (first
    | (at_make; refine wpList_make_run rfl 28 _ _ rfl rfl rfl HMK.out ?_)
    | fail)
  go_loopw [0, 5, 18] (fun lv av iv wr => ∃ (j : Nat) (X : List Vn) (xs : List Vr) (R : List Vn) (rs : List Vr) (rA : Option Addr) (rn rc : Nat), lv = .slice rA rn rc ∧ iv = .int .i64 (j : Int) ∧ j ≤ k ∧ Hid (VrsAt RVo w rA rn R rs) ∧ Hid (rn ≤ rc ∧ rn ≤ n) ∧ Hid (rc = 0 ∨ Sp rA) ∧ Hid (RVo.Own wr w.heap.size av xs) ∧ Hid (Prs w xs X) ∧ Hid (Prs w rs R) ∧ Hid (withV P M = X ++ withV R (M.drop j)) ∧ Hid (RiseV R) ∧ Hid (xs.length + rn ≤ n + j) ∧ Hid ((∀ r ∈ xs, r ∈ ps ∨ r ∈ us) ∧ ∀ r ∈ rs, r ∈ ps) ∧ Hid (Below w.heap.size w wr)) (fun _ _ iv _ => k - (intOf iv).toNat)
  case atStart => exact ⟨0, [], [], P, ps, A, n, a, rfl, rfl, Nat.zero_le _, HPP, Lib.hid ⟨hna, Nat.le_refl _⟩, HSA, HO, Lib.hid Prs.nil, Lib.hid HPP.out.prs, Lib.hid rfl, HRP, Lib.hid (by simp), Lib.hid ⟨by simp, fun r h => h⟩, HB⟩
  case round =>
    obtain ⟨j, X, xs, R, rs, rA, rn, rc, rfl, rfl, hj, HR, HC, HS, HOX, HPX, HPR, HW, HRR, HLN, HMS, HBj⟩ := hrel
    rcases Nat.lt_or_ge j k with hlt | hge
    · obtain ⟨b2, o, zA, zn, zk, hA, hbl, hget, q0, q1, q2, hdz, hmem⟩ := ver_cells2 HMM.out hlt
      subst hA
      obtain ⟨v, hv⟩ : ∃ v, M.getD j vnD = v := ⟨_, rfl⟩
      rw [hv] at hget q0 q1 hdz hmem
      obtain ⟨vb, vx, vd⟩ := v
      simp only at q0 q1 hdz hmem
      have hMD : M.drop j = ⟨vb, vx, vd⟩ :: M.drop (j + 1) := by
        have hi := (List.getElem?_eq_some_iff.1 hget).1
        rw [List.drop_eq_getElem_cons hi, (List.getElem?_eq_some_iff.1 hget).2]
      have hRD : RiseV (⟨vb, vx, vd⟩ :: M.drop (j + 1)) := by rw [← hMD]; exact HRM.out.sub (List.drop_sublist _ _)
      obtain ⟨L1, L2, hsp, h1, h2⟩ := riseV_split HRR.out (keyVn vb vx)
      have hstep := withV_step (v := ⟨vb, vx, vd⟩) (M := M.drop (j + 1)) h1 h2 hRD
      have hl1 : L1.length + L2.length = rn := by rw [← HR.out.k, hsp, List.length_append]
      have hd1 : R.take L1.length = L1 := by rw [hsp, List.take_left]
      have hd2 : R.drop L1.length = L2 := by rw [hsp, List.drop_left]
      have hr2 : RiseV L2 := HRR.out.sub (by rw [hsp]; exact List.sublist_append_right _ _)
      have hp1 := fun V (hV : Below w.heap.size w V) => vplace_any rA rn rc R L1 L2 rs vx vb (by have := HC.out; omega) V (HR.out.below hV) hsp h1 h2
      obtain ⟨A4, k1, k2, k3, k4⟩ := Rk.cut_to rv_oko Try.underlying28 rv_sz HR.out.at_ HR.out.l HC.out.1 HS.out (k := L1.length) (by omega)
      obtain ⟨A5, c5, m1, m2, m3, _, m4, m5⟩ := Rk.cut_from rv_oko Try.underlying28 rv_sz HR.out.at_ HR.out.l HC.out.1 HS.out (k := L1.length) (by omega)
      have HV5 := Lib.hid (HR.out.cutFrom (by omega) m1)
      have hw : withV P M = (X ++ (L1 ++ [⟨vb, vx, vd⟩])) ++ withV (L2.drop (if thereV vb vx L2 then 1 else 0)) (M.drop (j + 1)) := by
        rw [HW.out, hMD, hsp, hstep]; simp only [List.append_assoc]
      have hpx : Prs w (xs ++ rs.take L1.length) (X ++ L1) := by have h := HPX.out.app (HPR.out.take L1.length); rw [hd1] at h; exact h
      have HXL := Lib.hid (hpx.app (Prs.one (r := ⟨vb, vx, ⟨zA, zn, zk⟩⟩) (v := ⟨vb, vx, vd⟩) rfl rfl hdz))
      have HPD := Lib.hid (by have h := HPR.out.drop L1.length; rw [hd2] at h; exact h : Prs w (rs.drop L1.length) L2)
      rw [hd2] at HV5
      have HWW := Lib.hid hw
      have HR2 := Lib.hid hr2
      have HT1 := Lib.hid (fun h => thereV_ne (b := vb) (x := vx) (L := L2) h)
      obtain ⟨tb, htb⟩ : ∃ tb, thereV vb vx L2 = tb := ⟨_, rfl⟩
      rw [htb] at hp1 HWW HT1
      obtain ⟨l1, e1⟩ : ∃ q, L1.length = q := ⟨_, rfl⟩
      rw [e1] at hp1 k1 k3 k4 m1 m2 m4 m5 HXL HPD HV5 hl1
      have hle1 : l1 ≤ rn := by omega
      have HMX := Lib.hid (show (∀ r ∈ (xs ++ rs.take l1) ++ [⟨vb, vx, ⟨zA, zn, zk⟩⟩], r ∈ ps ∨ r ∈ us) ∧ ∀ r ∈ rs.drop l1, r ∈ ps from ⟨fun r hr => by
        rcases List.mem_append.1 hr with h | h
        · rcases List.mem_append.1 h with h | h
          · exact HMS.out.1 r h
          · exact .inl (HMS.out.2 r (List.mem_of_mem_take h))
        · rw [List.mem_singleton.1 h]; exact .inr hmem, fun r hr => HMS.out.2 r (List.mem_of_mem_drop hr)⟩)
      have hle2 : (l1 : Int) ≤ (rn : Int) := by omega
      have HL2L := Lib.hid (show L2.length = rn - l1 by omega)
      have HLT := Lib.hid (show (rs.take l1).length = l1 by rw [List.length_take, HR.out.l]; omega)
      have HTA := Lib.hid k1
      have HSA4 := Lib.hid (show rs.take l1 = [] ∨ Sp A4 from by
        rcases k2 with h | h
        · exact .inl (List.eq_nil_of_length_eq_zero (by rw [HLT.out]; have := HC.out; omega))
        · exact .inr h)
      replace k3 : ∀ V : World, (Instr.slice 28 (.slice rA rn rc) none (some (.int .i64 (l1 : Int))) none).run Try.prog V = .ok (.slice A4 l1 rc) V := k3
      replace k4 : ∀ V : World, (Instr.sliceAt 28 (.slice rA rn rc) none (some (.int .i64 (l1 : Int))) none).run Try.prog V = .ok (.slice A4 l1 rc) V := k4
      obtain ⟨n5, en5⟩ : ∃ q, rn - l1 = q := ⟨_, rfl⟩
      rw [en5] at m2 m4 m5 HV5 HL2L
      replace m4 : ∀ V : World, (Instr.slice 28 (.slice rA rn rc) (some (.int .i64 (l1 : Int))) none none).run Try.prog V = .ok (.slice A5 n5 c5) V := m4
      replace m5 : ∀ V : World, (Instr.sliceAt 28 (.slice rA rn rc) (some (.int .i64 (l1 : Int))) none none).run Try.prog V = .ok (.slice A5 n5 c5) V := m5
      have HN5 := Lib.hid (show n5 + l1 = rn by omega)
      have HM2 := Lib.hid m2
      have HM3 := Lib.hid m3
      have c0' := (HBj.out.cell (p := ⟨b2, o + j * 3, none⟩) hbl).trans q0
      have c1' := (HBj.out.cell (p := ⟨b2, o + j * 3 + 1, none⟩) hbl).trans q1
      have c2' := (HBj.out.cell (p := ⟨b2, o + j * 3 + 2, none⟩) hbl).trans q2
      have hd4 : decide ((j : Int) < (k : Int)) = true := decide_eq_true (by omega)
      have hd5 : decide (j < k) = true := decide_eq_true hlt
      have hi1 : (j : Int) < (k : Int) := by omega
      have hi2 : j < k := hlt
      have HP1 := Lib.hid hp1
      have HLL := Lib.hid (show xs.length + l1 ≤ 5000 ∧ n5 + xs.length + l1 ≤ n + j by have := HLN.out; omega)
      have HRN := Lib.hid (show n5 ≤ n by have := HC.out; omega)
      clear hmem hget q0 q1 q2 hbl hdz hMD hRD hstep hl1 hd1 hd2 hr2 hsp h1 h2 hw hpx htb e1 k1 k2 m1 m2 m3 en5 hp1 hv
      go_upto_region 5 with fail
      obtain ⟨wk, hwk⟩ : ∃ q, q = wr.alloc (.cells (veC vb vx zA zn zk) 74) := ⟨_, rfl⟩
      obtain ⟨g7, hg7⟩ : ∃ q, q = wr.heap.size := ⟨_, rfl⟩
      have hbk : Below wr.heap.size wr wk := by rw [hwk]; exact below_new _ _
      have HK7 := Lib.hid (show Bk wk g7 (veC vb vx zA zn zk) 74 by rw [hwk, hg7]; exact Bk.new _ _ _)
      have HOk := Lib.hid (HOX.out.below hbk)
      have HN7 := Lib.hid (show ∀ q, u5.ownBlock = some q → w.heap.size ≤ q ∧ q < g7 from fun q e => by rw [hg7]; exact HOX.out.lt q e)
      have HBk := Lib.hid (HBj.out.trans (hbk.mono HBj.out.size))
      rw [← hg7, ← hwk]
      clear hbk hwk hg7 c0' c1' c2'
      have y0 := HK7.out.e0
      have y1 := HK7.out.e1
      go_wp2_with fail
      refine (HP1.out _ HBk.out).mono ?_
      rintro e w2 ⟨rfl, hb2⟩
      have HK8 := Lib.hid (HK7.out.below hb2)
      have HO8 := Lib.hid (HOk.out.below hb2)
      have HB8 := Lib.hid (HBk.out.trans (hb2.mono HBk.out.size))
      clear hb2 y0 y1 HK7 HOk HBk HP1
      cases tb
      · go_wp2_with (first
          | (at_builtin; refine Rk.wpList_append2 rv_oko rfl (.tmp 31) (.tmp 34) rfl w.heap.size u5 xs (rs.take l1) rfl HO8.out A4 l1 rc rfl (HTA.out.below HB8.out) HLT.out HSA4.out (by have := HLL.out; rw [HLT.out]; omega) HB8.out.size ?_; intro v3 w3 ho3 hg3 ha3; have HO3 := Lib.hid ho3; have HB3 := Lib.hid (HB8.out.grown hg3 HB8.out.size (fun q e => (HN7.out q e).1)); have HK9 := Lib.hid (HK8.out.far hg3 (fun e => by have := (HN7.out g7 e.symm).2; omega)); have y0 := HK9.out.e0; have y1 := HK9.out.e1; have y2 := HK9.out.e2; clear ho3 hg3 ha3)
          | (at_builtin; refine Rk.wpList_append rv_oko rfl (.tmp 42) (.tmp 44) rfl w.heap.size v3 (xs ++ rs.take l1) [⟨vb, vx, ⟨zA, zn, zk⟩⟩] rfl (HO3.out.below (below_new _ _)) _ 1 1 rfl (ve_at w3 vb vx zA zn zk _ rfl) rfl (.inr ⟨_, _, rfl⟩) (by have h1 := HLL.out; have h2 := HLT.out; simp only [List.length_append, List.length_singleton, h2]; omega) (Nat.le_trans HB3.out.size (below_new w3 _).size) ?_; intro v4 w4 ho4 hg4 ha4; have HO4 := Lib.hid ho4; have HB4 := Lib.hid ((HB3.out.trans ((below_new w3 (.cells (veC vb vx zA zn zk) 74)).mono HB3.out.size)).grown hg4 (Nat.le_trans HB3.out.size (below_new w3 _).size) (fun q e => (HO3.out.lt q e).1)); clear ho4 hg4 ha4)
          | fail)
        go_roundw
        case rel => exact ⟨j + 1, X ++ (L1 ++ [⟨vb, vx, vd⟩]), (xs ++ rs.take l1) ++ [⟨vb, vx, ⟨zA, zn, zk⟩⟩], L2, rs.drop l1, A5, n5, c5, rfl, by simp, hi2, HV5, Lib.hid ⟨HM2.out, HRN.out⟩, HM3, HO4, Lib.hid (by have h := HXL.out; rw [List.append_assoc X] at h; exact h), HPD, Lib.hid (by have h := HWW.out; simpa using h), HR2, Lib.hid (by have h1 := HLL.out; have h2 := HLT.out; simp only [List.length_append, List.length_singleton, h2]; omega), HMX, HB4⟩
        case measure => simp [intOf]; omega
      · obtain ⟨A6, c6, r1, r2, r3, _, r4, r5⟩ := Rk.cut_from rv_oko Try.underlying28 rv_sz HV5.out.at_ HV5.out.l HM2.out HM3.out (k := 1) (by have h1 := HT1.out rfl; have h2 := HL2L.out; omega)
        have HV6 := Lib.hid (HV5.out.cutFrom (by have h1 := HT1.out rfl; have h2 := HL2L.out; omega) r1)
        have hn5 : 1 ≤ n5 := by have h1 := HT1.out rfl; have h2 := HL2L.out; omega
        obtain ⟨n6, en6⟩ : ∃ q, n5 - 1 = q := ⟨_, rfl⟩
        rw [en6] at r2 r4 r5 HV6
        replace r4 : ∀ V : World, (Instr.slice 28 (.slice A5 n5 c5) (some (.int .i64 1)) none none).run Try.prog V = .ok (.slice A6 n6 c6) V := r4
        replace r5 : ∀ V : World, (Instr.sliceAt 28 (.slice A5 n5 c5) (some (.int .i64 1)) none none).run Try.prog V = .ok (.slice A6 n6 c6) V := r5
        have HM4 := Lib.hid r2
        have HM5 := Lib.hid r3
        have HN6 := Lib.hid (show n6 + 1 = n5 by omega)
        clear r1 r2 r3 en6
        go_wp2_with (first
          | (at_builtin; refine Rk.wpList_append2 rv_oko rfl (.tmp 31) (.tmp 34) rfl w.heap.size u5 xs (rs.take l1) rfl HO8.out A4 l1 rc rfl (HTA.out.below HB8.out) HLT.out HSA4.out (by have := HLL.out; rw [HLT.out]; omega) HB8.out.size ?_; intro v3 w3 ho3 hg3 ha3; have HO3 := Lib.hid ho3; have HB3 := Lib.hid (HB8.out.grown hg3 HB8.out.size (fun q e => (HN7.out q e).1)); have HK9 := Lib.hid (HK8.out.far hg3 (fun e => by have := (HN7.out g7 e.symm).2; omega)); have y0 := HK9.out.e0; have y1 := HK9.out.e1; have y2 := HK9.out.e2; clear ho3 hg3 ha3)
          | (at_builtin; refine Rk.wpList_append rv_oko rfl (.tmp 42) (.tmp 44) rfl w.heap.size v3 (xs ++ rs.take l1) [⟨vb, vx, ⟨zA, zn, zk⟩⟩] rfl (HO3.out.below (below_new _ _)) _ 1 1 rfl (ve_at w3 vb vx zA zn zk _ rfl) rfl (.inr ⟨_, _, rfl⟩) (by have h1 := HLL.out; have h2 := HLT.out; simp only [List.length_append, List.length_singleton, h2]; omega) (Nat.le_trans HB3.out.size (below_new w3 _).size) ?_; intro v4 w4 ho4 hg4 ha4; have HO4 := Lib.hid ho4; have HB4 := Lib.hid ((HB3.out.trans ((below_new w3 (.cells (veC vb vx zA zn zk) 74)).mono HB3.out.size)).grown hg4 (Nat.le_trans HB3.out.size (below_new w3 _).size) (fun q e => (HO3.out.lt q e).1)); clear ho4 hg4 ha4)
          | fail)
        go_roundw
        case rel => exact ⟨j + 1, X ++ (L1 ++ [⟨vb, vx, vd⟩]), (xs ++ rs.take l1) ++ [⟨vb, vx, ⟨zA, zn, zk⟩⟩], L2.drop 1, (rs.drop l1).drop 1, A6, n6, c6, rfl, by simp, hi2, HV6, Lib.hid ⟨HM4.out, by have h1 := HRN.out; have h2 := HN6.out; omega⟩, HM5, HO4, Lib.hid (by have h := HXL.out; rw [List.append_assoc X] at h; exact h), Lib.hid (HPD.out.drop 1), Lib.hid (by have h := HWW.out; simpa using h), Lib.hid (HR2.out.sub (List.drop_sublist _ _)), Lib.hid (by have h1 := HLL.out; have h2 := HLT.out; have h3 := HN6.out; simp only [List.length_append, List.length_singleton, h2]; omega), Lib.hid ⟨HMX.out.1, fun r hr => HMX.out.2 r (List.mem_of_mem_drop hr)⟩, HB4⟩
        case measure => simp [intOf]; omega
    · obtain rfl : j = k := by omega
      have hd4 : decide ((j : Int) < (j : Int)) = false := decide_eq_false (by omega)
      have hd5 : decide (j < j) = false := decide_eq_false (by omega)
      have HWE := Lib.hid (show withV P M = X ++ R by rw [HW.out, List.drop_of_length_le (by rw [HMM.out.k]; exact Nat.le_refl _)]; rfl)
      have HRL := Lib.hid (show rs = [] ∨ Sp rA from by
        rcases HS.out with h | h
        · exact .inl (List.eq_nil_of_length_eq_zero (by rw [HR.out.l]; have := HC.out; omega))
        · exact .inr h)
      go_wp2_with (first
        | (at_builtin; refine Rk.wpList_append2 rv_oko rfl (.tmp 47) (.tmp 48) rfl w.heap.size u5 xs rs rfl HOX.out rA rn rc rfl (HR.out.at_.below HBj.out) HR.out.l HRL.out (by have h1 := HLN.out; have h2 := HR.out.l; omega) HBj.out.size ?_; intro v3 w3 ho3 hg3 ha3; have HO3 := Lib.hid ho3; have HG3 := Lib.hid hg3; clear ho3 hg3 ha3)
        | fail)
      go_ret
      have hB3 : Below w.heap.size w w3 := HBj.out.grown HG3.out HBj.out.size (fun q e => (HOX.out.lt q e).1)
      have hp := HPX.out.app HPR.out
      obtain ⟨A9, c9, rfl⟩ := own_slice rv_oko HO3.out rfl
      rw [HWE.out]
      refine ⟨A9, _, c9, xs ++ rs, rfl, ?_, HO3.out, hB3, fun r hr => by rcases List.mem_append.1 hr with h | h; exact HMS.out.1 r h; exact .inl (HMS.out.2 r h)⟩
      exact (hp.below hB3).vrs (by rw [← hp.l]) (own_parts rv_oko HO3.out rfl).1
end Go.Proofs.Ytmhnjmfcenbogaa
