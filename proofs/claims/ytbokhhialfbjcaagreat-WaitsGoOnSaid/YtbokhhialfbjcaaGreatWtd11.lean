/-
  The wants, each with whom it waits for: a function that is ranged over.
-/
import Derived.Test.YtbokhhialfbjcaaGreatKo11
namespace Go.Proofs.YtbokhhialfbjcaaGreat
set_option maxRecDepth 100000
set_option linter.unusedVariables false
set_option linter.unusedSimpArgs false
open Go.RowKit Go.Shelf Go.Sort
attribute [local go_sem] Oper.semAt_some

theorem cloneI_any (A : Option Addr) (l : List Nat) (n cap : Nat) (w : World) (hl : l.length = n) (hn : n ≤ 100000) (hA : A = none ∨ ∃ b o, A = some ⟨b, o, none⟩) (hT : RI.At w A l) :
    Calls Tryz.prog 85 #[.slice A n cap] w fun e w' => ∃ A' k', e = .returned (.slice A' n k') ∧ RI.Own w' w.heap.size (.slice A' n k') l ∧ Below w.heap.size w w' := by
  subst hl
  rcases hA with rfl | ⟨b, o, rfl⟩
  · have hm0 : l = [] := by
      rcases hT with h | ⟨b, o, e, _⟩
      · exact h
      · cases e
    subst hm0
    refine (AnyE.slices_Clone_nil (P := Tryz.prog) (ρ := Tryz.cloneI_ren) Tryz.cloneI 0 cap w).mono ?_
    rintro e w' ⟨rfl, rfl⟩
    exact ⟨none, 0, rfl, World.ownsRow_nil _ _ _ _, Below.refl _ _⟩
  · obtain ⟨i0, hi, hz, hs1, hb⟩ := parts_of ri_ok.facts
    have hcells : ∀ j u, (RI.cells l)[j]? = some u → w.cell? ⟨b, o + j, none⟩ = some u := by
      rcases hT with rfl | ⟨b', o', e, _, hc⟩
      · intro j u hu; simp [Rk.cells] at hu
      · injection e with e
        injection e with e1 e2
        subst e1; subst e2
        exact hc
    refine (AnyE.slices_Clone (P := Tryz.prog) (ρ := Tryz.cloneI_ren) Tryz.cloneI i0 _ 1 8 hi hz hs1 hb rfl (by decide) Tryz.sizeOf3 b o l.length cap (RI.cells l) w (ri_ok.length l) (by unfold maxLen; omega) (by omega) hcells (ri_ok.ones l)).mono ?_
    rintro e w' ⟨v, rfl, ho, _, hb⟩
    obtain ⟨A', k', rfl, _⟩ := Rk.Own.form ri_ok (l := l) ho
    exact ⟨A', k', rfl, ho, hb⟩

theorem wp_look {b nn : Nat} {z : Value} {V : Nat → Value} {o : Oper} {a : Act} {w : World} {K : Act → World → Prop} {Q : Exit → Act → World → Prop} (m x : Operand) (mt et : TypeId) (ho : o.op = .lookup mt m x false) (hu : Tryz.prog.underlying mt = some (.map 3 et)) (hz : ∀ W, (zeroValue et).run Tryz.prog W = .ok z W)
    (hm : a.eval m = .map (some b)) {p : Nat} (hx : a.eval x = .int .i64 (p : Int)) (h : Mv w b nn z V) (hp : p < 256) (hk : K (a.put o.dst (V p)) w) : o.wp Tryz.prog a w K Q := by
  have hl := h.look mt et hu hz p hp
  unfold Oper.wp execOp
  simp [ho, hm, hx, hl, Result.andThen]
  exact hk
theorem wp_upd {P : Program} {o : Oper} {a : Act} {w w' : World} {K : Act → World → Prop} {Q : Exit → Act → World → Prop} (m x v : Operand) (t : TypeId) (ho : o.op = Op.mapUpdate t m x v) {y z u : Value} (hm : a.eval m = y) (hx : a.eval x = z) (hv : a.eval v = u)
    (hrun : (Instr.mapUpdate t y z u).run P w = .ok () w') (h : K (a.put o.dst undef) w') : o.wp P a w K Q := by
  unfold Oper.wp
  simp [execOp, ho, hm, hx, hv, hrun, Result.andThen]
  exact h
theorem wp_build_stand {W : World} {y : St} {o : Oper} {a : Act} {K : Act → World → Prop} {Q : Exit → Act → World → Prop} (x : Operand) (ho : o.op = .buildSlice 143 1 #[(0, x)]) (hx : a.eval x = stV y)
    (h : ∀ w' h', W.heap.size ≤ h' → RS.At w' (some ⟨h', 0, none⟩) [y] → Below W.heap.size W w' → K (a.put o.dst (.slice (some ⟨h', 0, none⟩) 1 1)) w') : o.wp Tryz.prog a W K Q := by
  unfold stV at hx
  unfold Oper.wp execOp
  simp only [ho, List.map_toArray, List.map_cons, List.map_nil, hx]
  go_simp
  exact h _ _ (Nat.le_refl _) (Rk.At.new rs_ok W y _) (below_new W _)

/-- whom a want waits for, of so many standings ahead -/
def idsN (T : Tr) (L : List Lk) (y : Wn) (rows : List St) : List Nat := agL T y.x y.b y.m L ++ ((rows.filter fun s => upB T L s.w y).map fun s => s.w.x)
theorem idsN_snoc (T : Tr) (L : List Lk) (y : Wn) (rows : List St) (s : St) : idsN T L y (rows ++ [s]) = idsN T L y rows ++ (if upB T L s.w y then [s.w.x] else []) := by
  unfold idsN
  rw [List.filter_append, List.map_append, ← List.append_assoc]
  congr 1
  cases h : upB T L s.w y <;> simp [h]
theorem idsN_out {T : Tr} {L : List Lk} {Q : List Wn} {i : Nat} {y : Wn} (hy : Q[i]? = some y) {rows : List St} {p : Nat} (hp : y.b = (p : Int)) (hr : rows.map St.w = (Q.take i).filter fun a => decide (a.b = (p : Int))) : idsN T L y rows = outN T L Q i := by
  have hg : Q.getD i Q0 = y := by rw [List.getD_eq_getElem?_getD, hy]; rfl
  unfold idsN outN outL
  rw [hg]
  congr 1
  have h1 : (rows.filter fun s => upB T L s.w y).map (fun s => s.w.x) = ((rows.map St.w).filter fun a => upB T L a y).map fun a => a.x := by
    rw [List.filter_map, List.map_map]; rfl
  rw [h1, hr, List.filter_filter]
  congr 1
  apply List.filter_congr
  intro a _
  unfold upB
  by_cases h : a.b = y.b
  · simp [h, hp]
  · have : ¬ a.b = (p : Int) := by omega
    simp [h, this]
theorem idsN_len (T : Tr) (L : List Lk) (y : Wn) (rows : List St) : (idsN T L y rows).length ≤ L.length + rows.length := by
  unfold idsN
  rw [List.length_append, List.length_map]
  have h1 := agL_len T y.x y.b y.m L
  have h2 := List.length_filter_le (fun s : St => upB T L s.w y) rows
  omega

set_option maxHeartbeats 4000000 in
theorem wtd1_in (gl l n : Nat) (hn : 2 ≤ n) (gq gt gx : Nat) (Aq : Option Addr) (Q : List Wn) (nq kq : Nat) (A : Option Addr) (L : List Lk) (na ka : Nat) (Ax : Option Addr) (T : Tr) (N cap : Nat) (c : Int)
    (hQ : SQ Q) (hnq : Q.length = nq) (hL : LG L) (hna : L.length = na) (hnka : na ≤ ka) (hG : Good T) (hN : T.l.length = N) (J : List Yl → World → Prop) (W : World) (hgl : gl < W.heap.size) (hll : l < W.heap.size) (hcl : Cl gl W)
    (hIn : In W.heap.size gq gt gx Aq Q nq kq A L na ka Ax T N cap c gl l W)
    (hJa : ∀ s X Y, J s X → Turn (fun k => W.heap.size ≤ k ∧ My gl l X k) X Y → J s Y)
    (hY : ∀ pre x W1, J pre W1 → YP gl T L Q x W1 → pre.length < nq → YieldAt Fence.wide (n - 1) Tryz.prog l (yC x) W1 fun e W' => e = .returned (.bool true) ∧ J (pre ++ [x]) W' ∧ Ko gl l W1 W')
    (h0 : J [] W) :
    CallsIn Fence.wide n Tryz.prog 83 #[.func (.yield l) #[] #[], .pointer (some ⟨gq, 0, none⟩), .pointer (some ⟨gt, 0, none⟩), .pointer (some ⟨gx, 0, none⟩)] W fun e W' => (∃ v, e = .returned v) ∧ ∃ xs : List Yl, xs.map Yl.i = List.range nq ∧ J xs W' := by
  have hmm := @run_makeMap Tryz.prog
  obtain ⟨B0, hB0⟩ : ∃ B0, B0 = W.heap.size := ⟨_, rfl⟩
  rw [← hB0] at hIn hJa
  have HQ := Lib.hid hQ
  have HNQ := Lib.hid hnq
  have HL := Lib.hid hL
  have HNA := Lib.hid hna
  have HG := Lib.hid hG
  have HN := Lib.hid hN
  have HCL := Lib.hid hcl
  have HIN := Lib.hid hIn
  have HJA := Lib.hid hJa
  have HY := Lib.hid hY
  have H0 := Lib.hid h0
  have HB0 := Lib.hid hB0
  have hnq64 : nq ≤ 64 := by rw [← hnq]; exact hQ.n
  have hna16 : na ≤ 16384 := by rw [← hna]; exact hL.len
  have cq0 := hIn.q.c 0 _ rfl
  clear hQ hnq hL hna hG hN hcl hIn hJa hY h0
  refine callsIn_of_wp Tryz.func83 rfl trivial ?_ rfl
  simp only [Tryz.ntmps83, List.size_toArray, List.length_cons, List.length_nil, Nat.reduceAdd, Nat.reduceSub, Array.replicate_succ, Array.replicate_zero, List.push_toArray, List.append_toArray, List.nil_append, List.cons_append]
  obtain ⟨w1, hw1⟩ : ∃ w1, w1 = W.alloc (.map #[] 0) := ⟨_, rfl⟩
  have b1 : Below W.heap.size W w1 := by rw [hw1]; exact below_new _ _
  have T1 : Turn (fun _ => False) W w1 := Turn.ofBelow b1
  have hs1 : w1.heap.size = B0 + 1 := by rw [hw1, hB0]; simp
  have cq1 : w1.cell? ⟨gq, 0, none⟩ = some (.slice Aq nq kq) := (b1.cell (block_lt_of_cell (a := ⟨gq, 0, none⟩) cq0)).trans cq0
  have HIN1 := Lib.hid (HIN.out.move T1 (fun _ _ _ h => h) (fun b hb => hb.keep T1 (fun h => h) hgl))
  have HIT1 : Hid (It B0 Q T L gl l w1 B0 0 (fun _ => nilSt) (fun _ => [])) := by
    refine ⟨by rw [hw1, hB0]; exact Mv.made W _, fun p _ => Rk.Own.nil _ _ _, fun p q k _ _ e => (by cases e), fun p _ => by simp, fun p _ s hs => (by simp at hs), fun p _ s hs => (by simp at hs), fun p _ k e => (by cases e), ⟨?_, Nat.le_refl _⟩⟩
    exact My.new HCL.out T1 (fun h => h) hgl hll (by omega) (by omega)
  have HJ1 := Lib.hid (HJA.out [] W w1 H0.out (T1.mono fun _ h => h.elim))
  have HCL1 := Lib.hid (HCL.out.keep T1 (fun h => h) hgl)
  have hgl1 : gl < w1.heap.size := by omega
  have hll1 : l < w1.heap.size := by omega
  have cq2 := cell_al (.map #[] 0) cq0
  clear H0 HIN HCL cq0 b1 T1
  gi_wp2_with fail
  rw [← hw1, ← HB0.out]
  clear hw1 cq2 cq1 hB0
  gi_loopw [16] (fun iv wr => ∃ (i : Nat) (pre : List Yl) (V : Nat → Value) (rows : Nat → List St), iv = .int .i64 (i : Int) ∧ i ≤ nq ∧ gl < wr.heap.size ∧ l < wr.heap.size ∧ B0 < wr.heap.size ∧ Hid (pre.map Yl.i = List.range i) ∧ Hid (J pre wr) ∧ Hid (It B0 Q T L gl l wr B0 i V rows) ∧ Hid (In B0 gq gt gx Aq Q nq kq A L na ka Ax T N cap c gl l wr) ∧ Hid (Cl gl wr)) (fun iv _ => nq - (intOf iv).toNat)
  case atStart => exact ⟨0, [], _, _, rfl, Nat.zero_le _, hgl1, hll1, by omega, rfl, HJ1, HIT1, HIN1, HCL1⟩
  case round =>
    obtain ⟨i, pre, V, rows, rfl, hi, hgr, hlr, hBr, hpre, hJ, hIt, hIn, hCl⟩ := hrel
    obtain ⟨wo, rfl⟩ : ∃ wo, wo = wr := ⟨_, rfl⟩
    clear HJ1 HIT1 HIN1 HCL1 hgl1 hll1 hgl hll hs1 w1
    rcases Nat.lt_or_ge i nq with hlt | hge
    · have hiq : i < Q.length := by rw [HNQ.out]; exact hlt
      obtain ⟨y, hy⟩ : ∃ y, Q[i]? = some y := ⟨Q[i]'hiq, List.getElem?_eq_getElem hiq⟩
      have hmay := HQ.out.may y (List.mem_of_getElem? hy)
      obtain ⟨b, o, hAq, _, hcy⟩ := hIn.out.rq.get rw_ok hy
      rcases y with ⟨yx, yb, ym⟩
      obtain ⟨p, hp⟩ : ∃ p : Nat, yb = (p : Int) := ⟨yb.toNat, by have := hmay.b.1; simp at this; omega⟩
      subst hp
      have hp256 : p < 256 := by have := hmay.b.2; simp at this; omega
      have cy0 : wo.cell? ⟨b, o + i * 3, none⟩ = some (.int .i64 (yx : Int)) := hcy 0 _ rfl
      have cy1 : wo.cell? ⟨b, o + i * 3 + 1, none⟩ = some (.int .i64 (p : Int)) := by have := hcy 1 _ rfl; rw [← Nat.add_assoc] at this; exact this
      have cy2 : wo.cell? ⟨b, o + i * 3 + 2, none⟩ = some (.int .i64 ym) := by have := hcy 2 _ rfl; rw [← Nat.add_assoc] at this; exact this
      obtain ⟨wa, hwa⟩ : ∃ wa, wa = wo.alloc (.cells #[.int .i64 (yx : Int), .int .i64 (p : Int), .int .i64 ym] 52) := ⟨_, rfl⟩
      have ba : Below wo.heap.size wo wa := by rw [hwa]; exact below_new _ _
      obtain ⟨g7, hg7⟩ : ∃ g7, g7 = wo.heap.size := ⟨_, rfl⟩
      have ka7 : Wb wa g7 ⟨yx, (p : Int), ym⟩ := by rw [hwa, hg7]; exact Bk.new wo _ _
      have HY7 := Lib.hid ka7
      have z0 := ka7.c 0 _ rfl
      rw [hwa, hg7] at z0
      have z1 := ka7.c 1 _ rfl
      rw [hwa, hg7] at z1
      have z2 := ka7.c 2 _ rfl
      rw [hwa, hg7] at z2
      have z3 := (hIn.out.t.below ba).c 0 _ rfl
      rw [hwa] at z3
      have z4 := (hIn.out.x.below ba).c 0 _ rfl
      rw [hwa] at z4
      have z5 := (hIn.out.x.below ba).c 1 _ rfl
      rw [hwa] at z5
      have HSTD := Lib.hid (stand_any A L na ka HNA.out hnka HL.out Ax T N cap c HN.out HG.out ⟨yx, (p : Int), ym⟩ hmay wa (hIn.out.rt.below ba) (hIn.out.rx.below ba))
      have HBA := Lib.hid ba
      have HMAY := Lib.hid hmay
      have HY2 := Lib.hid hy
      have HG7 := Lib.hid hg7
      clear hcy hy hmay ba ka7
      subst hAq
      gi_wp2_with fail
      rw [← hwa, ← hg7]
      clear hwa hg7 z0 z1 z2 z3 z4 z5 cy0 cy1 cy2
      refine ⟨trivial, fun _ => by omega, (callsIn_wide.2 HSTD.out).mono ?_⟩
      rintro e w2 ⟨s, rfl, hsw, hst, hsf, hb2⟩
      rcases s with ⟨sw, sA, sn, sc, so, sno, sco⟩
      have hsw : sw = ⟨yx, (p : Int), ym⟩ := hsw
      subst hsw
      simp only [stV]
      obtain ⟨w3, hw3⟩ : ∃ w3, w3 = w2.alloc (.cells #[.int .i64 (yx : Int), .int .i64 (p : Int), .int .i64 ym, .slice sA sn sc, .slice so sno sco] 141) := ⟨_, rfl⟩
      have b3 : Below w2.heap.size w2 w3 := by rw [hw3]; exact below_new _ _
      obtain ⟨g8, hg8⟩ : ∃ g8, g8 = w2.heap.size := ⟨_, rfl⟩
      have k8 : Sb w3 g8 ⟨⟨yx, (p : Int), ym⟩, sA, sn, sc, so, sno, sco⟩ := by rw [hw3, hg8]; exact Bk.new w2 _ _
      have z3 := k8.c 3 _ rfl
      rw [hw3, hg8] at z3
      have HB2 := Lib.hid (HBA.out.trans (hb2.mono HBA.out.size))
      have HB3 := Lib.hid (HB2.out.trans (b3.mono HB2.out.size))
      have HK8 := Lib.hid k8
      have HST := Lib.hid hst
      have HSF := Lib.hid (fun b o (e : sA = some ⟨b, o, none⟩) => (show wo.heap.size ≤ b ∧ b < w3.heap.size from by have h1 := hsf b o e; have h2 := HBA.out.size; have h3 := b3.size; omega))
      have HG8 := Lib.hid hg8
      have HY73 := Lib.hid ((HY7.out.below hb2).below b3)
      have hra : RI.At w3 sA (agL T yx (p : Int) ym L) := hst.ra.below b3
      have hrn : sn = (agL T yx (p : Int) ym L).length := hst.ha
      have hlen := agL_len T yx (p : Int) ym L
      rw [HNA.out] at hlen
      have hspA : sA = none ∨ ∃ b o, sA = some ⟨b, o, none⟩ := hst.sp
      have HCL3 := Lib.hid (cloneI_any sA (agL T yx (p : Int) ym L) sn sc w3 hrn.symm (by omega) hspA hra)
      have HRN := Lib.hid hrn
      have HRA := Lib.hid hra
      have HRO := Lib.hid (show RI.At w3 so (agL T yx (p : Int) 2 L) from hst.ro.below b3)
      clear hst hsf hb2 b3 k8 hra hrn hspA
      gi_wp2_with fail
      rw [← hw3, ← hg8]
      clear hw3 hg8 z3
      refine ⟨trivial, fun _ => by omega, (callsIn_wide.2 HCL3.out).mono ?_⟩
      rintro e w4 ⟨Ai, ki, rfl, hoi, hb4⟩
      have HB4 := Lib.hid (HB3.out.trans (hb4.mono HB3.out.size))
      have hs3 : wo.heap.size ≤ w3.heap.size := HB3.out.size
      obtain ⟨Ap, cp, hVp, hcp, _, hAp⟩ := Rk.Own.form rs_ok (hIt.out.own p hp256)
      obtain ⟨R, hR⟩ : ∃ R, R = rows p := ⟨_, rfl⟩
      obtain ⟨m, hm⟩ : ∃ m, m = R.length := ⟨_, rfl⟩
      rw [← hR, ← hm] at hVp
      have hRm : ∀ u ∈ R, u.w ∈ Q ∧ u.w.b = (p : Int) := fun u hu => by
        have h1 := hIt.out.wants p hp256
        rw [← hR] at h1
        have h2 : u.w ∈ R.map St.w := List.mem_map_of_mem hu
        rw [h1] at h2
        obtain ⟨h3, h4⟩ := List.mem_filter.1 h2
        exact ⟨List.mem_of_mem_take h3, by simpa using h4⟩
      have hm64 : m ≤ 64 := by
        have h1 := congrArg List.length (hIt.out.wants p hp256)
        rw [← hR, List.length_map, ← hm] at h1
        have h2 := List.length_filter_le (fun a : Wn => decide (a.b = (p : Int))) (Q.take i)
        rw [List.length_take] at h2
        have h3 := HNQ.out
        omega
      have hlook := (hIt.out.mp.below HB4.out).look 139 143 Tryz.underlying139 (fun W => Tryz.zeroValue143 W) p hp256
      rw [hVp] at hlook
      have z7 := (HY73.out.below hb4).c 1 _ rfl
      have HHR := Lib.hid hR
      have HHM := Lib.hid hm
      have HRM := Lib.hid hRm
      have HVP := Lib.hid hVp
      have HOI := Lib.hid hoi
      have HB34 := Lib.hid hb4
      have HAPP := Lib.hid hAp
      clear hoi hb4 hR hm hRm hVp hAp hcp
      gi_wp2_with fail
      gi_loopw [9, 32] (fun ids iv wx => ∃ r : Nat, iv = .int .i64 (r : Int) ∧ r ≤ m ∧ Hid (RI.Own wx w3.heap.size ids (idsN T L ⟨yx, (p : Int), ym⟩ (R.take r))) ∧ Hid (Below w3.heap.size w3 wx)) (fun _ iv _ => m - (intOf iv).toNat)
      case atStart => exact ⟨0, rfl, Nat.zero_le _, by show RI.Own _ _ _ (idsN T L _ (R.take 0)); unfold idsN; simpa using HOI.out, HB34.out⟩
      case round =>
        obtain ⟨r, rfl, hr, hids, hbx⟩ := hrel
        obtain ⟨wx, rfl⟩ : ∃ wx, wx = wr := ⟨_, rfl⟩
        clear hlook z7 HOI
        rcases Nat.lt_or_ge r m with hrm | hrm
        · have hRl : r < R.length := by rw [← HHM.out]; exact hrm
          obtain ⟨u, hu⟩ : ∃ u, R[r]? = some u := ⟨R[r]'hRl, List.getElem?_eq_getElem hRl⟩
          have hown := ((hIt.out.own p hp256).below HB3.out).below hbx.out
          rw [HVP.out, ← HHR.out] at hown
          obtain ⟨A', c', e', _, hatp, _⟩ := Rk.Own.form rs_ok hown
          injection e' with e1 e2 e3
          subst e1
          obtain ⟨bp, op, rfl, _, hcu⟩ := hatp.get rs_ok hu
          have hum := HRM.out u (List.mem_of_getElem? hu)
          have humay := HQ.out.may u.w hum.1
          have hstu := hIt.out.stn p hp256 u (by rw [← HHR.out]; exact List.mem_of_getElem? hu)
          obtain ⟨ux, hux⟩ : ∃ ux, ux = u.w.x := ⟨_, rfl⟩
          obtain ⟨ub, hub⟩ : ∃ ub, ub = u.w.b := ⟨_, rfl⟩
          obtain ⟨um, hum2⟩ : ∃ um, um = u.w.m := ⟨_, rfl⟩
          have d0 : wx.cell? ⟨bp, op + r * 5, none⟩ = some (.int .i64 (ux : Int)) := by rw [hux]; exact hcu 0 _ rfl
          have d1 : wx.cell? ⟨bp, op + r * 5 + 1, none⟩ = some (.int .i64 ub) := by have := hcu 1 _ rfl; rw [← Nat.add_assoc] at this; rw [hub]; exact this
          have d2 : wx.cell? ⟨bp, op + r * 5 + 2, none⟩ = some (.int .i64 um) := by have := hcu 2 _ rfl; rw [← Nat.add_assoc] at this; rw [hum2]; exact this
          have d3 : wx.cell? ⟨bp, op + r * 5 + 3, none⟩ = some (.slice u.a u.na u.ca) := by have := hcu 3 _ rfl; rw [← Nat.add_assoc] at this; exact this
          have d4 : wx.cell? ⟨bp, op + r * 5 + 4, none⟩ = some (.slice u.o u.no u.co) := by have := hcu 4 _ rfl; rw [← Nat.add_assoc] at this; exact this
          obtain ⟨wy, hwy⟩ : ∃ wy, wy = wx.alloc (.cells #[.int .i64 (ux : Int), .int .i64 ub, .int .i64 um, .slice u.a u.na u.ca, .slice u.o u.no u.co] 141) := ⟨_, rfl⟩
          obtain ⟨g11, hg11⟩ : ∃ g11, g11 = wx.heap.size := ⟨_, rfl⟩
          have by_ : Below wx.heap.size wx wy := by rw [hwy]; exact below_new _ _
          have k11 : Sb wy g11 u := by rw [hwy, hg11, hux, hub, hum2]; exact Bk.new wx _ _
          have k8y : Sb wy g8 ⟨⟨yx, (p : Int), ym⟩, sA, sn, sc, so, sno, sco⟩ := (HK8.out.below hbx.out).below by_
          have hby3 : Below w3.heap.size w3 wy := hbx.out.trans (by_.mono hbx.out.size)
          have q0 := k8y.c 0 _ rfl
          have q1 := k8y.c 1 _ rfl
          have q2 := k8y.c 2 _ rfl
          have q3 := k8y.c 3 _ rfl
          have q4 := k8y.c 4 _ rfl
          have x0 := k11.c 0 _ rfl
          have x1 := k11.c 1 _ rfl
          have x2 := k11.c 2 _ rfl
          have x3 := k11.c 3 _ rfl
          have x4 := k11.c 4 _ rfl
          rw [← hux] at x0
          rw [← hub] at x1
          rw [← hum2] at x2
          have X0 := Lib.hid x0
          rw [hwy] at q0 q1 q2 q3 q4
          rw [hwy, hg11] at x0 x1 x2 x3 x4
          have hlo := agL_len T yx (p : Int) 2 L
          rw [HNA.out] at hlo
          have hla := agL_len T u.w.x u.w.b u.w.m L
          rw [HNA.out] at hla
          have hro : RI.At wy so (agL T yx (p : Int) 2 L) := HRO.out.below hby3
          have hso : sno = (agL T yx (p : Int) 2 L).length := HST.out.ho
          have hno0 : sno ≤ 100000 := by omega
          have hna0 : u.na ≤ 100000 := by have := hstu.2; omega
          have HHELD := Lib.hid (held_any ⟨⟨yx, (p : Int), ym⟩, sA, sn, sc, so, sno, sco⟩ u (agL T yx (p : Int) 2 L) (agL T u.w.x u.w.b u.w.m L) wy hro hso.symm hno0 ((hstu.1.below HB3.out).below hby3) hstu.2.symm hna0 HMAY.out.m humay.m)
          have hup : heldB ⟨⟨yx, (p : Int), ym⟩, sA, sn, sc, so, sno, sco⟩ u (agL T yx (p : Int) 2 L) (agL T u.w.x u.w.b u.w.m L) = upB T L u.w ⟨yx, (p : Int), ym⟩ := held_up HL.out (s := ⟨⟨yx, (p : Int), ym⟩, sA, sn, sc, so, sno, sco⟩) (a := u) hum.2 humay.m
          rw [hup] at HHELD
          have htk : idsN T L ⟨yx, (p : Int), ym⟩ (R.take (r + 1)) = idsN T L ⟨yx, (p : Int), ym⟩ (R.take r) ++ (if upB T L u.w ⟨yx, (p : Int), ym⟩ then [u.w.x] else []) := by
            rw [List.take_add_one, hu]; exact idsN_snoc T L _ _ u
          have hil := idsN_len T L ⟨yx, (p : Int), ym⟩ (R.take r)
          rw [List.length_take, HNA.out] at hil
          have hil2 : (idsN T L ⟨yx, (p : Int), ym⟩ (R.take r)).length ≤ 100000 := by omega
          obtain ⟨ut, hut⟩ : ∃ ut, ut = upB T L u.w ⟨yx, (p : Int), ym⟩ := ⟨_, rfl⟩
          rw [← hut] at HHELD htk
          have HTK := Lib.hid htk
          have HIL := Lib.hid hil2
          have HBY := Lib.hid hby3
          have HUX := Lib.hid hux
          have HBX := Lib.hid by_
          have HK11 := Lib.hid k11
          have hvv : stV ⟨⟨yx, (p : Int), ym⟩, sA, sn, sc, so, sno, sco⟩ = .agg #[.int .i64 (yx : Int), .int .i64 (p : Int), .int .i64 ym, .slice sA sn sc, .slice so sno sco] := rfl
          have hvu : stV u = .agg #[.int .i64 (ux : Int), .int .i64 ub, .int .i64 um, .slice u.a u.na u.ca, .slice u.o u.no u.co] := by rw [hux, hub, hum2]; rfl
          rw [hvv, hvu] at HHELD
          clear hu hown hatp hcu hum humay hstu hlo hla hro hso hno0 hna0 hup htk hil hil2 hut hby3 hux hub hum2 by_ k11 k8y hvv hvu e2 e3
          gi_wp2_with fail
          rw [← hwy, ← hg11]
          clear q0 q1 q2 q3 q4 x0 x1 x2 x3 x4 d0 d1 d2 d3 d4 hwy
          refine ⟨trivial, fun _ => by omega, (callsIn_wide.2 HHELD.out).mono ?_⟩
          rintro e w6 ⟨rfl, hb6⟩
          have h6 := (HK11.out.below hb6).c 0 _ rfl
          rw [← HUX.out] at h6
          have HB6 := Lib.hid hb6
          have HB36 := Lib.hid (HBY.out.trans (hb6.mono HBY.out.size))
          have HID6 := Lib.hid ((hids.out.below HBX.out).below hb6)
          clear hb6 hg11
          cases ut
          · gi_wp2_with fail
            go_roundw
            case rel => exact ⟨r + 1, by simp, by omega, by have h := HTK.out; simp only [Bool.false_eq_true, if_false, List.append_nil] at h; show RI.Own _ _ _ (idsN T L _ (R.take (r + 1))); rw [h]; exact HID6.out, HB36.out⟩
            case measure => simp [intOf]; omega
          · obtain ⟨wz, hwz⟩ : ∃ wz, wz = w6.alloc (.cells #[.int .i64 (ux : Int)] 3) := ⟨_, rfl⟩
            have HAZ := Lib.hid (show RI.At wz (some ⟨w6.heap.size, 0, none⟩) [ux] by rw [hwz]; exact Rk.At.new ri_ok w6 ux _)
            have HBZ := Lib.hid (show Below w6.heap.size w6 wz by rw [hwz]; exact below_new _ _)
            have hsz6 : w3.heap.size ≤ w6.heap.size := HB36.out.size
            gi_wp2_with (first | (refine Rk.wpListIn_append ri_ok rfl _ _ rfl w3.heap.size _ _ [ux] rfl (HID6.out.below (below_new _ _)) _ 1 1 rfl (by have h := HAZ.out; rw [hwz] at h; exact h) rfl (.inr ⟨_, _, rfl⟩) (by have := HIL.out; simp; omega) (by simp; omega) ?_; intro v8 w8 ho8 hg8 hv8; have HO8 := Lib.hid ho8; have HG8 := Lib.hid hg8; clear ho8 hg8 hv8) | fail)
            go_roundw
            case rel =>
              have h := HTK.out
              simp only [if_true] at h
              rw [← HUX.out] at h
              refine ⟨r + 1, by simp, by omega, by show RI.Own _ _ _ (idsN T L _ (R.take (r + 1))); rw [h]; exact HO8.out, ?_⟩
              exact (HB36.out.trans ((below_new w6 _).mono hsz6)).grown HG8.out (by simp; omega) (fun q e => (HID6.out.lt q e).1)
            case measure => simp [intOf]; omega
        · obtain rfl : r = m := by omega
          have hidF : RI.Own wx w3.heap.size u9 (outN T L Q i) := by
            have h1 := hids.out
            rw [List.take_of_length_le (by rw [← HHM.out]; exact Nat.le_refl _)] at h1
            rw [← idsN_out (rows := R) HY2.out rfl (by rw [HHR.out]; exact hIt.out.wants p hp256)]
            exact h1
          obtain ⟨A9, c9, rfl, hc9, hat9, hsp9⟩ := Rk.Own.form ri_ok hidF
          have Bx : Below wo.heap.size wo wx := HB3.out.trans (hbx.out.mono HB3.out.size)
          have Tx : Turn (fun _ => False) wo wx := Turn.ofBelow Bx
          have mk : ∀ b, My gl l wo b → My gl l wx b := fun b hb => hb.keep Tx (fun h => h) hgr
          have Itx := hIt.out.move Tx (fun _ _ h => h) mk
          have Inx := hIn.out.move Tx (fun _ _ _ h => h) mk
          have Clx := hCl.out.keep Tx (fun h => h) hgr
          have k7x : Wb wx g7 ⟨yx, (p : Int), ym⟩ := HY73.out.below hbx.out
          have k8x : Sb wx g8 ⟨⟨yx, (p : Int), ym⟩, sA, sn, sc, so, sno, sco⟩ := HK8.out.below hbx.out
          have h7m : wo.heap.size ≤ g7 := by rw [HG7.out]; exact Nat.le_refl _
          have h8m : wo.heap.size ≤ g8 := by have h1 := HB2.out.size; have h2 := HG8.out; omega
          have m7 : My gl l wx g7 := My.new hCl.out Tx (fun h => h) hgr hlr h7m k7x.lt
          have m8 : My gl l wx g8 := My.new hCl.out Tx (fun h => h) hgr hlr h8m k8x.lt
          have hxg : gl < wx.heap.size := Nat.lt_of_lt_of_le hgr Bx.size
          have hxl : l < wx.heap.size := Nat.lt_of_lt_of_le hlr Bx.size
          have hpl : pre.length = i := by have h := congrArg List.length hpre.out; rwa [List.length_map, List.length_range] at h
          have hg0 : Q.getD i Q0 = ⟨yx, (p : Int), ym⟩ := by rw [List.getD_eq_getElem?_getD, HY2.out]; rfl
          have Jx := HJA.out pre wo wx hJ.out (Tx.mono fun _ h => h.elim)
          have rax := HRA.out.below hbx.out
          have hsfx : ∀ b o, sA = some ⟨b, o, none⟩ → My gl l wx b ∧ b ≠ B0 ∧ ∀ q, q < 256 → (V q).ownBlock ≠ some b := fun b o e => by
            have h1 := HSF.out b o e
            have h2 := hbx.out.size
            exact ⟨My.new hCl.out Tx (fun h => h) hgr hlr h1.1 (by omega), by omega, fun q hq e2 => by have := (hIt.out.own q hq).lt b e2; omega⟩
          obtain ⟨fn, tmps, assign, body, hy, hR⟩ := HY.out pre ⟨i, ⟨yx, (p : Int), ym⟩, A9, (outN T L Q i).length, c9⟩ wx Jx ⟨hiq, hg0.symm, rfl, hat9, fun b o e => by
            rcases hsp9 with h | ⟨g, h, h2, h3⟩
            · have e : A9 = some ⟨b, o, none⟩ := e
              rw [h] at e; cases e
            · have e : A9 = some ⟨b, o, none⟩ := e
              rw [h] at e
              injection e with e
              injection e with e1
              subst e1
              have hm := My.new (l := l) (b := g) hCl.out Tx (fun h => h) hgr hlr (by omega) h3
              exact ⟨hm.2.1, hm.2.2.2⟩⟩ (by omega)
          dsimp only [yC, wnV] at hy
          have a0 := k7x.c 0 _ rfl
          have a1 := k7x.c 1 _ rfl
          have a2 := k7x.c 2 _ rfl
          have HITX := Lib.hid Itx
          have HINX := Lib.hid Inx
          have HCLX := Lib.hid Clx
          have HM7 := Lib.hid m7
          have HM8 := Lib.hid m8
          have HK7X := Lib.hid k7x
          have HK8X := Lib.hid k8x
          have HSFX := Lib.hid hsfx
          have HRAX := Lib.hid rax
          have HPL := Lib.hid hpl
          have HXG := Lib.hid hxg
          have HXL := Lib.hid hxl
          have HBXS := Lib.hid Bx.size
          clear Itx Inx Clx m7 m8 k7x k8x hsfx rax hpl hxg hxl Jx Tx Bx mk hat9 hsp9 hidF hids hbx hc9 hg0
          gi_wp2_with fail
          refine ⟨fun _ => by omega, hR.mono ?_⟩
          rintro e W3 ⟨rfl, hJ3, hk3⟩
          clear hR hy a0 a1 a2
          have It3 := HITX.out.move hk3.turn (fun b hb h => h hb) hk3.my
          have In3 := HINX.out.move hk3.turn (fun b hb _ h => h hb) hk3.my
          have Cl3 := hk3.cl HCLX.out
          have k73 : Wb W3 g7 ⟨yx, (p : Int), ym⟩ := HK7X.out.turn hk3.turn (fun h => h HM7.out)
          have k83 : Sb W3 g8 ⟨⟨yx, (p : Int), ym⟩, sA, sn, sc, so, sno, sco⟩ := HK8X.out.turn hk3.turn (fun h => h HM8.out)
          have hn7 : ¬ (g7 = B0 ∨ (V p).ownBlock = some g7) := fun h => by
            rcases h with h | h
            · omega
            · have := (hIt.out.own p hp256).lt g7 h; omega
          have hn8 : ¬ (g8 = B0 ∨ (V p).ownBlock = some g8) := fun h => by
            rcases h with h | h
            · omega
            · have := (hIt.out.own p hp256).lt g8 h; omega
          have e1 : ∀ U, Turn (fun q => q = B0 ∨ (V p).ownBlock = some q) W3 U → U.cell? ⟨g7, 1, none⟩ = some (.int .i64 (p : Int)) := fun U hU => (k73.turn hU hn7).c 1 _ rfl
          have f0 : ∀ U, Turn (fun q => q = B0 ∨ (V p).ownBlock = some q) W3 U → U.cell? ⟨g8, 0, none⟩ = some (.int .i64 (yx : Int)) := fun U hU => (k83.turn hU hn8).c 0 _ rfl
          have f1 : ∀ U, Turn (fun q => q = B0 ∨ (V p).ownBlock = some q) W3 U → U.cell? ⟨g8, 1, none⟩ = some (.int .i64 (p : Int)) := fun U hU => (k83.turn hU hn8).c 1 _ rfl
          have f2 : ∀ U, Turn (fun q => q = B0 ∨ (V p).ownBlock = some q) W3 U → U.cell? ⟨g8, 2, none⟩ = some (.int .i64 ym) := fun U hU => (k83.turn hU hn8).c 2 _ rfl
          have f3 : ∀ U, Turn (fun q => q = B0 ∨ (V p).ownBlock = some q) W3 U → U.cell? ⟨g8, 3, none⟩ = some (.slice sA sn sc) := fun U hU => (k83.turn hU hn8).c 3 _ rfl
          have f4 : ∀ U, Turn (fun q => q = B0 ∨ (V p).ownBlock = some q) W3 U → U.cell? ⟨g8, 4, none⟩ = some (.slice so sno sco) := fun U hU => (k83.turn hU hn8).c 4 _ rfl
          have HMP3 := Lib.hid (show Mv (World.drew W3) B0 i nilSt V from It3.mp)
          have HOW3 := Lib.hid (show RS.Own W3 B0 (V p) R by have h := It3.own p hp256; rwa [← HHR.out] at h)
          have HNB := Lib.hid (show (V p).ownBlock ≠ some B0 from fun e => (It3.myo p hp256 B0 e).2 rfl)
          have HB03 := Lib.hid (show B0 ≤ W3.heap.size from by have h1 := hk3.turn.size; have h2 := HBXS.out; omega)
          have HIT3 := Lib.hid It3
          have HIN3 := Lib.hid In3
          have HCL3' := Lib.hid Cl3
          have HJ3 := Lib.hid hJ3
          have HK3 := Lib.hid hk3
          have HFIN : ∀ (v8 : Value) (w7 w8 w9 : World), Below (World.drew W3).heap.size (World.drew W3) w7 → RS.Own w8 B0 v8 (R ++ [(⟨⟨yx, (p : Int), ym⟩, sA, sn, sc, so, sno, sco⟩ : St)]) → w7.grownBy w8 (V p).ownBlock → (v8.ownBlock = (V p).ownBlock ∨ v8.ownBlock = some w7.heap.size) → Mv w9 B0 (i + 1) nilSt (fun q => if q = p then v8 else V q) → w8.grownBy w9 (some B0) →
              (gl < w9.heap.size ∧ l < w9.heap.size ∧ B0 < w9.heap.size ∧ Hid ((pre ++ [(⟨i, ⟨yx, (p : Int), ym⟩, A9, (outN T L Q i).length, c9⟩ : Yl)]).map Yl.i = List.range (i + 1)) ∧ Hid (J (pre ++ [(⟨i, ⟨yx, (p : Int), ym⟩, A9, (outN T L Q i).length, c9⟩ : Yl)]) w9) ∧ Hid (It B0 Q T L gl l w9 B0 (i + 1) (fun q => if q = p then v8 else V q) (fun q => if q = p then rows p ++ [(⟨⟨yx, (p : Int), ym⟩, sA, sn, sc, so, sno, sco⟩ : St)] else rows q)) ∧ Hid (In B0 gq gt gx (some ⟨b, o, none⟩) Q nq kq A L na ka Ax T N cap c gl l w9) ∧ Hid (Cl gl w9)) := by
            intro v8 w7 w8 w9 hb7 ho8 hg8 hv8 hm9 hg9
            have T37 : Turn (fun _ => False) W3 w7 := (Turn.refl _ W3).drew.trans (Turn.ofBelow hb7)
            have T38 : Turn (fun k => (V p).ownBlock = some k) W3 w8 := (T37.mono fun _ h => h.elim).trans ((Turn.refl _ _).grown hg8 (fun j e => .inl e))
            have T39 : Turn (fun k => k = B0 ∨ (V p).ownBlock = some k) W3 w9 := (T38.mono fun _ h => .inr h).trans ((Turn.refl _ _).grown hg9 (fun j e => .inl (.inl (by injection e with e; exact e.symm))))
            have hg3 : gl < W3.heap.size := Nat.lt_of_lt_of_le HXG.out hk3.turn.size
            have hl3 : l < W3.heap.size := Nat.lt_of_lt_of_le HXL.out hk3.turn.size
            have hb3 : B0 < W3.heap.size := It3.mym.1.1
            have ngl : ¬ (gl = B0 ∨ (V p).ownBlock = some gl) := fun e => by
              rcases e with e | e
              · exact It3.mym.1.2.1 e.symm
              · exact (It3.myo p hp256 gl e).1.2.1 rfl
            have hmk : ∀ k, My gl l W3 k → My gl l w9 k := fun k h => h.keep T39 ngl hg3
            have hs39 := T39.size
            refine ⟨by omega, by omega, by omega, ?_, ?_, ?_, ?_, ?_⟩
            · show (pre ++ [_]).map Yl.i = _
              rw [List.map_append, hpre.out, List.range_succ]; rfl
            · exact HJA.out _ W3 w9 hJ3 (T39.mono fun k e => by
                rcases e with e | e
                · exact ⟨by omega, by rw [e]; exact It3.mym.1⟩
                · exact ⟨((It3.own p hp256).lt k e).1, (It3.myo p hp256 k e).1⟩)
            · exact It3.step Cl3 hg3 hl3 HY2.out hp256 rfl (s := (⟨⟨yx, (p : Int), ym⟩, sA, sn, sc, so, sno, sco⟩ : St)) rfl (HRAX.out.turn hk3.turn (fun b o e => .inr (fun h => h (HSFX.out b o e).1))) HRN.out (fun b o e => ⟨hk3.my b (HSFX.out b o e).1, (HSFX.out b o e).2⟩) (by rw [← HHR.out]; exact ho8) T38 (fun k e => by
                rcases hv8 with h | h
                · exact .inl (h ▸ e)
                · rw [h] at e; injection e with e; exact .inr (by rw [← e]; exact T37.size)) hm9 hg9
            · exact In3.move T39 (fun k hk hk2 e => by
                rcases e with e | e
                · omega
                · have := ((It3.own p hp256).lt k e).1; omega) hmk
            · exact Cl3.keep T39 ngl hg3
          have HFIN := Lib.hid HFIN
          clear It3 In3 Cl3 k73 k83 hn7 hn8 hJ3 hk3
          gi_wp2_with fail
          refine wpIn_wide.2 ?_
          refine wp_region_turn (X := (fun q => q = B0 ∨ (V p).ownBlock = some q)) (by kernel_rfl) ?_
          have hS : Turn (fun q => q = B0 ∨ (V p).ownBlock = some q) W3 (World.drew W3) := (Turn.refl _ _).drew
          refine wpAnyH_take (i := 0) (oi := ⟨some 51, _, _, _, _, _⟩) (v := ?_) rfl (by kernel_rfl) (by kernel_rfl) (by kernel_rfl) (fun _ _ _ h => h) (Or.inl ⟨by rfl, ?_⟩) hS ?_
          rotate_left
          · intro W hW; go_simp; with_reducible rfl
          try simp only [Act.put, List.setIfInBounds_toArray, List.set_cons_zero, List.set_cons_succ]
          refine wpAnyH_take (i := 1) (oi := ⟨some 52, _, _, _, _, _⟩) (v := ?_) rfl (by kernel_rfl) (by kernel_rfl) (by kernel_rfl) (fun _ _ _ h => h) (Or.inl ⟨by rfl, ?_⟩) hS ?_
          rotate_left
          · intro W hW; go_simp; with_reducible rfl
          try simp only [Act.put, List.setIfInBounds_toArray, List.set_cons_zero, List.set_cons_succ]
          refine wpAnyH_take (i := 2) (oi := ⟨some 53, _, _, _, _, _⟩) (v := ?_) rfl (by kernel_rfl) (by kernel_rfl) (by kernel_rfl) (fun _ _ _ h => h) (Or.inl ⟨by rfl, ?_⟩) hS ?_
          rotate_left
          · intro W hW; go_simp; with_reducible rfl
          try simp only [Act.put, List.setIfInBounds_toArray, List.set_cons_zero, List.set_cons_succ]
          refine wpAnyH_take (i := 3) (oi := ⟨some 54, _, _, _, _, _⟩) (v := ?_) rfl (by kernel_rfl) (by kernel_rfl) (by kernel_rfl) (fun _ _ _ h => h) (Or.inl ⟨by rfl, ?_⟩) hS ?_
          rotate_left
          · intro W hW; go_simp; with_reducible rfl
          try simp only [Act.put, List.setIfInBounds_toArray, List.set_cons_zero, List.set_cons_succ]
          refine wpAnyH_take (i := 4) (oi := ⟨some 55, _, _, _, _, _⟩) (v := ?_) rfl (by kernel_rfl) (by kernel_rfl) (by kernel_rfl) (fun _ _ _ h => h) (Or.inl ⟨by rfl, ?_⟩) hS ?_
          rotate_left
          · intro W hW; go_simp; with_reducible rfl
          try simp only [Act.put, List.setIfInBounds_toArray, List.set_cons_zero, List.set_cons_succ]
          refine wpAnyH_take (i := 5) (oi := ⟨some 56, _, _, _, _, _⟩) (v := ?_) rfl (by kernel_rfl) (by kernel_rfl) (by kernel_rfl) (fun _ _ _ h => h) (Or.inl ⟨by rfl, ?_⟩) hS ?_
          rotate_left
          · intro W hW; go_simp; with_reducible rfl
          try simp only [Act.put, List.setIfInBounds_toArray, List.set_cons_zero, List.set_cons_succ]
          refine wpAnyH_take (i := 7) (oi := ⟨some 58, _, _, _, _, _⟩) (v := ?_) rfl (by kernel_rfl) (by kernel_rfl) (by kernel_rfl) (fun _ _ _ h => h) (Or.inl ⟨by rfl, ?_⟩) hS ?_
          rotate_left
          · intro W hW; go_simp; with_reducible rfl
          try simp only [Act.put, List.setIfInBounds_toArray, List.set_cons_zero, List.set_cons_succ]
          refine wpAnyH_ready (rs := [6, 8]) (by kernel_rfl) (by simp) ?_
          refine AllReadyH.cons (o := ⟨some 57, _, _, _, _, _⟩) rfl (fun Kr hKr => ?_) (AllReadyH.cons (o := ⟨some 59, _, _, _, _, _⟩) rfl (fun Kr hKr => ?_) AllReadyH.nil)
          · skip
            -- operation 6: a step
            refine wp_look (.tmp 54) (.tmp 56) 139 143 rfl Tryz.underlying139 (fun W => Tryz.zeroValue143 W) rfl rfl (by first | exact HMP3.out | exact Mv.below (show Mv (World.drew W3) B0 i nilSt V from HMP3.out) hb7) hp256 ?_
            show Kr _ _
            refine hKr.out _ _ ?_ (fun _ => ?_)
            · exact hS
            clear hKr Kr
            try simp only [Act.put, List.setIfInBounds_toArray, List.set_cons_zero, List.set_cons_succ]
            refine wpAnyH_ready (rs := [8]) (by kernel_rfl) (by simp) ?_
            refine AllReadyH.cons (o := ⟨some 59, _, _, _, _, _⟩) rfl (fun Kr hKr => ?_) AllReadyH.nil
            -- operation 8: a step
            refine wp_build_stand (y := ⟨⟨yx, (p : Int), ym⟩, sA, sn, sc, so, sno, sco⟩) _ rfl rfl ?_
            intro w7 g7' hg7' hat7 hb7
            show Kr _ _
            refine hKr.out _ _ ?_ (fun _ => ?_)
            · exact hS.trans (Turn.ofBelow hb7)
            clear hKr Kr
            replace hS : Turn (fun q => q = B0 ∨ (V p).ownBlock = some q) W3 w7 := hS.trans (Turn.ofBelow hb7)
            try simp only [Act.put, List.setIfInBounds_toArray, List.set_cons_zero, List.set_cons_succ]
            refine wpAnyH_ready (rs := [9]) (by kernel_rfl) (by simp) ?_
            refine AllReadyH.cons (o := ⟨some 60, _, _, _, _, _⟩) rfl (fun Kr hKr => ?_) AllReadyH.nil
            -- operation 9: a step
            refine Rk.wp_append rs_ok _ _ rfl B0 (V p) R [⟨⟨yx, (p : Int), ym⟩, sA, sn, sc, so, sno, sco⟩] rfl (Rk.Own.below (show RS.Own (World.drew W3) B0 (V p) R from HOW3.out) hb7) _ 1 1 rfl hat7 rfl (.inr ⟨_, _, rfl⟩) (by have := HHM.out; simp; omega) (Nat.le_trans HB03.out hS.size) ?_
            intro v8 w8 ho8 hg8 hv8
            obtain ⟨w9, hrun9, hmv9, hg9⟩ := (((show Mv (World.drew W3) B0 i nilSt V from HMP3.out).below hb7).turn (S := fun q => (V p).ownBlock = some q) ((Turn.refl _ _).grown hg8 (fun q e => .inl e)) (fun e => HNB.out e)).upd 139 143 Tryz.underlying139 (by omega) p hp256 v8
            show Kr _ _
            refine hKr.out _ _ ?_ (fun _ => ?_)
            · exact hS.grown hg8 (fun q e => .inl (.inr e))
            clear hKr Kr
            replace hS : Turn (fun q => q = B0 ∨ (V p).ownBlock = some q) W3 w8 := hS.grown hg8 (fun q e => .inl (.inr e))
            try simp only [Act.put, List.setIfInBounds_toArray, List.set_cons_zero, List.set_cons_succ]
            refine wpAnyH_ready (rs := [10]) (by kernel_rfl) (by simp) ?_
            refine AllReadyH.cons (o := ⟨none, _, _, _, _, _⟩) rfl (fun Kr hKr => ?_) AllReadyH.nil
            -- operation 10: a step
            refine wp_upd (.tmp 51) (.tmp 53) (.tmp 60) 139 rfl rfl rfl rfl hrun9 ?_
            show Kr _ _
            refine hKr.out _ _ ?_ (fun _ => ?_)
            · exact hS.grown hg9 (fun q e => .inl (.inl (by injection e with e; exact e.symm)))
            clear hKr Kr
            replace hS : Turn (fun q => q = B0 ∨ (V p).ownBlock = some q) W3 w9 := hS.grown hg9 (fun q e => .inl (.inl (by injection e with e; exact e.symm)))
            try simp only [Act.put, List.setIfInBounds_toArray, List.set_cons_zero, List.set_cons_succ]
            refine wpAnyH_done (by kernel_rfl) ?_ _
            gi_wp2_with fail
            go_roundw
            case rel =>
              obtain ⟨h1, h2, h3, h4, h5, h6, h7, h8⟩ := HFIN.out _ _ _ _ hb7 ho8 hg8 hv8 hmv9 hg9
              exact ⟨i + 1, _, _, _, by simp, by omega, h1, h2, h3, h4, h5, h6, h7, h8⟩
            case measure => simp [intOf]; omega
          · skip
            -- operation 8: a step
            refine wp_build_stand (y := ⟨⟨yx, (p : Int), ym⟩, sA, sn, sc, so, sno, sco⟩) _ rfl rfl ?_
            intro w7 g7' hg7' hat7 hb7
            show Kr _ _
            refine hKr.out _ _ ?_ (fun _ => ?_)
            · exact hS.trans (Turn.ofBelow hb7)
            clear hKr Kr
            replace hS : Turn (fun q => q = B0 ∨ (V p).ownBlock = some q) W3 w7 := hS.trans (Turn.ofBelow hb7)
            try simp only [Act.put, List.setIfInBounds_toArray, List.set_cons_zero, List.set_cons_succ]
            refine wpAnyH_ready (rs := [6]) (by kernel_rfl) (by simp) ?_
            refine AllReadyH.cons (o := ⟨some 57, _, _, _, _, _⟩) rfl (fun Kr hKr => ?_) AllReadyH.nil
            -- operation 6: a step
            refine wp_look (.tmp 54) (.tmp 56) 139 143 rfl Tryz.underlying139 (fun W => Tryz.zeroValue143 W) rfl rfl (by first | exact HMP3.out | exact Mv.below (show Mv (World.drew W3) B0 i nilSt V from HMP3.out) hb7) hp256 ?_
            show Kr _ _
            refine hKr.out _ _ ?_ (fun _ => ?_)
            · exact hS
            clear hKr Kr
            try simp only [Act.put, List.setIfInBounds_toArray, List.set_cons_zero, List.set_cons_succ]
            refine wpAnyH_ready (rs := [9]) (by kernel_rfl) (by simp) ?_
            refine AllReadyH.cons (o := ⟨some 60, _, _, _, _, _⟩) rfl (fun Kr hKr => ?_) AllReadyH.nil
            -- operation 9: a step
            refine Rk.wp_append rs_ok _ _ rfl B0 (V p) R [⟨⟨yx, (p : Int), ym⟩, sA, sn, sc, so, sno, sco⟩] rfl (Rk.Own.below (show RS.Own (World.drew W3) B0 (V p) R from HOW3.out) hb7) _ 1 1 rfl hat7 rfl (.inr ⟨_, _, rfl⟩) (by have := HHM.out; simp; omega) (Nat.le_trans HB03.out hS.size) ?_
            intro v8 w8 ho8 hg8 hv8
            obtain ⟨w9, hrun9, hmv9, hg9⟩ := (((show Mv (World.drew W3) B0 i nilSt V from HMP3.out).below hb7).turn (S := fun q => (V p).ownBlock = some q) ((Turn.refl _ _).grown hg8 (fun q e => .inl e)) (fun e => HNB.out e)).upd 139 143 Tryz.underlying139 (by omega) p hp256 v8
            show Kr _ _
            refine hKr.out _ _ ?_ (fun _ => ?_)
            · exact hS.grown hg8 (fun q e => .inl (.inr e))
            clear hKr Kr
            replace hS : Turn (fun q => q = B0 ∨ (V p).ownBlock = some q) W3 w8 := hS.grown hg8 (fun q e => .inl (.inr e))
            try simp only [Act.put, List.setIfInBounds_toArray, List.set_cons_zero, List.set_cons_succ]
            refine wpAnyH_ready (rs := [10]) (by kernel_rfl) (by simp) ?_
            refine AllReadyH.cons (o := ⟨none, _, _, _, _, _⟩) rfl (fun Kr hKr => ?_) AllReadyH.nil
            -- operation 10: a step
            refine wp_upd (.tmp 51) (.tmp 53) (.tmp 60) 139 rfl rfl rfl rfl hrun9 ?_
            show Kr _ _
            refine hKr.out _ _ ?_ (fun _ => ?_)
            · exact hS.grown hg9 (fun q e => .inl (.inl (by injection e with e; exact e.symm)))
            clear hKr Kr
            replace hS : Turn (fun q => q = B0 ∨ (V p).ownBlock = some q) W3 w9 := hS.grown hg9 (fun q e => .inl (.inl (by injection e with e; exact e.symm)))
            try simp only [Act.put, List.setIfInBounds_toArray, List.set_cons_zero, List.set_cons_succ]
            refine wpAnyH_done (by kernel_rfl) ?_ _
            gi_wp2_with fail
            go_roundw
            case rel =>
              obtain ⟨h1, h2, h3, h4, h5, h6, h7, h8⟩ := HFIN.out _ _ _ _ hb7 ho8 hg8 hv8 hmv9 hg9
              exact ⟨i + 1, _, _, _, by simp, by omega, h1, h2, h3, h4, h5, h6, h7, h8⟩
            case measure => simp [intOf]; omega
    · obtain rfl : i = nq := by omega
      gi_wp2
      go_end0
      exact ⟨⟨_, rfl⟩, pre, hpre.out, hJ.out⟩
end Go.Proofs.YtbokhhialfbjcaaGreat
