/-
  A parent has what a transaction has pending.
-/
import Derived.Test.YtogngghfdcpeaaaKn
import Derived.Test.YtogngghfdcpeaaaRm
namespace Go.Proofs.Ytogngghfdcpeaaa
set_option maxRecDepth 100000
set_option linter.unusedVariables false
set_option linter.unusedSimpArgs false
open Go.RowKit

def passF (par : Int) : FuncId := if par < 0 then 47 else 33
theorem passF_enters (par : Int) : ∀ args w, (callFunc (passF par) args).run Try.prog w = .ok (.enter (passF par) args) w := by
  unfold passF
  split
  · exact enters_of Try.func47 (by kernel_rfl) rfl
  · exact enters_of Try.func33 (by kernel_rfl) rfl

/-- one who takes over, with these counters and pends now; those that are gone through are of counters up to lim -/
def PsAt (W : World) (g B0 : Nat) (par : Int) (cA : Option Addr) (n cc : Nat) (C : List Ct) (P : List Pd) (lim : Int) (bl : Nat) : Prop :=
  ∃ pv X rA rn rc R, Hr W g B0 par cA n cc C pv X rA rn rc R ∧ X ++ R = P ∧ Rise R ∧ (∀ y ∈ X, y.c ≤ lim) ∧ ∀ q, pv.ownBlock = some q → q ≠ bl
theorem PsAt.below {W V : World} {g B0 : Nat} {par : Int} {cA : Option Addr} {n cc : Nat} {C : List Ct} {P : List Pd} {lim : Int} {bl : Nat} (h : PsAt W g B0 par cA n cc C P lim bl) (hb : Below W.heap.size W V) : PsAt V g B0 par cA n cc C P lim bl := by
  obtain ⟨pv, X, rA, rn, rc, R, h1, h2⟩ := h
  exact ⟨pv, X, rA, rn, rc, R, h1.below hb, h2⟩

theorem pstep_any (g B0 : Nat) (par : Int) (cA : Option Addr) (n cc : Nat) (C : List Ct) (P : List Pd) (lim : Int) (k : Nat) (hk : k < n) (hlim : lim < (k : Int)) (x u d : Int) (hz : ¬ (u = 0 ∧ d = 0)) (hP : P.length ≤ 10000) (bl : Nat) (w : World) (hbl : bl < w.heap.size ∧ bl ≠ g) (h : PsAt w g B0 par cA n cc C P lim bl) :
    Calls Try.prog (passF par) #[.pointer (some ⟨g, 0, none⟩), pdV (k : Int) x u d] w fun e w' => e = .returned (.tuple #[]) ∧
      (∃ C' P', passStep par ⟨C, P⟩ ⟨(k : Int), x, u, d⟩ = ⟨C', P'⟩ ∧ PsAt w' g B0 par cA n cc C' P' (k : Int) bl) ∧ Turn (fun q => (Value.slice cA n cc).ownBlock = some q ∨ (g ≤ q ∧ q ≠ bl)) w w' := by
  obtain ⟨pv, X, rA, rn, rc, R, h1, h2, h3, h4, h5⟩ := h
  by_cases hp : par < 0
  · rw [step_none hp]
    unfold passF
    rw [if_pos hp]
    refine (fix_any g B0 par cA n cc C pv X rA rn rc R k hk x u d w h1).mono ?_
    rintro e w' ⟨he, hh, ht⟩
    exact ⟨he, ⟨_, _, rfl, pv, X, rA, rn, rc, R, hh, h2, h3, fun y hy => by have := h4 y hy; omega, h5⟩, ht.mono (fun q e => .inl e)⟩
  · rw [step_some hp]
    unfold passF
    rw [if_neg hp]
    obtain ⟨L1, L2, hs, q1, q2⟩ := rise_split h3 (keyP (k : Int) par)
    have hl : X.length + rn = P.length := by rw [← h2, List.length_append, h1.rl]
    refine (keep_any g B0 par cA n cc C pv X rA rn rc R L1 L2 (k : Int) x u d w h1 hs q1 q2 (by omega)).mono ?_
    rintro e w' ⟨he, ⟨pv', rA', rn', rc', hh, hn⟩, ht⟩
    have hr2 : Rise L2 := h3.sub (by rw [hs]; exact List.sublist_append_right _ _)
    refine ⟨he, ⟨_, _, rfl, pv', _, rA', rn', rc', _, hh, ?_, ?_, ?_, ?_⟩, ht.mono (fun q h => .inr (by rcases h with h | h; exact ⟨by omega, by omega⟩; exact ⟨by have := (h1.past.lt q h).1; omega, h5 q h⟩))⟩
    · rw [← h2, with_behind (p := ⟨(k : Int), par, u, d⟩) hz (fun y hy => .inl (by have := h4 y hy; show y.c < (k : Int); omega)) h3]
      rw [hs, with_rise (p := ⟨(k : Int), par, u, d⟩) hz q1 q2 hr2, putP_eq]
      simp
    · cases L2 with
      | nil => exact List.Pairwise.nil
      | cons y r =>
        by_cases hc : y.c = (k : Int) ∧ y.x = par
        · rw [show putT ⟨(k : Int), par, u, d⟩ (y :: r) = r from if_pos hc]; exact (List.pairwise_cons.1 hr2).2
        · rw [show putT ⟨(k : Int), par, u, d⟩ (y :: r) = y :: r from if_neg hc]; exact hr2
    · intro y hy
      rcases List.mem_append.1 hy with hy | hy
      · rcases List.mem_append.1 hy with hy | hy
        · have := h4 y hy; omega
        · have := q1 y hy
          unfold Pd.L keyP at this
          simp only at this
          omega
      · have : y = putH ⟨(k : Int), par, u, d⟩ L2 := by simpa using hy
        rw [this]
        cases L2 with
        | nil => exact Int.le_refl _
        | cons y r =>
          by_cases hc : y.c = (k : Int) ∧ y.x = par
          · rw [show putH ⟨(k : Int), par, u, d⟩ (y :: r) = ⟨(k : Int), par, w64 (u + y.u), w64 (d + y.d)⟩ from if_pos hc]; exact Int.le_refl _
          · rw [show putH ⟨(k : Int), par, u, d⟩ (y :: r) = ⟨(k : Int), par, u, d⟩ from if_neg hc]; exact Int.le_refl _
    · intro q e
      rcases hn q e with h | h
      · exact h5 q h
      · omega

theorem ofL_rise {P : List Pd} (h : Rise P) (x : Int) {j : Nat} {p q : Pd} (hp : (ofL P x)[j]? = some p) (hq : q ∈ (ofL P x).drop (j + 1)) : p.c < q.c := by
  have h1 : Rise (ofL P x) := h.sub List.filter_sublist
  obtain ⟨i, hi, rfl⟩ := List.getElem_of_mem hq
  rw [List.getElem_drop]
  have hj : j < (ofL P x).length := (List.getElem?_eq_some_iff.1 hp).1
  have hp2 : (ofL P x)[j] = p := (List.getElem?_eq_some_iff.1 hp).2
  rw [List.length_drop] at hi
  have h2 := List.pairwise_iff_getElem.1 h1 j (j + 1 + i) hj (by omega) (by omega)
  rw [hp2] at h2
  have hx1 : p.x = x := by
    have := List.getElem_mem hj
    rw [hp2] at this
    exact of_decide_eq_true (List.mem_filter.1 this).2
  have hx2 : ((ofL P x)[j + 1 + i]'(by omega)).x = x := of_decide_eq_true (List.mem_filter.1 (List.getElem_mem (show j + 1 + i < (ofL P x).length by omega))).2
  unfold Pd.L at h2
  omega

set_option maxHeartbeats 4000000 in
theorem ppass_any (A B : Option Addr) (n a m b : Nat) (t : Tb) (x par : Int) (hx : okI x) (hpar : okI par) (hn : n ≤ 300) (hm : m ≤ 300) (hup : Rise t.P) (hmay : ∀ p ∈ t.P, PdMay n p) (w : World) (ht : TbO w A n a B m b t) :
    Calls Try.prog 18 #[tbV A n a B m b, .int .i64 x, .int .i64 par] w fun e w' => ∃ A' a' B' m' b', e = .returned (tbV A' n a' B' m' b') ∧ TbO w' A' n a' B' m' b' (t.pass x par) ∧ Below w.heap.size w w' := by
  have HT := Lib.hid ht
  have HUP := Lib.hid hup
  have HMY := Lib.hid hmay
  have HOX := Lib.hid hx
  have HOP := Lib.hid hpar
  have HX := Lib.hid ((Bk.new w (tbC A n a B m b) 34).al (.cells #[.slice none 0 0, .slice none 0 0] 34))
  have hz0 := Bk.new (w.alloc (.cells (tbC A n a B m b) 34)) #[.slice none 0 0, .slice none 0 0] 34
  rw [size_al] at hz0
  have HZ := Lib.hid hz0
  have HB := Lib.hid (below_two (below_new w (.cells (tbC A n a B m b) 34)) (below_new _ (.cells #[.slice none 0 0, .slice none 0 0] 34)))
  have HPE := Lib.hid (t.pass_eq x par)
  generalize t.pass x par = res at *
  clear ht hup hmay hx hpar hz0
  obtain ⟨w1, hw1⟩ : ∃ w1, w1 = (w.alloc (.cells (tbC A n a B m b) 34)).alloc (.cells #[.slice none 0 0, .slice none 0 0] 34) := ⟨_, rfl⟩
  rw [← hw1] at HX HZ HB
  have hlx : Ls (w1.alloc (.cells #[.int .i64 x] 3)) (some ⟨w1.heap.size, 0, none⟩) 1 [x] := Ls.new w1 [x] (by intro y hy; simp at hy; subst hy; exact HOX.out)
  have HB1 := Lib.hid (below_two HB.out (below_new w1 (.cells #[.int .i64 x] 3)))
  have hfr := pfree_any A B n a m b t (some ⟨w1.heap.size, 0, none⟩) 1 1 [x] (by omega) (by omega) (by omega) (w1.alloc (.cells #[.int .i64 x] 3)) (HT.out.below HB1.out) hlx
  have HXa := Lib.hid (HX.out.al (.cells #[.int .i64 x] 3))
  have HZa := Lib.hid (HZ.out.al (.cells #[.int .i64 x] 3))
  have HS1 := Lib.hid (show w1.heap.size = w.heap.size + 1 + 1 by rw [hw1]; simp)
  have x0 := HX.out.t0
  have x1 := HX.out.t1
  clear hlx
  go_enter Try.func18, Try.ntmps18
  go_upto_region 1 with fail
  rw [← hw1]
  clear hw1
  go_wp2_with fail
  refine hfr.mono ?_
  rintro e w2 ⟨A5, c5, B5, m5, b5, cb, rfl, hcb, hC, hP, hm5, hPC, hb2⟩
  clear hfr x0 x1
  obtain ⟨gq, hgq⟩ : ∃ gq, gq = w2.heap.size := ⟨_, rfl⟩
  obtain ⟨w3, hw3⟩ : ∃ w3, w3 = w2.alloc (.cells (tbC A5 n c5 B5 m5 b5) 34) := ⟨_, rfl⟩
  have hs3 : w3.heap.size = gq + 1 := by rw [hw3, hgq]; simp
  obtain ⟨w4, hw4⟩ : ∃ w4, w4 = w3.alloc (.cells (hrC par A5 n c5 (.slice none 0 0) B5 m5 b5) 85) := ⟨_, rfl⟩
  have hb24 : Below w2.heap.size w2 w4 := by rw [hw4, hw3]; exact below_two (below_new _ _) (below_new _ _)
  obtain ⟨p1, p2, p3, p4⟩ := own_parts rp_oko hP hm5
  obtain ⟨p5, p6, p7, p8⟩ := own_parts rc_oko hC HT.out.tb.cl
  have HB2 := Lib.hid (HB1.out.trans (hb2.mono HB1.out.size))
  have HW1 := Lib.hid (show w.heap.size + 1 + 1 + 1 ≤ (w1.alloc (.cells #[.int .i64 x] 3)).heap.size by have := HS1.out; simp; omega)
  have HH4 := Lib.hid (show Hr w4 (gq + 1) w.heap.size par A5 n c5 t.C (.slice none 0 0) [] B5 m5 b5 (freeL t.P [x]) from
      ⟨by rw [hw4, ← hs3]; exact Bk.new w3 _ _, (hC.below hb24).le (by have := HW1.out; omega), HT.out.tb.cl, fun q e => by have := (hC.lt q e).2; omega, Rk.Own.nil _ _ _, p1.below hb24, hm5, p2, .inr p3,
        fun b o e => ⟨by have := (p4 b o e).2; omega, fun e2 => by have h1 := (hC.lt b e2).1; have h2 := hPC b (by rw [e]; rfl); omega⟩⟩)
  have HNA := Lib.hid (⟨p6, p7⟩ : n ≤ c5 ∧ Sp A5)
  have HA5 := Lib.hid (show ∀ q o, A5 = some ⟨q, o, none⟩ → w.heap.size + 1 + 1 < q ∧ q < gq + 1 from fun q o e => by have := p8 q o e; have := HW1.out; omega)
  have HX4 := Lib.hid ((HXa.out.below hb2).below hb24)
  have HZ4 := Lib.hid ((HZa.out.below hb2).below hb24)
  have HB4 := Lib.hid (HB2.out.trans (hb24.mono HB2.out.size))
  have HQ := Lib.hid (show w.heap.size + 1 + 1 < gq by have h1 := hb2.size; have h2 := HW1.out; omega)
  have HS4 := Lib.hid (show w4.heap.size = gq + 1 + 1 by rw [hw4, World.size_alloc, hs3])
  have HL5 := Lib.hid hm5
  clear hC hP hPC hb2 hb24 p1 p2 p3 p4 p5 p6 p7 p8 hs3 hcb HXa HZa hm5
  go_upto_if 26 with fail
  rw [← hgq, ← hw3, ← hw4]
  clear hgq hw3 hw4 HX HZ HB
  go_cut [9] from 25 to 42 (fun fv wc => fv = .func (.func (passF par)) #[.pointer (some ⟨gq + 1, 0, none⟩)] #[] ∧ wc = w4)
  case first =>
    rcases (show par < 0 ∨ ¬ par < 0 from by omega) with hp | hp
    · have q1 : decide (par < 0) = true := decide_eq_true hp
      have HF := Lib.hid (show passF par = 47 from if_pos hp)
      clear hp
      simp only [q1]
      go_wp2_with fail
      go_meet
      case rel => exact ⟨by rw [HF.out], by trivial⟩
    · have q1 : decide (par < 0) = false := decide_eq_false hp
      have HF := Lib.hid (show passF par = 33 from if_neg hp)
      clear hp
      simp only [q1]
      go_wp2_with fail
      go_meet
      case rel => exact ⟨by rw [HF.out], by trivial⟩
  case rest =>
    obtain ⟨rfl, hwc⟩ := hcut
    subst hwc
    have x0 := HX4.out.t0
    have x1 := HX4.out.t1
    have hof := of_any A B n a m b t.P x HT.out.tb.pl (by omega) wc (HT.out.tb.atP.below HB4.out)
    have eg := passF_enters par
    go_wp2_with fail
    refine hof.mono ?_
    rintro e w5 ⟨lv, rfl, hown, hb5, hsz5⟩
    obtain ⟨q, hq⟩ : ∃ q, (ofL t.P x).length = q := ⟨_, rfl⟩
    obtain ⟨Al, cl, rfl⟩ := own_slice rp_oko hown hq
    obtain ⟨p1, _, p3, p4⟩ := own_parts rp_oko hown hq
    have HL := Lib.hid p1
    have HLB := Lib.hid (show ∀ b o, Al = some ⟨b, o, none⟩ → gq + 1 + 1 < b ∧ b < w5.heap.size from fun b o e => by have h1 := p4 b o e; have := HS4.out; omega)
    have HQL := Lib.hid hq
    have HQM := Lib.hid (show q ≤ 300 by have h := ofL_len t.P x; rw [HT.out.tb.pl] at h; omega)
    have HZ5 := Lib.hid (HZ4.out.below hb5)
    have HB5 := Lib.hid (HB4.out.trans (hb5.mono HB4.out.size))
    have HM5 := Lib.hid (show m5 ≤ 300 by have h := freeL_len t.P [x]; have := HL5.out; have := HT.out.tb.pl; omega)
    have hs5 : gq + 1 + 1 < w5.heap.size := by have := HS4.out; omega
    obtain ⟨bl, HBL⟩ : ∃ bl, Hid ((∀ b o, Al = some ⟨b, o, none⟩ → b = bl) ∧ bl < w5.heap.size ∧ gq + 1 < bl) := by
      rcases p3 with h | ⟨b, o, h⟩
      · exact ⟨gq + 1 + 1, (fun b o e => by rw [h] at e; cases e), hs5, by omega⟩
      · refine ⟨b, (fun b' o' e => ?_), (p4 b o h).2, by have := (p4 b o h).1; have := HS4.out; omega⟩
        rw [h] at e; injection e with e; injection e with e1 e2; exact e1.symm
    have HH5 := Lib.hid (show PsAt w5 (gq + 1) w.heap.size par A5 n c5 t.C (freeL t.P [x]) (-1) bl from
      ⟨_, _, _, _, _, _, HH4.out.below hb5, rfl, HUP.out.sub List.filter_sublist, by simp, fun q e => by cases e⟩)
    have HLT := Lib.hid (show ∀ y ∈ ofL t.P x, (0 : Int) ≤ y.c ∧ y.c < (n : Int) ∧ ¬ (y.u = 0 ∧ y.d = 0) from fun y hy => by have h := HMY.out y (ofL_mem hy); exact ⟨h.c0, h.c1, h.z⟩)
    have HOO := Lib.hid (fun j => passAll_ok par HOP.out ((ofL t.P x).take j) ⟨t.C, freeL t.P [x]⟩ (fun p hp => HT.out.tb.okP p (ofL_mem (List.mem_of_mem_take hp))) HT.out.tb.okC (fun p hp => HT.out.tb.okP p (freeL_mem hp)))
    clear hof hown hb5 hsz5 hq p1 p3 p4 x0 x1 HX4 HZ4 HB4 HH4 hs5
    go_wp2_with fail
    go_loopw [33] (fun u wr => ∃ (j : Nat) (C' : List Ct) (P' : List Pd) (lim : Int), u = .int .i64 (j : Int) ∧ j ≤ q ∧ Hid (passAll par ⟨t.C, freeL t.P [x]⟩ ((ofL t.P x).take j) = ⟨C', P'⟩) ∧ Hid (PsAt wr (gq + 1) w.heap.size par A5 n c5 C' P' lim bl) ∧ Hid (∀ y ∈ (ofL t.P x).drop j, lim < y.c) ∧ Hid (Turn (fun z => (Value.slice A5 n c5).ownBlock = some z ∨ (gq + 1 ≤ z ∧ z ≠ bl)) w5 wr)) (fun u _ => q - (intOf u).toNat)
    case atStart => exact ⟨0, t.C, freeL t.P [x], -1, rfl, Nat.zero_le _, Lib.hid rfl, HH5, Lib.hid (fun y hy => by have := (HLT.out y hy).1; omega), Lib.hid (Turn.refl _ _)⟩
    case round =>
      obtain ⟨j, C', P', lim, rfl, hj, HPS, HHj, HLM, HTj⟩ := hrel
      have HPL := Lib.hid (show P'.length ≤ 600 by
        have h := (HOO.out j).2.1
        rw [HPS.out] at h
        have h1 : ((ofL t.P x).take j).length ≤ q := by rw [List.length_take, HQL.out]; omega
        have := HQM.out; have := HM5.out; have := HL5.out
        simp only at h
        omega)
      rcases Nat.lt_or_ge j q with hlt | hge
      · obtain ⟨b2, o2, hA, hbl2, hget, q0, q1, q2, q3⟩ := pd_o HL.out HQL.out hlt
        subst hA
        have hb2 := HBL.out.1 b2 o2 rfl
        subst hb2
        have HTK := Lib.hid (passAll_take (par := par) (s := ⟨t.C, freeL t.P [x]⟩) hget)
        rw [HPS.out] at HTK
        have hr := HLT.out _ (List.mem_of_getElem? hget)
        have HRI := Lib.hid (fun y hy => ofL_rise HUP.out x hget (q := y) hy)
        have hlm := HLM.out _ (show (ofL t.P x).getD j pdD ∈ (ofL t.P x).drop j by
          rw [List.mem_iff_getElem?]
          exact ⟨0, by rw [List.getElem?_drop, Nat.add_zero]; exact hget⟩)
        generalize (ofL t.P x).getD j pdD = p at *
        obtain ⟨pc, px, u, d⟩ := p
        simp only at q0 q1 q2 q3 hr hlm HRI
        obtain ⟨hr0, hr1, hr2⟩ := hr
        obtain ⟨k, rfl⟩ : ∃ k : Nat, pc = k := ⟨pc.toNat, by omega⟩
        have hk : k < n := by omega
        have HNB := Lib.hid (show ¬ ((Value.slice A5 n c5).ownBlock = some b2 ∨ (gq + 1 ≤ b2 ∧ b2 ≠ b2)) from fun h => by
          rcases h with h | h
          · rcases HNA.out.2 with h5 | ⟨b5, o5, h5⟩
            · rw [h5] at h; cases h
            · rw [h5] at h
              have h6 : b5 = b2 := Option.some.inj h
              have := (HA5.out b5 o5 h5).2
              have := HBL.out.2.2
              omega
          · exact h.2 rfl)
        have c0 := HTj.out.cell q0 HNB.out
        have c1 := HTj.out.cell q1 HNB.out
        have c2 := HTj.out.cell q2 HNB.out
        have c3 := HTj.out.cell q3 HNB.out
        have hd4 : decide ((j : Int) < (q : Int)) = true := decide_eq_true (by omega)
        have hd5 : decide (j < q) = true := decide_eq_true hlt
        have hi1 : (j : Int) < (q : Int) := by omega
        have hst := pstep_any (gq + 1) w.heap.size par A5 n c5 C' P' lim k hk hlm px u d hr2 (by have := HPL.out; omega) b2 (wr.alloc (.cells (pdC (k : Int) px u d) 75)) ⟨by have h1 := HBL.out.2.1; have h2 := HTj.out.size; simp; omega, by have := HBL.out.2.2; omega⟩ (HHj.out.below (below_new _ _))
        clear q0 q1 q2 q3 hbl2 hget hr0 hr1 hr2 hlm
        go_wp2_with fail
        refine hst.mono ?_
        rintro e w6 ⟨rfl, ⟨C6, P6, hps, hh6⟩, ht6⟩
        have HPS6 := Lib.hid (HTK.out.trans hps)
        have HH6 := Lib.hid hh6
        have HT6 := Lib.hid ((HTj.out.trans (Turn.ofBelow (below_new wr _))).trans ht6)
        clear hst hps hh6 ht6 c0 c1 c2 c3
        have hq3 : q ≤ 300 := HQM.out
        go_wp2_with fail
        exact ⟨⟨j + 1, C6, P6, (k : Int), rfl, hlt, HPS6, HH6, Lib.hid (fun y hy => HRI.out y hy), HT6⟩, by simp [intOf]; omega⟩
      · obtain rfl : j = q := by omega
        have hd4 : decide ((j : Int) < (j : Int)) = false := decide_eq_false (by omega)
        have hd5 : decide (j < j) = false := decide_eq_false (by omega)
        have hlj : (ofL t.P x).take j = ofL t.P x := List.take_of_length_le (by rw [HQL.out]; exact Nat.le_refl _)
        have HOK := Lib.hid (HOO.out j)
        rw [hlj] at HPS HOK
        clear hlj
        rw [HPS.out] at HOK HPE
        obtain ⟨pv, X, rA, rn, rc, R, hh, hxr, _, _, _⟩ := HHj.out
        have HXR := Lib.hid hxr
        have HHH := Lib.hid hh
        have HZj := Lib.hid (HZ5.out.turn HTj.out (fun h => by
          have hq := HQ.out
          rcases h with h | h
          · rcases HNA.out.2 with h5 | ⟨b5, o5, h5⟩
            · rw [h5] at h; cases h
            · rw [h5] at h
              have h6 : b5 = w.heap.size + 1 := Option.some.inj h
              have := (HA5.out b5 o5 h5).1
              omega
          · omega))
        have HBj := Lib.hid (HB5.out.trans (HTj.out.below (B := w.heap.size) (fun z h => by
          have hq := HQ.out
          rcases h with h | h
          · rcases HNA.out.2 with h5 | ⟨b5, o5, h5⟩
            · rw [h5] at h; cases h
            · rw [h5] at h
              have h6 : b5 = z := Option.some.inj h
              have := (HA5.out b5 o5 h5).1
              omega
          · omega) HB5.out.size))
        have htb := table_any (gq + 1) w.heap.size par A5 n c5 C' pv X rA rn rc R (by
          have h1 := HPL.out
          rw [← hxr, List.length_append, hh.rl] at h1
          omega) wr hh
        clear hh hxr
        go_wp2_with fail
        refine htb.mono ?_
        rintro e w7 ⟨B7, m7, b7, rfl, hp7, hl7, hm7, hs7, hv7, hc7, hb7⟩
        have HP7 := Lib.hid hp7
        have HC7 := Lib.hid hc7
        have HK7 := Lib.hid (⟨hl7, hm7, hs7⟩ : (X ++ R).length = m7 ∧ m7 ≤ b7 ∧ Sp B7)
        have HV7 := Lib.hid hv7
        have HZ7 := Lib.hid (HZj.out.turn (S := fun q => gq + 1 ≤ q) ⟨hb7.os, hb7.tape, hb7.output, hb7.size, fun q _ hn => hb7.block q (by omega)⟩ (by have := HQ.out; omega))
        have HW7 := Lib.hid (show Below w.heap.size w w7 from HBj.out.trans (hb7.mono (by have := HQ.out; omega)))
        clear hp7 hl7 hm7 hs7 hv7 hc7 hb7 htb
        have z0 : w7.cell? ⟨w.heap.size + 1, 0, none⟩ = some (.slice none 0 0) := HZ7.out.c 0 _ rfl
        have z1 : w7.cell? ⟨w.heap.size + 1, 1, none⟩ = some (.slice none 0 0) := HZ7.out.c 1 _ rfl
        have f0 := HZ7.out.fr 0
        have f1 := HZ7.out.fr 1
        go_wp2_with fail
        refine bodyPost_ret (v := tbV A5 n c5 B7 m7 b7) (by rw [results_cell_one rfl]; go_simp) rfl ⟨A5, c5, B7, m7, b7, rfl, ?_, (HW7.out.setCell (show w.heap.size ≤ w.heap.size + 1 from by omega) _).setCell (show w.heap.size ≤ w.heap.size + 1 from by omega) _⟩
        have hT := ((Turn.refl (fun q => q = w.heap.size + 1) w7).setCell ⟨w.heap.size + 1, 0, none⟩ (.slice A5 n c5) (.inl rfl)).setCell ⟨w.heap.size + 1, 1, none⟩ (.slice B7 m7 b7) (.inl rfl)
        rw [HPE.out, ← HXR.out]
        refine ⟨⟨HHH.out.cl, HK7.out.1, HOK.out.2.2.1, by rw [HXR.out]; exact HOK.out.2.2.2, HC7.out.turn hT (fun q o e => .inr fun h => by have := HA5.out q o e; omega), HP7.out.turn hT (fun q o e => .inr fun h => by have := (HV7.out q o e).1; have := HQ.out; omega)⟩, HNA.out.1, .inr HNA.out.2, HK7.out.2.1, .inr HK7.out.2.2, fun q o e => Nat.lt_of_lt_of_le (HV7.out q o e).2 hT.size⟩
end Go.Proofs.Ytogngghfdcpeaaa
