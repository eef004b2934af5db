/-
  Versions passed.
-/
import Derived.Test.YtmhnjmfcenbogaaPt
namespace Go.Proofs.Ytmhnjmfcenbogaa
set_option maxRecDepth 100000
set_option linter.unusedVariables false
set_option linter.unusedSimpArgs false
open Go.RowKit Go.Shelf

def toParV (par : Int) (Q : List Vn) : List Vn := Q.map fun v => ⟨v.b, par, v.d⟩
theorem toParV_take {Q : List Vn} {par : Int} {j : Nat} {v : Vn} (h : Q[j]? = some v) : toParV par (Q.take (j + 1)) = toParV par (Q.take j) ++ [⟨v.b, par, v.d⟩] := by
  unfold toParV
  rw [List.take_add_one, h, List.map_append]; rfl
theorem laysV_e (D : List (List UInt8)) (Q : List Vn) : laysV D Q = Q.foldl (fun B v => B.set v.b.toNat v.d) D := rfl

theorem Tow.rows {W : World} {lo hi n a m b : Nat} {A B : Option Addr} {t : Vt} {ss : List Sl} {vs : List Vr} (h : Tow W lo hi A n a B m b t ss vs) : VrsAt RVo W B m t.L vs :=
  ⟨h.kv, own_len rv_oko h.ov, (own_parts rv_oko h.ov (own_len rv_oko h.ov)).1, fun i r v e1 e2 => by
    have h3 := h.dv i r e1
    rw [List.getD_eq_getElem?_getD, e2] at h3
    exact ⟨h3.1.1, h3.1.2, h3.2.1⟩⟩
theorem Tow.vers {W V : World} {lo hi n a m b g : Nat} {B : Option Addr} {t : Vt} {ss : List Sl} {vs : List Vr} (h : Tow W lo hi (some ⟨g, 0, none⟩) n a B m b t ss vs) (ht : Turn (fun z => z = g) W V) : VrsAt RVo V B m t.L vs := by
  have h1 := h.rows
  refine ⟨h1.k, h1.l, h1.at_.turn ht (fun q o e => .inr fun hq => h.sep g 0 q o rfl e hq.symm), fun i r v e1 e2 => ?_⟩
  obtain ⟨k1, k2, k3⟩ := h1.d i r v e1 e2
  exact ⟨k1, k2, k3.turn ht (fun q o e => .inr fun hq => by have h2 := (h.dv i r e1).2.2 q o e; have h3 := h.ha g 0 rfl; omega)⟩

set_option maxHeartbeats 4000000 in
theorem pass_any : PassOk := by
  intro A B n a m b t x par w ht hs hl hx hp hp63
  have hn : n ≤ 256 := by obtain ⟨ss, h⟩ := ht.base; rw [← h.k]; exact hs.n
  have hBn : t.B.length = n := by obtain ⟨ss, h⟩ := ht.base; exact h.k
  obtain ⟨w1, hw1⟩ : ∃ q, q = (w.alloc (.cells (vtC A n a B m b) 30)).alloc (.cells (vtC none 0 0 none 0 0) 30) := ⟨_, rfl⟩
  have h3 : Bk w1 w.heap.size (vtC A n a B m b) 30 := by rw [hw1]; exact (Bk.new w _ _).al _
  have h6 : Bk w1 (w.heap.size + 1) (vtC none 0 0 none 0 0) 30 := by
    rw [hw1]
    have h := Bk.new (w.alloc (.cells (vtC A n a B m b) 30)) (vtC none 0 0 none 0 0) 30
    rw [size_al] at h; exact h
  have HB1 := Lib.hid (show Below w.heap.size w w1 by rw [hw1]; exact below_two (below_new w _) (below_new _ _))
  have H3 := Lib.hid h3
  have H6 := Lib.hid h6
  have HT := Lib.hid ht
  have HS := Lib.hid hs
  have HL := Lib.hid hl
  have HX := Lib.hid hx
  have HP63 := Lib.hid hp63
  have HN := Lib.hid hn
  have HBN := Lib.hid hBn
  have HQL := Lib.hid (show (ofV t.L x).length ≤ 1000 from Nat.le_trans (List.length_filter_le ..) hl)
  have HQB := Lib.hid (show ∀ v ∈ ofV t.L x, 0 ≤ v.b ∧ v.b < (n : Int) from fun v hv => by have h := (hs.may v (ofV_mem.1 hv).1).1; rw [hBn] at h; exact h)
  clear ht hs hl hx hp hp63 hn hBn h3 h6
  go_enter Try.func16, Try.ntmps16
  go_upto_region 1 with fail
  rw [← hw1]
  clear hw1
  obtain ⟨g6, hg6⟩ : ∃ q, q = w.heap.size + 1 := ⟨_, rfl⟩
  rw [← hg6] at H6 ⊢
  have HG6 := Lib.hid hg6
  clear hg6
  have x0 := H3.out.v0
  have x1 := H3.out.v1
  go_wp2_with fail
  refine (changed_any A B n a m b t x w1 (HT.out.below HB1.out) HS.out HL.out).mono ?_
  rintro e w2 ⟨IA, q, Ic, is, rfl, hpi, hio, hb2⟩
  have H32 := Lib.hid (H3.out.below hb2)
  have H62 := Lib.hid (H6.out.below hb2)
  have HPI := Lib.hid hpi
  have HIO := Lib.hid hio
  have HIL := Lib.hid (show is.length = q from own_len rim_ok hio)
  have HG1 := Lib.hid (show g6 < w1.heap.size from H6.out.lt)
  have HB2 := Lib.hid (HB1.out.trans (hb2.mono HB1.out.size))
  clear hb2 hpi hio H3 H6 HB1 x0 x1
  have x0 := H32.out.v0
  have x1 := H32.out.v1
  obtain ⟨w3, hw3⟩ : ∃ z, z = w2.alloc (.cells #[.int .i64 x] 3) := ⟨_, rfl⟩
  have hb3 : Below w2.heap.size w2 w3 := by rw [hw3]; exact below_new _ _
  have HIS := Lib.hid (show IsAt w3 (some ⟨w2.heap.size, 0, none⟩) [x] from ⟨fun y hy => by rw [List.mem_singleton.1 hy]; exact HX.out, .inr ⟨_, 0, rfl, by rw [hw3]; simp, fun j y hy => by
    cases j with
    | zero => simp at hy; subst hy; rw [hw3]; exact (cell_new w2 #[.int .i64 x] 3 0).trans rfl
    | succ j => simp at hy⟩⟩)
  have H33 := Lib.hid (H32.out.below hb3)
  have H63 := Lib.hid (H62.out.below hb3)
  have HB3 := Lib.hid (HB2.out.trans (hb3.mono HB2.out.size))
  have HPI3 := Lib.hid (HPI.out.below hb3)
  have HIO3 := Lib.hid (HIO.out.below hb3)
  have HZ3 := Lib.hid (show (∀ b o, IA = some ⟨b, o, none⟩ → b < w2.heap.size) ∧ w2.heap.size ≤ w3.heap.size ∧ w.heap.size < w2.heap.size ∧ g6 < w2.heap.size from ⟨fun b o e => ((own_parts rim_ok HIO.out HIL.out).2.2.2 b o e).2, hb3.size, H32.out.lt, H62.out.lt⟩)
  have HPB := Lib.hid (show ∀ r ∈ is, ∀ c o, r.s.A = some ⟨c, o, none⟩ → c < w2.heap.size from fun r hr c o e => by
    obtain ⟨i, hi, rfl⟩ := List.getElem_of_mem hr
    obtain ⟨_, _, b, h1, h2, _⟩ := HPI.out.d i _ _ (List.getElem?_eq_getElem hi) (List.getElem?_eq_getElem (by rw [← HPI.out.l]; exact hi))
    rw [h1] at e; injection e with e; injection e with e _; omega)
  have hfr := vfree_any A B n a m b t (some ⟨w2.heap.size, 0, none⟩) 1 1 [x] rfl (by omega) w3 (HT.out.below HB3.out) HS.out HL.out HIS.out
  rw [hw3] at hfr
  go_wp2_with fail
  refine hfr.mono ?_
  rw [← hw3]
  rintro e w4 ⟨lo, hi, A4, B4, m4, b4, ss, vs, rfl, htow, hlo, hlh, hb4⟩
  have H34 := Lib.hid (H33.out.below hb4)
  have H64 := Lib.hid (H63.out.below hb4)
  have HB4 := Lib.hid (HB3.out.trans (hb4.mono HB3.out.size))
  have HPI4 := Lib.hid (HPI3.out.below hb4)
  have HIO4 := Lib.hid (HIO3.out.below hb4)
  have HTW := Lib.hid htow
  have HLO := Lib.hid (And.intro (show w3.heap.size ≤ lo from hlo) hlh)
  clear hfr hw3 hb3 hb4 htow hlo hlh H32 H62 HB2 HPI HIO H33 H63 HB3 HPI3 HIO3 x0 x1 HIS
  have z0 := H34.out.v0
  have z1 := H34.out.v1
  have f0 := H34.out.fr 0
  have f1 := H34.out.fr 1
  go_upto_region 3 with fail
  have hT5 := Turn.two (W := w4) w.heap.size (.slice A4 n n) (.slice B4 m4 b4)
  have H35 := Lib.hid (H34.out.two (.slice A4 n n) (.slice B4 m4 b4))
  have H65 := Lib.hid (H64.out.turn hT5 (by have := HG6.out; omega))
  have HTW5 := Lib.hid (HTW.out.turn hT5 (fun q h => by have h1 := HLO.out.1; have h2 := HZ3.out; omega) HLO.out.2)
  have HB5 := Lib.hid (HB4.out.trans (hT5.below (B := w.heap.size) (fun q h => by omega) HB4.out.size))
  have HIO5 := Lib.hid (HIO4.out.turn hT5 (fun k e h => by have h1 := (HIO4.out.lt k e).1; have h2 := HG1.out; have h3 := HG6.out; omega))
  have HPI5 := Lib.hid (HPI4.out.off H34.out vtc_by hT5)
  have HSZ5 := Lib.hid (show w4.heap.size ≤ ((w4.setCell ⟨w.heap.size, 0, none⟩ (.slice A4 n n)).setCell ⟨w.heap.size, 1, none⟩ (.slice B4 m4 b4)).heap.size from hT5.size)
  have HIA5 := Lib.hid (show RIm.At ((w4.setCell ⟨w.heap.size, 0, none⟩ (.slice A4 n n)).setCell ⟨w.heap.size, 1, none⟩ (.slice B4 m4 b4)) IA is from (own_parts rim_ok HIO5.out HIL.out).1)
  generalize (w4.setCell ⟨w.heap.size, 0, none⟩ (.slice A4 n n)).setCell ⟨w.heap.size, 1, none⟩ (.slice B4 m4 b4) = w5 at *
  clear hT5 z0 z1 f0 f1 H34 H64 HTW HB4 HIO4 HPI4
  have x0 := H35.out.v0
  have x1 := H35.out.v1
  have HLS := Lib.hid (show lo ≤ lo ∧ w.heap.size < lo ∧ g6 < lo ∧ w2.heap.size ≤ lo from by have h1 := HLO.out.1; have h2 := HZ3.out; omega)
  by_cases h0 : par < 0
  · have hd0 : decide (par < 0) = true := decide_eq_true h0
    have HPE := Lib.hid (pass_setV t x par h0)
    clear h0
    obtain ⟨gA, hgA⟩ := HTW5.out.fa
    subst hgA
    have HGA := Lib.hid (show lo ≤ gA ∧ gA < hi from ⟨(HTW5.out.ob.lt gA rfl).1, HTW5.out.ha gA 0 rfl⟩)
    have hfx := fix_any gA n n B4 IA m4 b4 q Ic t.B ss is (ofV t.L x) (.slice IA q Ic) HIL.out (by have h1 := HIL.out; have h2 := HPI5.out.l; have h3 := HQL.out; omega) HBN.out (by have := HN.out; omega) lo w5 HTW5.out.ob (fun i s e => ⟨(HTW5.out.db i s e).1, fun c o e2 => by have h1 := (HTW5.out.db i s e).2 c o e2; have h2 := HGA.out; omega⟩)
      HIA5.out (fun c o e => by have h1 := HZ3.out.1 c o e; have h2 := HLS.out; have h3 := HGA.out; omega) HPI5.out HQB.out (fun r hr c o e => by have h1 := HPB.out r hr c o e; have h2 := HLS.out; have h3 := HGA.out; omega)
    go_wp2_with fail
    refine hfx.mono ?_
    rintro e w6 ⟨rfl, ss6, ho6, hd6, hT6⟩
    have H36 := Lib.hid (H35.out.turn hT6 (by have h1 := HLS.out; have h2 := HGA.out; omega))
    have H66 := Lib.hid (H65.out.turn hT6 (by have h1 := HLS.out; have h2 := HGA.out; omega))
    have HB6 := Lib.hid (HB5.out.trans (hT6.below (B := w.heap.size) (fun z h => by have h1 := HLS.out; have h2 := HGA.out; omega) HB5.out.size))
    have HV6 := Lib.hid (HTW5.out.vers hT6)
    have HO6 := Lib.hid ho6
    have HD6 := Lib.hid hd6
    have HS6 := Lib.hid hT6.size
    clear hfx ho6 hd6 hT6 x0 x1
    have x0 := H36.out.v0
    have x1 := H36.out.v1
    have z0 := H66.out.v0
    have z1 := H66.out.v1
    have f0 := H66.out.fr 0
    have f1 := H66.out.fr 1
    go_wp2_with fail
    have hT7 := Turn.two (W := w6) g6 (.slice (some ⟨gA, 0, none⟩) n n) (.slice B4 m4 b4)
    have hpo := own_parts rv_oko HTW5.out.ov (own_len rv_oko HTW5.out.ov)
    have hvt : VtAt RVo w6 (some ⟨gA, 0, none⟩) n n B4 m4 b4 (t.pass x par) := by
      rw [HPE.out]
      refine ⟨⟨ss6, by rw [← laysV_e, laysV_len]; exact HBN.out, own_len rb_ok HO6.out, (own_parts rb_ok HO6.out (own_len rb_ok HO6.out)).1, fun i s d e1 e2 => ?_⟩, ⟨vs, HV6.out⟩, Nat.le_refl _, .inr (.inr ⟨_, _, rfl⟩), hpo.2.1, .inr hpo.2.2.1⟩
      have h3 := (HD6.out i s e1).1
      rw [laysV_e, List.getD_eq_getElem?_getD, e2] at h3
      exact h3
    have haw : ∀ g, (g < lo ∨ w6.heap.size ≤ g) → Away (some ⟨gA, 0, none⟩) B4 g := fun g hg => ⟨fun c o e => by injection e with e; injection e with e _; have h1 := (HO6.out.lt gA rfl).2; have h2 := HGA.out; omega, fun c o e => by have h1 := hpo.2.2.2 c o e; have h2 := HS6.out; omega⟩
    refine bodyPost_ret (v := vtV (some ⟨gA, 0, none⟩) n n B4 m4 b4) (by rw [results_cell_one rfl]; go_simp) rfl ⟨?_, some ⟨gA, 0, none⟩, n, n, B4, m4, b4, ?_, rfl, ?_⟩
    · exact HB6.out.trans (hT7.below (B := w.heap.size) (fun z h => by have := HG6.out; omega) HB6.out.size)
    · intro g hg; exact haw g (by rcases hg with hg | hg; have := HLS.out; omega; have h2 := hT7.size; omega)
    · exact hvt.off H66.out vtc_by (haw _ (by have := HLS.out; omega)) hT7
  · have hd0 : decide (par < 0) = false := decide_eq_false h0
    have HPE := Lib.hid (pass_withV t x par h0)
    clear h0
    go_wp2_with fail
    go_loopw [8, 26] (fun mv iv wr => ∃ (j : Nat) (ms : List Vr), iv = .int .i64 (j : Int) ∧ j ≤ q ∧ Hid (RVo.Own wr w5.heap.size mv ms) ∧ Hid (Prs w5 ms (toParV par ((ofV t.L x).take j))) ∧ Hid (ms.length = j) ∧ Hid (Below w5.heap.size w5 wr)) (fun _ iv _ => q - (intOf iv).toNat)
    case atStart => exact ⟨0, [], rfl, Nat.zero_le _, Rk.Own.nil _ _ _, Lib.hid Prs.nil, Lib.hid rfl, Lib.hid (Below.refl _ _)⟩
    case round =>
      obtain ⟨j, ms, rfl, hj, HO, HPR, HML, HBj⟩ := hrel
      have hq1000 : q ≤ 1000 := by have h1 := HIL.out; have h2 := HPI5.out.l; have h3 := HQL.out; omega
      rcases Nat.lt_or_ge j q with hlt | hge
      · obtain ⟨b2, o, hA, hbl, hget, q0, q1⟩ := im_cells HIA5.out HIL.out hlt
        subst hA
        have hql : j < (ofV t.L x).length := by rw [← HPI5.out.l, HIL.out]; exact hlt
        obtain ⟨k1, k2, _⟩ := HPI5.out.d j _ _ hget (List.getElem?_eq_getElem hql)
        have HTK := Lib.hid (toParV_take (par := par) (List.getElem?_eq_getElem hql))
        generalize is.getD j irD = p at *
        generalize (ofV t.L x)[j] = v at *
        obtain ⟨pb, pA, pn, pk⟩ := p
        obtain ⟨vb, vx, vd⟩ := v
        simp only at q0 q1 k1 k2 HTK
        subst k1
        have HPX := Lib.hid (HPR.out.app (Prs.one (r := ⟨pb, par, ⟨pA, pn, pk⟩⟩) (v := ⟨pb, par, vd⟩) rfl rfl k2))
        have c0 := (HBj.out.cell (p := ⟨b2, o + j * 2, none⟩) hbl).trans q0
        have c1 := (HBj.out.cell (p := ⟨b2, o + j * 2 + 1, none⟩) hbl).trans q1
        have hd4 : decide ((j : Int) < (q : Int)) = true := decide_eq_true (by omega)
        have hd5 : decide (j < q) = true := decide_eq_true hlt
        have hi1 : (j : Int) < (q : Int) := by omega
        have hi2 : j < q := hlt
        clear q0 q1 hbl hget hql k2
        go_upto_region 10 with fail
        obtain ⟨wk, hwk⟩ : ∃ z, z = wr.alloc (.cells (imC pb pA pn pk) 57) := ⟨_, rfl⟩
        obtain ⟨g7, hg7⟩ : ∃ z, z = wr.heap.size := ⟨_, rfl⟩
        have hbk : Below wr.heap.size wr wk := by rw [hwk]; exact below_new _ _
        have hk7 : Bk wk g7 (imC pb pA pn pk) 57 := by rw [hwk, hg7]; exact Bk.new _ _ _
        have HOk := Lib.hid (HO.out.below hbk)
        have HBk := Lib.hid (HBj.out.trans (hbk.mono HBj.out.size))
        rw [← hg7, ← hwk]
        clear hbk hwk hg7 c0 c1
        have y0 : wk.cell? ⟨g7, 0, none⟩ = some (.int .i64 pb) := hk7.c 0 _ rfl
        have y1 : wk.cell? ⟨g7, 1, none⟩ = some (.slice pA pn pk) := hk7.c 1 _ rfl
        clear hk7
        go_wp2_with (first
          | (at_builtin; refine Rk.wpList_append rv_oko rfl (.tmp 30) (.tmp 37) rfl w5.heap.size u8 ms [⟨pb, par, ⟨pA, pn, pk⟩⟩] rfl (HOk.out.below (below_new _ _)) _ 1 1 rfl (ve_at wk pb par pA pn pk _ rfl) rfl (.inr ⟨_, _, rfl⟩) (by have h1 := HML.out; rw [List.length_singleton]; omega) (Nat.le_trans HBk.out.size (below_new wk _).size) ?_; intro v8 w8 ho8 hg8 ha8; have HO8 := Lib.hid ho8; have HB8 := Lib.hid ((HBk.out.trans ((below_new wk (.cells (veC pb par pA pn pk) 74)).mono HBk.out.size)).grown hg8 (Nat.le_trans HBk.out.size (below_new wk _).size) (fun z e => (HOk.out.lt z e).1)); clear ho8 hg8 ha8)
          | fail)
        exact ⟨⟨j + 1, _, by simp, hi2, HO8, Lib.hid (by rw [HTK.out]; exact HPX.out), Lib.hid (by rw [List.length_append, HML.out]; rfl), HB8⟩, by simp [intOf]; omega⟩
      · obtain rfl : j = q := by omega
        have hd4 : decide ((j : Int) < (j : Int)) = false := decide_eq_false (by omega)
        have hd5 : decide (j < j) = false := decide_eq_false (by omega)
        have hE : (ofV t.L x).take j = ofV t.L x := List.take_of_length_le (by rw [← HPI5.out.l, HIL.out]; exact Nat.le_refl _)
        rw [hE] at HPR
        obtain ⟨MA, mc, rfl⟩ := own_slice rv_oko HO.out HML.out
        have hmo := own_parts rv_oko HO.out HML.out
        have hvo := own_parts rv_oko HTW5.out.ov (own_len rv_oko HTW5.out.ov)
        have hfl : (freeV t.L [x]).length ≤ 1000 := Nat.le_trans (List.length_filter_le ..) HL.out
        have hkv : (freeV t.L [x]).length = m4 := HTW5.out.kv
        have hwi := with_any B4 MA m4 b4 j mc (freeV t.L [x]) (toParV par (ofV t.L x)) vs ms (by omega) (by omega) (freeV_rise HS.out.up [x]) (ofV_map_rise HS.out.up x par) hvo.2.1 (.inr hvo.2.2.1) wr (HTW5.out.rows.below HBj.out) ((HPR.out.below HBj.out).vrs (by unfold toParV; rw [List.length_map, ← HPI5.out.l, HIL.out]) hmo.1)
        have HWI := Lib.hid hwi
        have H3r := Lib.hid (H35.out.below HBj.out)
        have H6r := Lib.hid (H65.out.below HBj.out)
        have HTr := Lib.hid (HTW5.out.below HBj.out)
        have HBr := Lib.hid (HB5.out.trans (HBj.out.mono HB5.out.size))
        clear hE hmo hvo hfl hkv hwi x0 x1
        have y1 := H3r.out.v1
        go_wp2_with fail
        refine HWI.out.mono ?_
        rintro e w7 ⟨A8, n8, c8, vs8, rfl, hvs8, ho8, hb7, _⟩
        have H37 := Lib.hid (H3r.out.below hb7)
        have H67 := Lib.hid (H6r.out.below hb7)
        have HT7 := Lib.hid (HTr.out.below hb7)
        have HB7 := Lib.hid (HBr.out.trans (hb7.mono HBr.out.size))
        have HVS8 := Lib.hid hvs8
        have HO8 := Lib.hid ho8
        have HSR := Lib.hid (show w5.heap.size ≤ wr.heap.size ∧ w4.heap.size ≤ w5.heap.size from ⟨HBj.out.size, HSZ5.out⟩)
        have HLR := Lib.hid (show g6 < wr.heap.size ∧ w.heap.size < wr.heap.size from ⟨H6r.out.lt, H3r.out.lt⟩)
        clear hb7 hvs8 ho8 y1 H3r H6r HTr HBr HWI
        have y1 := H37.out.v1
        have f1 := H37.out.fr 1
        go_upto_region 13 with fail
        have hT8 : Turn (fun z => z = w.heap.size) w7 (w7.setCell ⟨w.heap.size, 1, none⟩ (.slice A8 n8 c8)) := (Turn.refl _ _).setCell _ _ (.inl rfl)
        have hpo := own_parts rv_oko HO8.out (own_len rv_oko HO8.out)
        have HAW := Lib.hid (show ∀ g, ((g < lo ∧ g < wr.heap.size) ∨ w7.heap.size ≤ g) → Away A4 A8 g from fun g hg => ⟨(HT7.out.away (by omega)).1, fun c o e => by have h1 := hpo.2.2.2 c o e; omega⟩)
        have hvt : VtAt RVo w7 A4 n n A8 n8 c8 (t.pass x par) := by
          rw [HPE.out]
          exact ⟨HT7.out.vt.base, ⟨vs8, HVS8.out⟩, Nat.le_refl _, HT7.out.vt.sa, hpo.2.1, .inr hpo.2.2.1⟩
        have HVT := Lib.hid (hvt.off H37.out vtc_by (HAW.out _ (by have := HLS.out; have := HLR.out; omega)) hT8)
        have H38 := Lib.hid (show Bk (w7.setCell ⟨w.heap.size, 1, none⟩ (.slice A8 n8 c8)) w.heap.size (vtC A4 n n A8 n8 c8) 30 from H37.out.put1 (.slice A8 n8 c8))
        have H68 := Lib.hid (H67.out.turn hT8 (by have := HG6.out; omega))
        have HB8 := Lib.hid (HB7.out.trans (hT8.below (B := w.heap.size) (fun z h => by omega) HB7.out.size))
        have HVZ := Lib.hid hT8.size
        clear hvt hpo y1 f1
        generalize w7.setCell ⟨w.heap.size, 1, none⟩ (.slice A8 n8 c8) = w8 at *
        clear hT8
        have y0 := H38.out.v0
        have y1 := H38.out.v1
        have z0 := H68.out.v0
        have z1 := H68.out.v1
        have f0 := H68.out.fr 0
        have f1 := H68.out.fr 1
        go_wp2_with fail
        have hT9 := Turn.two (W := w8) g6 (.slice A4 n n) (.slice A8 n8 c8)
        refine bodyPost_ret (v := vtV A4 n n A8 n8 c8) (by rw [results_cell_one rfl]; go_simp) rfl ⟨?_, A4, n, n, A8, n8, c8, ?_, rfl, ?_⟩
        · exact HB8.out.trans (hT9.below (B := w.heap.size) (fun z h => by have := HG6.out; omega) HB8.out.size)
        · intro g hg; exact HAW.out g (by rcases hg with hg | hg; have h1 := HLS.out; have h2 := HLR.out; omega; have h1 := HVZ.out; have h2 := hT9.size; omega)
        · exact HVT.out.off H68.out vtc_by (HAW.out _ (by have h1 := HLS.out; have h2 := HLR.out; omega)) hT9
end Go.Proofs.Ytmhnjmfcenbogaa
