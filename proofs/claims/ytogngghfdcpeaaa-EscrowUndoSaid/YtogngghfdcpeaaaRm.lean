/-
  What one has is its parent's: the document's Pass.
-/
import Derived.Test.YtogngghfdcpeaaaRl
namespace Go.Proofs.Ytogngghfdcpeaaa
set_option maxRecDepth 100000
set_option linter.unusedVariables false
set_option linter.unusedSimpArgs false
open Go.RowKit

section
variable {α : Type} {R : Rk α} {w : World} {base n c g : Nat} {A : Option Addr} {l : List α}
theorem Rk.Own.blk (h : R.Own w base (.slice A n c) l) (hne : l ≠ []) : ∃ g cs, A = some ⟨g, 0, none⟩ ∧ base ≤ g ∧ Bk w g cs R.e := by
  rcases h.2 with ⟨_, hn⟩ | ⟨g, cap, cur, e, hg, hh, _⟩
  · exact absurd (List.eq_nil_of_length_eq_zero hn) hne
  · injection e with e
    exact ⟨g, cur, e, hg, hh⟩
theorem Rk.Own.at_ (hR : R.Ok) (h : R.Own w base (.slice A n c) l) : R.At w A l := by
  obtain ⟨A2, c2, e, _, hat, _⟩ := h.form hR
  injection e with e
  rw [e]; exact hat
theorem Rk.cells_set (hR : R.Ok) {k : Nat} (hk : k < R.m) {v : Value} : ∀ (l : List α) (i : Nat) (x x' : α), l[i]? = some x → R.enc x' = (R.enc x).set k v → (R.cells l).set (i * R.m + k) v = R.cells (l.set i x')
  | [], i, x, x', hi, _ => by simp at hi
  | y :: l, 0, x, x', hi, he => by
    simp at hi; subst hi
    unfold Rk.cells
    rw [List.set_cons_zero, List.flatMap_cons, List.flatMap_cons, Nat.zero_mul, Nat.zero_add, List.set_append_left _ _ (by rw [hR.len]; exact hk), he]
  | y :: l, i + 1, x, x', hi, he => by
    have ih := Rk.cells_set hR hk l i x x' (by simpa using hi) he
    unfold Rk.cells at ih ⊢
    rw [List.set_cons_succ, List.flatMap_cons, List.flatMap_cons, List.set_append_right _ _ (by rw [hR.len, Nat.succ_mul]; omega), hR.len]
    have e : (i + 1) * R.m + k - R.m = i * R.m + k := by rw [Nat.succ_mul]; omega
    rw [e, ih]
/-- an element's cell stored to -/
theorem Rk.Own.set (hR : R.Ok) {k i : Nat} (hk : k < R.m) {v : Value} {x x' : α} (h : R.Own w base (.slice (some ⟨g, 0, none⟩) n c) l) (hx : l[i]? = some x) (he : R.enc x' = (R.enc x).set k v) :
    R.Own (w.setCell ⟨g, i * R.m + k, none⟩ v) base (.slice (some ⟨g, 0, none⟩) n c) (l.set i x') := by
  refine ⟨by rw [hR.length], ?_⟩
  rcases h.2 with ⟨e, _⟩ | ⟨g2, cap, cur, e, hg, hh, hnc, hcm, hcs, ht⟩
  · injection e with e; cases e
  · injection e with e1 e2 e3
    injection e1 with e1
    injection e1 with e1
    subst e1
    refine .inr ⟨g, cap, _, by rw [e2, e3, List.length_set], hg, heap_setCell_same w g _ _ _ _ hh, by rw [List.length_set]; exact hnc, hcm, by rw [Array.size_setIfInBounds]; exact hcs, ?_⟩
    rw [Array.toList_setIfInBounds, List.take_set, List.length_set, ht, Rk.cells_set hR hk l i x x' hx he]
end

def passAll (par : Int) (s : Tb) (l : List Pd) : Tb := l.foldl (passStep par) s
theorem passAll_take {par : Int} {s : Tb} {l : List Pd} {i : Nat} {p : Pd} (h : l[i]? = some p) : passAll par s (l.take (i + 1)) = passStep par (passAll par s (l.take i)) p := by
  unfold passAll
  rw [List.take_add_one, h, Option.toList_some, List.foldl_append]; rfl
theorem Ws.go_len2 (l : List Pd) : ∀ s : Ws, (l.foldl Ws.step s).out.length + (if (l.foldl Ws.step s).put = true then 0 else 1) ≤ s.out.length + l.length + (if s.put = true then 0 else 1) := by
  induction l with
  | nil => intro s; simp only [List.foldl_nil, List.length_nil, Nat.add_zero]; exact Nat.le_refl _
  | cons q l ih =>
    intro s
    have h := ih (s.step q)
    have h2 : (s.step q).out.length + (if (s.step q).put = true then 0 else 1) ≤ s.out.length + 1 + (if s.put = true then 0 else 1) := by
      unfold Ws.step
      split
      · simp
      · split
        · next h3 =>
          have hp : s.put = false := by cases hq : s.put with | false => rfl | true => rw [hq] at h3; simp at h3
          simp [hp]
        · simp
    rw [List.foldl_cons, List.length_cons]
    omega
theorem withL_len1 (l : List Pd) (p : Pd) : (withL l p).length ≤ l.length + 1 := by
  have h := Ws.go_len2 l ⟨[], false, p⟩
  unfold withL Ws.all
  split
  · omega
  · split
    · next h1 => simp only [h1] at h; simp at h; omega
    · next h1 => simp only [h1] at h; simp at h; rw [List.length_append, List.length_singleton]; omega
theorem addC_len (C : List Ct) (k : Nat) (u d : Int) : (addC C k u d).length = C.length := List.length_set ..
theorem addC_ok {C : List Ct} (h : ∀ c ∈ C, c.Ok) (k : Nat) (u d : Int) : ∀ c ∈ addC C k u d, c.Ok := by
  intro c hc
  unfold addC at hc
  have hg : (C.getD k ctD).Ok := by
    rw [List.getD_eq_getElem?_getD]
    cases e : C[k]? with
    | none => exact ctD_ok
    | some y => exact h y (List.mem_of_getElem? e)
  rcases List.mem_or_eq_of_mem_set hc with hc | rfl
  · exact h c hc
  · exact ⟨hg.lo, hg.hi, w64_ok _⟩
theorem passAll_ok (par : Int) (hp : okI par) : ∀ (l : List Pd) (s : Tb), (∀ p ∈ l, p.Ok) → (∀ c ∈ s.C, c.Ok) → (∀ p ∈ s.P, p.Ok) →
    (passAll par s l).C.length = s.C.length ∧ (passAll par s l).P.length ≤ s.P.length + l.length ∧ (∀ c ∈ (passAll par s l).C, c.Ok) ∧ (∀ p ∈ (passAll par s l).P, p.Ok)
  | [], s, _, h2, h3 => ⟨rfl, Nat.le_refl _, h2, h3⟩
  | p :: l, s, h1, h2, h3 => by
    have hpk := h1 p (by simp)
    have hs : (passStep par s p).C.length = s.C.length ∧ (passStep par s p).P.length ≤ s.P.length + 1 ∧ (∀ c ∈ (passStep par s p).C, c.Ok) ∧ (∀ q ∈ (passStep par s p).P, q.Ok) := by
      unfold passStep
      split
      · exact ⟨addC_len .., Nat.le_succ _, addC_ok h2 _ _ _, h3⟩
      · exact ⟨rfl, withL_len1 _ _, h2, withL_ok h3 ⟨hpk.c, hp, hpk.u, hpk.d⟩⟩
    obtain ⟨a, b, c, d⟩ := passAll_ok par hp l (passStep par s p) (fun q hq => h1 q (List.mem_cons_of_mem _ hq)) hs.2.2.1 hs.2.2.2
    refine ⟨a.trans hs.1, ?_, c, d⟩
    show (passAll par (passStep par s p) l).P.length ≤ _
    rw [List.length_cons]
    have := hs.2.1
    omega
theorem Tb.pass_eq (t : Tb) (x par : Int) : t.pass x par = passAll par ⟨t.C, freeL t.P [x]⟩ (ofL t.P x) := rfl
theorem ctget {C : List Ct} {k n : Nat} (hn : C.length = n) (hk : k < n) : C[k]? = some (C.getD k ctD) := by
  rw [List.getD_eq_getElem?_getD, List.getElem?_eq_getElem (by omega)]; rfl
theorem step_none {par : Int} (h : par < 0) (C : List Ct) (P : List Pd) (k : Nat) (x u d : Int) : passStep par ⟨C, P⟩ ⟨(k : Int), x, u, d⟩ = ⟨addC C k u d, P⟩ := by
  unfold passStep; rw [if_pos h]; rfl
theorem step_some {par : Int} (h : ¬ par < 0) (C : List Ct) (P : List Pd) (c x u d : Int) : passStep par ⟨C, P⟩ ⟨c, x, u, d⟩ = ⟨C, withL P ⟨c, par, u, d⟩⟩ := by
  unfold passStep; rw [if_neg h]

set_option maxHeartbeats 4000000 in
theorem refpass_any (A B : Option Addr) (n a m b : Nat) (t : Tb) (x par : Int) (hx : okI x) (hpar : okI par) (hn : n ≤ 300) (hm : m ≤ 300) (hsp : t.C = [] ∨ Sp A) (hrg : ∀ p ∈ t.P, 0 ≤ p.c ∧ p.c < (n : Int)) (w : World) (ht : TbAt w A n B m t) :
    Calls Try.prog 19 #[tbV A n a B m b, .int .i64 x, .int .i64 par] w fun e w' => ∃ A' a' B' m' b', e = .returned (tbV A' n a' B' m' b') ∧ TbAt w' A' n B' m' (t.pass x par) ∧ Below w.heap.size w w' := by
  have HT := Lib.hid ht
  have HSP := Lib.hid hsp
  have HRG := Lib.hid hrg
  have HPAR := Lib.hid hpar
  have HOX := Lib.hid hx
  have HX := Lib.hid ((Bk.new w (tbC A n a B m b) 25).al (.cells #[.slice none 0 0, .slice none 0 0] 25))
  have HZ := Bk.new (w.alloc (.cells (tbC A n a B m b) 25)) #[.slice none 0 0, .slice none 0 0] 25
  rw [size_al] at HZ
  have HZ := Lib.hid HZ
  have HB := Lib.hid (below_two (below_new w (.cells (tbC A n a B m b) 25)) (below_new _ (.cells #[.slice none 0 0, .slice none 0 0] 25)))
  have hof := fun V hV => refof13_any A B n a m b t x (by omega) V (HT.out.below hV)
  have hfr := fun V E q r l hV hl hq => reffree_any A B n a m b t E q r l (by omega) (by omega) hq HSP.out V (HT.out.below hV) hl
  have HPE := Lib.hid (t.pass_eq x par)
  generalize t.pass x par = res at *
  clear ht hsp hrg hpar hx
  go_enter Try.func19, Try.ntmps19
  go_wp2_with fail
  refine (hof _ HB.out).mono ?_
  rintro e w1 ⟨lv, rfl, hown, hb, hsz⟩
  obtain ⟨q, hq⟩ : ∃ q, (ofL t.P x).length = q := ⟨_, rfl⟩
  obtain ⟨Al, cl, rfl⟩ := own_slice rp_okr hown hq
  have HQ := Lib.hid hq
  have HQM := Lib.hid (show q ≤ 300 from by have h := ofL_len t.P x; rw [HT.out.pl] at h; omega)
  have HL1 := Lib.hid (hown.at_ rp_okr)
  replace HX := Lib.hid (HX.out.below hb)
  replace HZ := Lib.hid (HZ.out.below hb)
  replace HB := Lib.hid (HB.out.trans (hb.mono HB.out.size))
  clear hb hof hown hsz hq
  go_upto_region 2 with fail
  have HXa := Lib.hid (HX.out.al (.cells #[.int .i64 x] 3))
  have HZa := Lib.hid (HZ.out.al (.cells #[.int .i64 x] 3))
  have HBa := Lib.hid (below_two HB.out (below_new w1 (.cells #[.int .i64 x] 3)))
  have HLa := Lib.hid (HL1.out.below (below_new w1 (.cells #[.int .i64 x] 3)))
  have hlx : Ls (w1.alloc (.cells #[.int .i64 x] 3)) (some ⟨w1.heap.size, 0, none⟩) 1 [x] := Ls.new w1 [x] (by intro y hy; simp at hy; subst hy; exact HOX.out)
  have hfr2 := hfr (w1.alloc (.cells #[.int .i64 x] 3)) (some ⟨w1.heap.size, 0, none⟩) 1 1 [x] HBa.out hlx (by omega)
  have x0 := HX.out.t0
  have x1 := HX.out.t1
  go_wp2_with fail
  refine hfr2.mono ?_
  rintro e w3 ⟨cv, pv, g, rfl, hto, hb⟩
  have HBb := Lib.hid (HBa.out.trans (hb.mono HBa.out.size))
  obtain ⟨A5, c5, rfl⟩ := own_slice rc_okr hto.c HT.out.cl
  obtain ⟨m5, hm5⟩ : ∃ m5, (freeL t.P [x]).length = m5 := ⟨_, rfl⟩
  obtain ⟨B5, b5, rfl⟩ := own_slice rp_okr hto.p hm5
  have HM5 := Lib.hid hm5
  have HMB := Lib.hid (show m5 ≤ 300 from by have h := freeL_len t.P [x]; rw [HT.out.pl] at h; omega)
  have HZb := Lib.hid ((HZa.out.below hb).al (.cells (tbC A5 n c5 B5 m5 b5) 25))
  have HLz := Lib.hid (HLa.out)
  have HBz := Lib.hid (hb.trans ((below_new w3 (.cells (tbC A5 n c5 B5 m5 b5) 25)).mono hb.size))
  have HGo := Lib.hid (Bk.new w3 (tbC A5 n c5 B5 m5 b5) 25)
  have HC := Lib.hid (hto.c.below (below_new w3 (.cells (tbC A5 n c5 B5 m5 b5) 25)))
  have HP := Lib.hid ((hto.p.at_ rp_okr).below (below_new w3 (.cells (tbC A5 n c5 B5 m5 b5) 25)))
  have HPB := Lib.hid (show ∀ b o, B5 = some ⟨b, o, none⟩ → g + 1 ≤ b ∧ b ≠ w3.heap.size from fun b o e => by have h := hto.p.lt b (by rw [e]; rfl); omega)
  have HCB := Lib.hid (show ∀ k, (Value.slice A5 n c5).ownBlock = some k → k < g from hto.lt)
  have HLE := Lib.hid hto.le
  have HSZ := Lib.hid hto.sz
  have HMX := Lib.hid (show w.heap.size + 1 < (w1.alloc (.cells #[.int .i64 x] 3)).heap.size from HZa.out.lt)
  have HWA := Lib.hid (show w.heap.size ≤ (w1.alloc (.cells #[.int .i64 x] 3)).heap.size from HBa.out.size)
  clear hto hb hm5 hfr2 hfr hlx x0 x1 HXa HZa HLa HX HZ HB HL1 HBb
  go_upto_region 3 with fail
  generalize hgo : w3.heap.size = go at *
  clear hgo
  generalize w3.alloc (.cells (tbC A5 n c5 B5 m5 b5) 25) = w4 at *
  generalize w1.alloc (.cells #[.int .i64 x] 3) = w2 at *
  have HGL := Lib.hid HGo.out.lt
  go_wp2_with fail
  go_loopw [9] (fun u wr => ∃ (j m' b' : Nat) (B' : Option Addr) (C' : List Ct) (P' : List Pd), u = .int .i64 (j : Int) ∧ j ≤ q ∧ Hid (passAll par ⟨t.C, freeL t.P [x]⟩ ((ofL t.P x).take j) = ⟨C', P'⟩) ∧ Hid (Below w2.heap.size w2 wr) ∧ Hid (RCr.Own wr (w2.heap.size + 1) (.slice A5 n c5) C') ∧ Hid (C'.length = n) ∧ Hid (RPr.At wr B' P') ∧ Hid (P'.length = m' ∧ m' ≤ m5 + j) ∧ Hid (∀ b o, B' = some ⟨b, o, none⟩ → g + 1 ≤ b ∧ b ≠ go) ∧ Hid (Bk wr go (tbC A5 n c5 B' m' b') 25) ∧ Hid (Bk wr (w.heap.size + 1) #[.slice none 0 0, .slice none 0 0] 25) ∧ Hid (go + 1 ≤ wr.heap.size)) (fun u _ => q - (intOf u).toNat)
  case atStart => exact ⟨0, m5, b5, B5, t.C, freeL t.P [x], rfl, Nat.zero_le _, Lib.hid rfl, HBz, HC, Lib.hid HT.out.cl, HP, Lib.hid ⟨HM5.out, Nat.le_refl _⟩, HPB, HGo, HZb, HGL⟩
  case round =>
    obtain ⟨j, m', b', B', C', P', rfl, hj, HPS, HWj, HCj, HCLj, HPj, HMj, HPBj, HGj, HZj, HSj⟩ := hrel
    rcases Nat.lt_or_ge j q with hlt | hge
    · obtain ⟨b2, o2, hA, hbl, hget, h0, h1, h2, h3⟩ := pd_cells HLz.out HQ.out hlt
      subst hA
      have HTK := Lib.hid (passAll_take (par := par) (s := ⟨t.C, freeL t.P [x]⟩) hget)
      rw [HPS.out] at HTK
      have hmem := ofL_mem (List.mem_of_getElem? hget)
      have hr := HRG.out _ hmem
      have HOP := Lib.hid (HT.out.okP _ hmem)
      generalize (ofL t.P x).getD j pdD = p at *
      obtain ⟨pc, px, u, d⟩ := p
      simp only at h0 h1 h2 h3 hr
      obtain ⟨hr0, hr1⟩ := hr
      obtain ⟨k, rfl⟩ : ∃ k : Nat, pc = k := ⟨pc.toNat, by omega⟩
      have hk : k < n := by omega
      have c0 := (HWj.out.cell (p := ⟨b2, o2 + j * 4, none⟩) hbl).trans h0
      have c1 := (HWj.out.cell (p := ⟨b2, o2 + j * 4 + 1, none⟩) hbl).trans h1
      have c2 := (HWj.out.cell (p := ⟨b2, o2 + j * 4 + 2, none⟩) hbl).trans h2
      have c3 := (HWj.out.cell (p := ⟨b2, o2 + j * 4 + 3, none⟩) hbl).trans h3
      have hd4 : decide ((j : Int) < (q : Int)) = true := decide_eq_true (by omega)
      have hd5 : decide (j < q) = true := decide_eq_true hlt
      have hi1 : (j : Int) < (q : Int) := by omega
      clear h0 h1 h2 h3 hbl hget hmem hr0 hr1
      have HPP := Lib.hid (show Bk (wr.alloc (.cells (pdC (k : Int) px u d) 74)) wr.heap.size (pdC (k : Int) px u d) 74 from Bk.new _ _ _)
      have HBN := Lib.hid (below_new wr (.cells (pdC (k : Int) px u d) 74))
      go_upto_region 7 with fail
      have HCk := Lib.hid (HCj.out.below HBN.out)
      have HPk := Lib.hid (HPj.out.below HBN.out)
      have HGk := Lib.hid (HGj.out.below HBN.out)
      have HZk := Lib.hid (HZj.out.below HBN.out)
      have HWk := Lib.hid (HWj.out.trans (HBN.out.mono HWj.out.size))
      have HSk := Lib.hid (Nat.le_trans HSj.out HBN.out.size)
      have HGN := Lib.hid (show go < wr.heap.size from HSj.out)
      clear c0 c1 c2 c3 HBN HCj HPj HGj HZj HWj HSj
      generalize wr.heap.size = gp at *
      generalize wr.alloc (.cells (pdC (k : Int) px u d) 74) = wz at *
      rcases (show par < 0 ∨ ¬ par < 0 from by omega) with hp | hp
      · rw [step_none hp] at HTK
        have q1 : decide (par < 0) = true := decide_eq_true hp
        clear hp
        have hne : C' ≠ [] := by intro e; have := HCLj.out; rw [e, List.length_nil] at this; omega
        obtain ⟨gC, csC, eA, hgC, hbC⟩ := HCk.out.blk hne
        subst eA
        have HBC := Lib.hid hbC
        have HGC := Lib.hid hgC
        have hck := ctget HCLj.out hk
        have HCK := Lib.hid hck
        obtain ⟨b7, o7, e7, _, hc7⟩ := (HCk.out.at_ rc_okr).get rc_okr hck
        injection e7 with e7
        injection e7 with e71 e72
        subst e71
        subst e72
        have HV := Lib.hid (show wz.cell? ⟨gC, k * 3 + 2, none⟩ = some (.int .i64 (C'.getD k ctD).v) from by have h := hc7 2 _ rfl; rw [Nat.zero_add] at h; exact h)
        have HAC : Hid (addC C' k u d = C'.set k { C'.getD k ctD with v := w64 (w64 ((C'.getD k ctD).v + u) + d) }) := rfl
        generalize C'.getD k ctD = ck at *
        obtain ⟨lo, hi, v⟩ := ck
        simp only at HV HAC
        clear hbC hgC hck hc7 hne
        have HF := Lib.hid (HBC.out.fr (k * 3 + 2))
        go_upto_region 8 with fail
        have HNE := Lib.hid (show gC < g from HCB.out gC rfl)
        have HNG := Lib.hid (show go ≠ gC from by have h1 := HNE.out; have h2 := HSZ.out; omega)
        have HNP := Lib.hid (show gp ≠ gC from by have h1 := HNE.out; have h2 := HSZ.out; have h3 := HGN.out; omega)
        have g0 : ∀ V, Turn (fun b => b = gC) wz V → V.cell? ⟨go, 0, none⟩ = some (.slice (some ⟨gC, 0, none⟩) n c5) := fun V hV => (HGk.out.turn hV HNG.out).t0
        have p0 : ∀ V, Turn (fun b => b = gC) wz V → V.cell? ⟨gp, 0, none⟩ = some (.int .i64 (k : Int)) := fun V hV => (HPP.out.turn hV HNP.out).p0
        have p2 : ∀ V, Turn (fun b => b = gC) wz V → V.cell? ⟨gp, 2, none⟩ = some (.int .i64 u) := fun V hV => (HPP.out.turn hV HNP.out).p2
        have p3 : ∀ V, Turn (fun b => b = gC) wz V → V.cell? ⟨gp, 3, none⟩ = some (.int .i64 d) := fun V hV => (HPP.out.turn hV HNP.out).p3
        have v0 := HV.out
        have f0 := HF.out
        obtain ⟨z1, hz1⟩ : ∃ z, w64 (v + u) = z := ⟨_, rfl⟩
        rw [hz1] at HAC
        obtain ⟨z2, hz2⟩ : ∃ z, w64 (z1 + d) = z := ⟨_, rfl⟩
        rw [hz2] at HAC
        have ew1 : IntKind.i64.wrap (v + u) = z1 := hz1
        have ew2 : IntKind.i64.wrap (z1 + d) = z2 := hz2
        clear hz1 hz2
        have hkn : (k : Int) < (n : Int) := by omega
        refine wp_region_turn (X := (fun b => b = gC)) (by kernel_rfl) ?_
        have hS : Turn (fun b => b = gC) wz (World.drew wz) := (Turn.refl _ _).drew
        refine wpAnyH_take (i := 0) (oi := ⟨some 30, _, _, _, _, _⟩) (v := ?_) rfl (by kernel_rfl) (by kernel_rfl) (by kernel_rfl) (fun _ _ _ h => h) (Or.inl ⟨by rfl, ?_⟩) hS ?_
        rotate_left
        · intro W hW; go_simp; with_reducible rfl
        try simp only [Act.put, List.setIfInBounds_toArray, List.set_cons_zero, List.set_cons_succ]
        refine wpAnyH_take (i := 1) (oi := ⟨some 31, _, _, _, _, _⟩) (v := ?_) rfl (by kernel_rfl) (by kernel_rfl) (by kernel_rfl) (fun _ _ _ h => h) (Or.inl ⟨by rfl, ?_⟩) hS ?_
        rotate_left
        · intro W hW; go_simp; with_reducible rfl
        try simp only [Act.put, List.setIfInBounds_toArray, List.set_cons_zero, List.set_cons_succ]
        refine wpAnyH_take (i := 2) (oi := ⟨some 32, _, _, _, _, _⟩) (v := ?_) rfl (by kernel_rfl) (by kernel_rfl) (by kernel_rfl) (fun _ _ _ h => h) (Or.inl ⟨by rfl, ?_⟩) hS ?_
        rotate_left
        · intro W hW; go_simp; with_reducible rfl
        try simp only [Act.put, List.setIfInBounds_toArray, List.set_cons_zero, List.set_cons_succ]
        refine wpAnyH_take (i := 3) (oi := ⟨some 33, _, _, _, _, _⟩) (v := ?_) rfl (by kernel_rfl) (by kernel_rfl) (by kernel_rfl) (fun _ _ _ h => h) (Or.inl ⟨by rfl, ?_⟩) hS ?_
        rotate_left
        · intro W hW; go_simp; with_reducible rfl
        try simp only [Act.put, List.setIfInBounds_toArray, List.set_cons_zero, List.set_cons_succ]
        refine wpAnyH_take (i := 4) (oi := ⟨some 34, _, _, _, _, _⟩) (v := ?_) rfl (by kernel_rfl) (by kernel_rfl) (by kernel_rfl) (fun _ _ _ h => h) (Or.inl ⟨by rfl, ?_⟩) hS ?_
        rotate_left
        · intro W hW; go_simp; with_reducible rfl
        try simp only [Act.put, List.setIfInBounds_toArray, List.set_cons_zero, List.set_cons_succ]
        refine wpAnyH_take (i := 5) (oi := ⟨some 35, _, _, _, _, _⟩) (v := ?_) rfl (by kernel_rfl) (by kernel_rfl) (by kernel_rfl) (fun _ _ _ h => h) (Or.inl ⟨by rfl, ?_⟩) hS ?_
        rotate_left
        · intro W hW; go_simp; with_reducible rfl
        try simp only [Act.put, List.setIfInBounds_toArray, List.set_cons_zero, List.set_cons_succ]
        refine wpAnyH_take (i := 6) (oi := ⟨some 36, _, _, _, _, _⟩) (v := ?_) rfl (by kernel_rfl) (by kernel_rfl) (by kernel_rfl) (fun _ _ _ h => h) (Or.inl ⟨by rfl, ?_⟩) hS ?_
        rotate_left
        · intro W hW; go_simp; with_reducible rfl
        try simp only [Act.put, List.setIfInBounds_toArray, List.set_cons_zero, List.set_cons_succ]
        refine wpAnyH_take (i := 7) (oi := ⟨some 37, _, _, _, _, _⟩) (v := ?_) rfl (by kernel_rfl) (by kernel_rfl) (by kernel_rfl) (fun _ _ _ h => h) (Or.inl ⟨by rfl, ?_⟩) hS ?_
        rotate_left
        · intro W hW; go_simp; with_reducible rfl
        try simp only [Act.put, List.setIfInBounds_toArray, List.set_cons_zero, List.set_cons_succ]
        refine wpAnyH_take (i := 8) (oi := ⟨some 38, _, _, _, _, _⟩) (v := ?_) rfl (by kernel_rfl) (by kernel_rfl) (by kernel_rfl) (fun _ _ _ h => h) (Or.inl ⟨by rfl, ?_⟩) hS ?_
        rotate_left
        · intro W hW; go_simp; with_reducible rfl
        try simp only [Act.put, List.setIfInBounds_toArray, List.set_cons_zero, List.set_cons_succ]
        refine wpAnyH_take (i := 9) (oi := ⟨some 39, _, _, _, _, _⟩) (v := ?_) rfl (by kernel_rfl) (by kernel_rfl) (by kernel_rfl) (fun _ _ _ h => h) (Or.inl ⟨by rfl, ?_⟩) hS ?_
        rotate_left
        · intro W hW; go_simp; with_reducible rfl
        try simp only [Act.put, List.setIfInBounds_toArray, List.set_cons_zero, List.set_cons_succ]
        refine wpAnyH_take (i := 11) (oi := ⟨some 41, _, _, _, _, _⟩) (v := ?_) rfl (by kernel_rfl) (by kernel_rfl) (by kernel_rfl) (fun _ _ _ h => h) (Or.inl ⟨by rfl, ?_⟩) hS ?_
        rotate_left
        · intro W hW; go_simp; with_reducible rfl
        try simp only [Act.put, List.setIfInBounds_toArray, List.set_cons_zero, List.set_cons_succ]
        refine wpAnyH_take (i := 12) (oi := ⟨some 42, _, _, _, _, _⟩) (v := ?_) rfl (by kernel_rfl) (by kernel_rfl) (by kernel_rfl) (fun _ _ _ h => h) (Or.inl ⟨by rfl, ?_⟩) hS ?_
        rotate_left
        · intro W hW; go_simp; with_reducible rfl
        try simp only [Act.put, List.setIfInBounds_toArray, List.set_cons_zero, List.set_cons_succ]
        refine wpAnyH_take (i := 14) (oi := ⟨some 44, _, _, _, _, _⟩) (v := ?_) rfl (by kernel_rfl) (by kernel_rfl) (by kernel_rfl) (fun _ _ _ h => h) (Or.inl ⟨by rfl, ?_⟩) hS ?_
        rotate_left
        · intro W hW; go_simp; with_reducible rfl
        try simp only [Act.put, List.setIfInBounds_toArray, List.set_cons_zero, List.set_cons_succ]
        refine wpAnyH_take (i := 15) (oi := ⟨some 45, _, _, _, _, _⟩) (v := ?_) rfl (by kernel_rfl) (by kernel_rfl) (by kernel_rfl) (fun _ _ _ h => h) (Or.inl ⟨by rfl, ?_⟩) hS ?_
        rotate_left
        · intro W hW; go_simp; with_reducible rfl
        try simp only [Act.put, List.setIfInBounds_toArray, List.set_cons_zero, List.set_cons_succ]
        refine wpAnyH_ready (rs := [10]) (by kernel_rfl) (by simp) ?_
        refine AllReadyH.cons (o := ⟨some 40, _, _, _, _, _⟩) rfl (fun Kr hKr => ?_) AllReadyH.nil
        -- operation 10: a step
        try rw [if_pos (by kernel_rfl)]
        go_simp
        show Kr _ _
        refine hKr.out _ _ ?_ (fun _ => ?_)
        · exact hS
        clear hKr Kr
        try simp only [Act.put, List.setIfInBounds_toArray, List.set_cons_zero, List.set_cons_succ]
        refine wpAnyH_take (i := 13) (oi := ⟨some 43, _, _, _, _, _⟩) (v := ?_) rfl (by kernel_rfl) (by kernel_rfl) (by kernel_rfl) (fun _ _ _ h => h) (Or.inl ⟨by rfl, ?_⟩) hS ?_
        rotate_left
        · intro W hW; go_simp; with_reducible rfl
        try simp only [Act.put, List.setIfInBounds_toArray, List.set_cons_zero, List.set_cons_succ]
        refine wpAnyH_take (i := 16) (oi := ⟨some 46, _, _, _, _, _⟩) (v := ?_) rfl (by kernel_rfl) (by kernel_rfl) (by kernel_rfl) (fun _ _ _ h => h) (Or.inl ⟨by rfl, ?_⟩) hS ?_
        rotate_left
        · intro W hW; go_simp; with_reducible rfl
        try simp only [Act.put, List.setIfInBounds_toArray, List.set_cons_zero, List.set_cons_succ]
        refine wpAnyH_take (i := 17) (oi := ⟨some 47, _, _, _, _, _⟩) (v := ?_) rfl (by kernel_rfl) (by kernel_rfl) (by kernel_rfl) (fun _ _ _ h => h) (Or.inl ⟨by rfl, ?_⟩) hS ?_
        rotate_left
        · intro W hW; go_simp; with_reducible rfl
        try simp only [Act.put, List.setIfInBounds_toArray, List.set_cons_zero, List.set_cons_succ]
        refine wpAnyH_take (i := 18) (oi := ⟨some 48, _, _, _, _, _⟩) (v := ?_) rfl (by kernel_rfl) (by kernel_rfl) (by kernel_rfl) (fun _ _ _ h => h) (Or.inl ⟨by rfl, ?_⟩) hS ?_
        rotate_left
        · intro W hW; go_simp; with_reducible rfl
        try simp only [Act.put, List.setIfInBounds_toArray, List.set_cons_zero, List.set_cons_succ]
        refine wpAnyH_ready (rs := [19]) (by kernel_rfl) (by simp) ?_
        refine AllReadyH.cons (o := ⟨none, _, _, _, _, _⟩) rfl (fun Kr hKr => ?_) AllReadyH.nil
        -- operation 19: a step
        try rw [if_pos (by kernel_rfl)]
        go_simp
        show Kr _ _
        refine hKr.out _ _ ?_ (fun _ => ?_)
        · exact ((Turn.refl (fun b => b = gC) wz).setCell ⟨gC, k * 3 + 2, none⟩ (.int .i64 z2) (.inl rfl)).drew
        clear hKr Kr
        replace hS : Turn (fun b => b = gC) wz (World.drew (wz.setCell ⟨gC, k * 3 + 2, none⟩ (.int .i64 z2))) := ((Turn.refl (fun b => b = gC) wz).setCell ⟨gC, k * 3 + 2, none⟩ (.int .i64 z2) (.inl rfl)).drew
        try simp only [Act.put, List.setIfInBounds_toArray, List.set_cons_zero, List.set_cons_succ]
        refine wpAnyH_done (by kernel_rfl) ?_ _
        clear hS
        have HT8 : Hid (Turn (fun b => b = gC) wz (World.drew (wz.setCell ⟨gC, k * 3 + 2, none⟩ (.int .i64 z2)))) := Lib.hid ((Turn.refl (fun b => b = gC) wz).setCell ⟨gC, k * 3 + 2, none⟩ _ (.inl rfl)).drew
        have HC8 : Hid (RCr.Own (World.drew (wz.setCell ⟨gC, k * 3 + 2, none⟩ (.int .i64 z2))) (w2.heap.size + 1) (.slice (some ⟨gC, 0, none⟩) n c5) (C'.set k ⟨lo, hi, z2⟩)) := Lib.hid (Rk.Own.set rc_okr (k := 2) (i := k) (by decide) (v := .int .i64 z2) HCk.out HCK.out rfl)
        generalize World.drew (wz.setCell ⟨gC, k * 3 + 2, none⟩ (.int .i64 z2)) = w8 at *
        clear g0 p0 p2 p3 v0 f0 ew1 ew2
        rw [HAC.out] at HTK
        have hq3 : q ≤ 300 := HQM.out
        go_wp2_with fail
        have K1 := Lib.hid (HWk.out.trans (HT8.out.below (B := w2.heap.size) (fun b e => by have := HGC.out; omega) HWk.out.size))
        have K2 := Lib.hid (HPk.out.turn HT8.out (fun b o e => .inr (fun h => by have h1 := HPBj.out b o e; have := HNE.out; omega)))
        have K3 := Lib.hid (HGk.out.turn HT8.out (fun h => by have h1 := HNE.out; have h2 := HSZ.out; omega))
        have K4 := Lib.hid (HZk.out.turn HT8.out (fun h => by have h1 := HGC.out; have h2 := HMX.out; omega))
        have K5 := Lib.hid (Nat.le_trans HSk.out HT8.out.size)
        have K6 := Lib.hid (show (C'.set k (Ct.mk lo hi z2)).length = n from by rw [List.length_set]; exact HCLj.out)
        have K7 := Lib.hid (show P'.length = m' ∧ m' ≤ m5 + (j + 1) from ⟨HMj.out.1, Nat.le_trans HMj.out.2 (Nat.le_succ _)⟩)

        exact ⟨⟨j + 1, m', b', B', C'.set k ⟨lo, hi, z2⟩, P', rfl, hlt, HTK, K1, HC8, K6, K2, K7, HPBj, K3, K4, K5⟩, by simp [intOf]; omega⟩
      · rw [step_some hp] at HTK
        have q1 : decide (par < 0) = false := decide_eq_false hp
        clear hp
        have g1 := HGk.out.t1
        have p0 := HPP.out.p0
        have p2 := HPP.out.p2
        have p3 := HPP.out.p3
        have hwi := refwith_all B' m' b' P' (k : Int) par u d (by have h1 := HMj.out.2; have h2 := HMB.out; have h3 := HQM.out; omega) wz HMj.out.1 HPk.out
        have HLW := Lib.hid (withL_len1 P' ⟨(k : Int), par, u, d⟩)
        generalize withL P' ⟨(k : Int), par, u, d⟩ = P6 at *
        go_wp2_with fail
        refine hwi.mono ?_
        rintro e w6 ⟨A6, n6, a6, rfl, hp6, hl6, ha6, hb6⟩
        have HP6 := Lib.hid hp6
        have HL6 := Lib.hid hl6
        have HA6 := Lib.hid ha6
        have HC6 := Lib.hid (HCk.out.below hb6)
        have HG6 := Lib.hid (HGk.out.below hb6)
        have HZ6 := Lib.hid (HZk.out.below hb6)
        have HW6 := Lib.hid (HWk.out.trans (hb6.mono HWk.out.size))
        have HS6 := Lib.hid (Nat.le_trans HSk.out hb6.size)
        clear hwi hp6 hl6 ha6 hb6 g1 p0 p2 p3
        have g1 := HG6.out.t1
        have f1 := HG6.out.fr 1
        have hq3 : q ≤ 300 := HQM.out
        go_wp2_with fail
        have HT8 : Hid (Turn (fun b => b = go) w6 (w6.setCell ⟨go, 1, none⟩ (.slice A6 n6 a6))) := Lib.hid ((Turn.refl (fun b => b = go) w6).setCell ⟨go, 1, none⟩ _ (.inl rfl))
        have HG8 : Hid (Bk (w6.setCell ⟨go, 1, none⟩ (.slice A6 n6 a6)) go (tbC A5 n c5 A6 n6 a6) 25) := Lib.hid (heap_setCell_same w6 go 1 _ _ _ HG6.out)
        generalize w6.setCell ⟨go, 1, none⟩ (.slice A6 n6 a6) = w8 at *
        have K1 := Lib.hid (HW6.out.trans (HT8.out.below (B := w2.heap.size) (fun b e => by have h1 := HLE.out; have h2 := HSZ.out; omega) HW6.out.size))
        have K2 := Lib.hid (HC6.out.turn HT8.out (fun b e h => by have h1 := HCB.out b e; have h2 := HSZ.out; omega))
        have K3 : Hid (∀ b o, A6 = some ⟨b, o, none⟩ → g + 1 ≤ b ∧ b ≠ go) := fun b o e => by
          rcases HA6.out with ⟨h1, _⟩ | h1
          · rw [h1] at e; exact HPBj.out b o e
          · have := h1 b o e; have := HSk.out; have := HSZ.out; omega
        have K4 := Lib.hid (HP6.out.turn HT8.out (fun b o e => .inr (fun h => (K3.out b o e).2 h)))
        have K5 := Lib.hid (show P6.length = n6 ∧ n6 ≤ m5 + (j + 1) from ⟨HL6.out, by have h1 := HLW.out; have h2 := HMj.out; have h3 := HL6.out; omega⟩)
        have K6 := Lib.hid (HZ6.out.turn HT8.out (fun h => by have h1 := HLE.out; have h2 := HMX.out; have h3 := HSZ.out; omega))
        have K7 := Lib.hid (Nat.le_trans HS6.out HT8.out.size)
        exact ⟨⟨j + 1, n6, a6, A6, C', P6, rfl, hlt, HTK, K1, K2, HCLj, K4, K5, K3, HG8, K6, K7⟩, by simp [intOf]; omega⟩
    · obtain rfl : j = q := by omega
      have hd4 : decide ((j : Int) < (j : Int)) = false := decide_eq_false (by omega)
      have hd5 : decide (j < j) = false := decide_eq_false (by omega)
      have hlj : (ofL t.P x).take j = ofL t.P x := List.take_of_length_le (by rw [HQ.out]; exact Nat.le_refl _)
      rw [hlj] at HPS
      clear hlj
      have g0 := HGj.out.t0
      have g1 := HGj.out.t1
      have z0 : wr.cell? ⟨w.heap.size + 1, 0, none⟩ = some (.slice none 0 0) := HZj.out.c 0 _ rfl
      have z1 : wr.cell? ⟨w.heap.size + 1, 1, none⟩ = some (.slice none 0 0) := HZj.out.c 1 _ rfl
      have f0 := HZj.out.fr 0
      have f1 := HZj.out.fr 1
      go_wp2_with fail
      refine bodyPost_ret (v := tbV A5 n c5 B' m' b') (by rw [results_cell_one rfl]; go_simp) rfl ⟨A5, c5, B', m', b', rfl, ?_, ?_⟩
      all_goals
        have hT := ((Turn.refl (fun b => b = w.heap.size + 1) wr).setCell ⟨w.heap.size + 1, 0, none⟩ (.slice A5 n c5) (.inl rfl)).setCell ⟨w.heap.size + 1, 1, none⟩ (.slice B' m' b') (.inl rfl)
      · have hk := passAll_ok par HPAR.out (ofL t.P x) ⟨t.C, freeL t.P [x]⟩ (fun p h => HT.out.okP p (ofL_mem h)) HT.out.okC (fun p h => HT.out.okP p (freeL_mem h))
        rw [HPS.out] at hk
        rw [HPE.out, HPS.out]
        refine ⟨HCLj.out, HMj.out.1, hk.2.2.1, hk.2.2.2, (HCj.out.turn hT (fun b e h => by have h1 := (HCj.out.lt b e).1; have h2 := HMX.out; omega)).at_ rc_okr, HPj.out.turn hT (fun b o e => .inr (fun h => by have h1 := HPBj.out b o e; have h2 := HMX.out; have h3 := HLE.out; omega))⟩
      · exact HBa.out.trans ((HWj.out.mono HWA.out).trans (hT.below (B := w.heap.size) (fun b e => by omega) (Nat.le_trans HWA.out HWj.out.size)))
end Go.Proofs.Ytogngghfdcpeaaa
