/-
  Versions of those in a list are taken away.
-/
import Derived.Test.YtmhnjmfcenbogaaPr
namespace Go.Proofs.Ytmhnjmfcenbogaa
set_option maxRecDepth 100000
set_option linter.unusedVariables false
set_option linter.unusedSimpArgs false
open Go.RowKit Go.Shelf Go.Maps

def inB (l : List Int) (x : Int) : Bool := l.any fun y => decide (y = x)
theorem inB_take {l : List Int} {i : Nat} {y x : Int} (h : l[i]? = some y) : inB (l.take (i + 1)) x = (inB (l.take i) x || decide (y = x)) := by
  unfold inB
  rw [List.take_add_one, h, Option.toList_some, List.any_append]
  simp
theorem filt_rel {Rel : Vr → Vn → Prop} (hx : ∀ r v, Rel r v → r.x = v.x) (p : Int → Bool) : ∀ (vs : List Vr) (L : List Vn), vs.length = L.length → (∀ (i : Nat) (r : Vr) (v : Vn), vs[i]? = some r → L[i]? = some v → Rel r v) →
    (vs.filter fun y => p y.x).length = (L.filter fun y => p y.x).length ∧ ∀ (i : Nat) (r : Vr) (v : Vn), (vs.filter fun y => p y.x)[i]? = some r → (L.filter fun y => p y.x)[i]? = some v → Rel r v
  | [], [], _, _ => ⟨rfl, fun i r v h => by simp at h⟩
  | [], v :: L, h, _ => by simp at h
  | r :: vs, [], h, _ => by simp at h
  | r :: vs, v :: L, h, hr => by
    have h0 := hr 0 r v rfl rfl
    obtain ⟨i1, i2⟩ := filt_rel hx p vs L (by simpa using h) (fun i r v e1 e2 => hr (i + 1) r v (by simpa using e1) (by simpa using e2))
    have e := hx r v h0
    rw [List.filter_cons, List.filter_cons, e]
    by_cases hp : p v.x = true
    · rw [if_pos hp, if_pos hp]
      refine ⟨by simp [i1], fun i r' v' e1 e2 => ?_⟩
      cases i with
      | zero => simp at e1 e2; subst e1; subst e2; exact h0
      | succ i => simp at e1 e2; exact i2 i r' v' e1 e2
    · rw [if_neg hp, if_neg hp]
      exact ⟨i1, i2⟩

def IsAt (W : World) (E : Option Addr) (l : List Int) : Prop := (∀ x ∈ l, okI x) ∧ (l = [] ∨ ∃ b o, E = some ⟨b, o, none⟩ ∧ b < W.heap.size ∧ ∀ (j : Nat) (x : Int), l[j]? = some x → W.cell? ⟨b, o + j, none⟩ = some (.int .i64 x))
theorem IsAt.below {W V : World} {E : Option Addr} {l : List Int} (h : IsAt W E l) (hb : Below W.heap.size W V) : IsAt V E l := by
  refine ⟨h.1, ?_⟩
  rcases h.2 with h | ⟨b, o, e, hlt, hc⟩
  · exact .inl h
  · exact .inr ⟨b, o, e, Nat.lt_of_lt_of_le hlt hb.size, fun j x hx => (hb.cell (p := ⟨b, o + j, none⟩) hlt).trans (hc j x hx)⟩
theorem IsAt.get {W : World} {E : Option Addr} {l : List Int} (h : IsAt W E l) {j : Nat} (hj : j < l.length) : ∃ b o, E = some ⟨b, o, none⟩ ∧ b < W.heap.size ∧ okI (l.getD j 0) ∧ l[j]? = some (l.getD j 0) ∧ W.cell? ⟨b, o + j, none⟩ = some (.int .i64 (l.getD j 0)) := by
  have hx : l[j]? = some (l.getD j 0) := by rw [List.getD_eq_getElem?_getD, List.getElem?_eq_getElem hj]; rfl
  rcases h.2 with h0 | ⟨b, o, e, hlt, hc⟩
  · rw [h0] at hj; exact absurd hj (Nat.not_lt_zero _)
  · exact ⟨b, o, e, hlt, h.1 _ (List.mem_of_getElem? hx), hx, hc j _ hx⟩
theorem IdAt.ints {W : World} {E : Option Addr} {l : List Nat} (h : IdAt W E l) (hl : ∀ z ∈ l, z ≤ 1000) : IsAt W E (l.map Int.ofNat) := by
  refine ⟨fun x hx => ?_, ?_⟩
  · obtain ⟨z, hz, rfl⟩ := List.mem_map.1 hx
    have := hl z hz
    show okI (z : Int)
    unfold okI; omega
  · rcases h with ⟨_, h⟩ | ⟨b, e, hb, hc⟩
    · exact .inl (by rw [h]; rfl)
    · refine .inr ⟨b, 0, e, hb, fun j x hx => ?_⟩
      rw [List.getElem?_map] at hx
      cases hz : l[j]? with
      | none => rw [hz] at hx; cases hx
      | some z => rw [hz] at hx; injection hx with hx; rw [← hx, Nat.zero_add]; exact hc j z hz

theorem int_keyK (x : Int) (h : okI x) : keyOf Try.prog 3 (.int .i64 x) = some (.int .i64 x) := keyOf_int_mk Try.underlying3 (by unfold okI at h; simp [Lit.wf, IntKind.bits, IntKind.signed, IntKind.min, IntKind.max]; omega)
structure Gone (W : World) (g bm : Nat) (G : Int → Bool) : Prop where
  box : W.heap[g]? = some (.cells #[.map (some bm)] 84 (0, 0))
  map : ∃ nn D, W.ownsMap (H := Unit) Try.prog 3 unitElem bm nn D ∧ ∀ x : Int, okI x → Maps.has D (.int .i64 x) = G x
theorem Gone.turn {S : Nat → Prop} {W V : World} {g bm : Nat} {G : Int → Bool} (h : Gone W g bm G) (ht : Turn S W V) (h1 : ¬ S g) (h2 : ¬ S bm) : Gone V g bm G := by
  obtain ⟨nn, D, ⟨es, cl, hh, r⟩, hD⟩ := h.map
  exact ⟨(ht.block g (lt_of_block h.box) h1).trans h.box, nn, D, ⟨es, cl, (ht.block bm (lt_of_block hh) h2).trans hh, r⟩, hD⟩
theorem Gone.below {W V : World} {g bm : Nat} {G : Int → Bool} (h : Gone W g bm G) (hb : Below W.heap.size W V) : Gone V g bm G := h.turn (S := fun _ => False) (Turn.ofBelow hb) (fun h => h) (fun h => h)

theorem free1_any (g bm : Nat) (G : Int → Bool) (yb yx : Int) (yA : Option Addr) (yn yk : Nat) (hx : okI yx) (W : World) (hG : Gone W g bm G) :
    Calls Try.prog 35 #[veV yb yx yA yn yk, .pointer (some ⟨g, 0, none⟩)] W fun e w' => e = .returned (.bool (G yx)) ∧ Below W.heap.size W w' := by
  obtain ⟨W1, hW1⟩ : ∃ W1, W1 = W.alloc (.cells (veC yb yx yA yn yk) 74) := ⟨_, rfl⟩
  have hb1 : Below W.heap.size W W1 := by rw [hW1]; exact below_new _ _
  have hG1 := hG.below hb1
  obtain ⟨nn, D, hM, hD⟩ := hG1.map
  have hc : W1.cell? ⟨g, 0, none⟩ = some (.map (some bm)) := (cell_of_row _ _ _ _ _ _ hG1.box).trans rfl
  have hy : Bk W1 W.heap.size (veC yb yx yA yn yk) 74 := by rw [hW1]; exact Bk.new W _ _
  have hyc := hy.e1
  have hkey := int_keyK yx hx
  have hd := hD yx hx
  obtain ⟨q, hq⟩ : ∃ q, G yx = q := ⟨_, rfl⟩
  rw [hq] at hd
  have HB := Lib.hid (show Below W.heap.size W (W1.alloc (.cells #[] 85)) from hb1.alloc hb1.size _)
  have HM := Lib.hid hM
  clear hG hG1 hD hM hy hx hb1
  rw [hq]
  clear hq
  go_enter Try.func35, Try.ntmps35
  go_upto_region 1 with fail
  rw [← hW1]
  clear hW1
  have hown1 := HM.out
  go_wp2_with (first | (at_lookup; refine wpList_lookup_own_unit _ rfl _ _ 84 rfl 3 85 (int_keyed Try.underlying3) Try.underlying84 (Try.zeroValue85 _) bm nn D rfl hown1 _ _ rfl hkey ?_; rw [hd]; clear hown1) | fail)
  go_ret
  exact ⟨rfl, HB.out⟩

/-- a table's versions gone through -/
theorem Tow.filter {W V : World} {lo hi n a m b n7 k7 : Nat} {A B : Option Addr} {t : Vt} {ss : List Sl} {vs : List Vr} (h : Tow W lo hi A n a B m b t ss vs) (l : List Int) (ht : Turn (fun q => ∃ o, B = some ⟨q, o, none⟩) W V) (ho : RVo.Own V lo (.slice B n7 k7) (vs.filter fun y => !inB l y.x)) :
    Tow V lo hi A n a B n7 k7 ⟨t.B, freeV t.L l⟩ ss (vs.filter fun y => !inB l y.x) := by
  have hvl : vs.length = t.L.length := by rw [own_len rv_oko h.ov, h.kv]
  obtain ⟨r1, r2⟩ := filt_rel (Rel := fun r v => (r.b = v.b ∧ r.x = v.x) ∧ DatAt V r.s v.d ∧ ∀ q o, r.s.A = some ⟨q, o, none⟩ → hi ≤ q) (fun r v h => h.1.2) (fun x => !inB l x) vs t.L hvl (fun i r v e1 e2 => by
    obtain ⟨h1, h2, h3⟩ := h.dv i r e1
    rw [List.getD_eq_getElem?_getD, e2] at h1 h2
    exact ⟨h1, h2.turn ht (fun q o e => .inr fun ⟨o', e'⟩ => by have := h3 q o e; have := h.hb q o' e'; omega), h3⟩)
  have hf : freeV t.L l = t.L.filter fun y => !inB l y.x := rfl
  refine ⟨h.ob.turn ht (fun k e ⟨o, e'⟩ => ?_), ho, h.kb, ?_, h.sep, h.ha, h.hb, fun i s e => ⟨(h.db i s e).1.turn ht (fun q o e2 => .inr fun ⟨o', e'⟩ => by have := (h.db i s e).2 q o e2; have := h.hb q o' e'; omega), (h.db i s e).2⟩, fun i r e => ?_, h.fa⟩
  · obtain ⟨_, _, e1, _, _, h3⟩ := h.ob.form rb_ok
    injection e1 with e1 _ _
    rcases h3 with h3 | ⟨g, h3, _⟩
    · rw [h3] at e1; subst e1; cases e
    · rw [h3] at e1; subst e1
      injection e with e
      have e : g = k := e
      exact h.sep g 0 k o rfl e' e
  · rw [hf, ← r1, own_len rv_oko ho]
  · have hi : i < (t.L.filter fun y => !inB l y.x).length := by rw [← r1]; exact (List.getElem?_eq_some_iff.1 e).1
    have h2 := r2 i r _ e (List.getElem?_eq_getElem hi)
    simp only [hf]
    rw [List.getD_eq_getElem?_getD, List.getElem?_eq_getElem hi]
    exact h2

set_option maxHeartbeats 2000000 in
theorem vfree_any (A B : Option Addr) (n a m b : Nat) (t : Vt) (E : Option Addr) (ni ki : Nat) (l : List Int) (hni : l.length = ni) (hnl : ni ≤ 1000) (w : World) (ht : VtAt RVo w A n a B m b t) (hs : SanV t) (hl : t.L.length ≤ 1000) (hE : IsAt w E l) :
    Calls Try.prog 15 #[vtV A n a B m b, .slice E ni ki] w fun e w' => ∃ lo hi A' B' m' b' ss vs, e = .returned (vtV A' n n B' m' b') ∧ Tow w' lo hi A' n n B' m' b' ⟨t.B, freeV t.L l⟩ ss vs ∧ w.heap.size ≤ lo ∧ lo ≤ hi ∧ Below w.heap.size w w' := by
  have HT := Lib.hid ht
  have HSN := Lib.hid hs
  have HTL := Lib.hid hl
  have HLS := Lib.hid hE
  have HNI := Lib.hid hni
  obtain ⟨w0, hw0⟩ : ∃ w0, w0 = w.alloc (.cells (vtC A n a B m b) 30) := ⟨_, rfl⟩
  obtain ⟨w1, hw1⟩ : ∃ w1, w1 = w0.alloc (.cells #[.slice none 0 0, .slice none 0 0] 30) := ⟨_, rfl⟩
  have hs0 : w0.heap.size = w.heap.size + 1 := by rw [hw0]; simp
  have hs1 : w1.heap.size = w.heap.size + 2 := by rw [hw1, World.size_alloc, hs0]
  have b0 : Below w.heap.size w w1 := by rw [hw1, hw0]; exact below_two (below_new _ _) (below_new _ _)
  have x0 : Bk w1 w.heap.size (vtC A n a B m b) 30 := by rw [hw1, hw0]; exact (Bk.new w _ _).below (below_new _ _)
  have x1 : Bk w1 (w.heap.size + 1) #[.slice none 0 0, .slice none 0 0] 30 := by have := Bk.new w0 #[.slice none 0 0, .slice none 0 0] 30; rw [hs0] at this; rw [hw1]; exact this
  obtain ⟨w2, hw2⟩ : ∃ w2, w2 = w1.alloc (.map #[] 0) := ⟨_, rfl⟩
  obtain ⟨w3, hw3⟩ : ∃ w3, w3 = w2.alloc (.cells #[.map (some (w.heap.size + 2))] 84) := ⟨_, rfl⟩
  have hs2 : w2.heap.size = w.heap.size + 2 + 1 := by rw [hw2, World.size_alloc, hs1]
  have b2 : Below w.heap.size w w3 := by rw [hw3, hw2]; exact (b0.alloc b0.size _).alloc (by simp; exact Nat.le_succ_of_le b0.size) _
  have m2 : w3.ownsMap (H := Unit) Try.prog 3 unitElem (w.heap.size + 2) 0 (.map []) := by
    have h := (World.ownsMap_made w1 Try.prog 3 (unitElem (H := Unit)))
    rw [hs1] at h
    rw [hw3, hw2]; exact h.alloc _
  have v2 : w3.heap[w.heap.size + 2 + 1]? = some (.cells #[.map (some (w.heap.size + 2))] 84 (0, 0)) := by
    rw [hw3, ← hs2]; exact heap_alloc_new w2 _
  have k3 : Bk w3 w.heap.size (vtC A n a B m b) 30 := by rw [hw3, hw2]; exact (x0.below (below_new _ _)).below (below_new _ _)
  have r3 : Bk w3 (w.heap.size + 1) #[.slice none 0 0, .slice none 0 0] 30 := by rw [hw3, hw2]; exact (x1.below (below_new _ _)).below (below_new _ _)
  have hs3 : w3.heap.size = w.heap.size + 2 + 1 + 1 := by rw [hw3, World.size_alloc, hs2]
  have HB := Lib.hid b2
  have HMP := Lib.hid m2
  have HV := Lib.hid v2
  have HK := Lib.hid k3
  have HR := Lib.hid r3
  have HS3 := Lib.hid hs3
  have hmm := @run_makeMap Try.prog
  clear ht hs hl hE hni b0 x0 x1 b2 m2 v2 k3 r3 hs3 hs2 hs0
  go_enter Try.func15, Try.ntmps15
  go_upto_region 1 with fail
  rw [← hw0, ← hw1]
  clear hw0 hw1 w0
  go_upto_region 2 with fail
  rw [← hw2, ← hw3]
  obtain ⟨g5, hg5⟩ : ∃ g5, g5 = w.heap.size + 2 + 1 := ⟨_, rfl⟩
  obtain ⟨g4, hg4⟩ : ∃ g4, g4 = w.heap.size + 2 := ⟨_, rfl⟩
  rw [← hg5] at HV HS3 ⊢
  rw [← hg4] at HMP HV ⊢
  have HG5 := Lib.hid hg5
  have HG4 := Lib.hid hg4
  clear hw2 hw3 hs1 hg5 hg4 w2 hmm
  go_wp2_with fail
  go_loopw [7, 11] (fun _ iv wr => ∃ (j : Nat) (D : DataW Unit), iv = .int .i64 (j : Int) ∧ j ≤ ni ∧ Hid (wr.ownsMap Try.prog 3 unitElem g4 j D) ∧ Hid (∀ x : Int, okI x → Maps.has D (.int .i64 x) = inB (l.take j) x) ∧ Hid (Turn (fun q => q = g4) w3 wr)) (fun _ iv _ => ni - (intOf iv).toNat)
  case atStart => exact ⟨0, .map [], rfl, Nat.zero_le _, HMP.out, (fun x _ => rfl), Turn.refl _ _⟩
  case round =>
    obtain ⟨j, D, rfl, hj, HM, HD, HT3⟩ := hrel
    have HBR := Lib.hid (HB.out.trans ((HT3.out).below (B := w.heap.size) (fun q e => by have := HG4.out; omega) HB.out.size))
    have HVR := Lib.hid (HT3.out.block g5 (lt_of_block HV.out) (by have h1 := HG4.out; have h2 := HG5.out; show ¬ g5 = g4; omega) |>.trans HV.out)
    have HKR := Lib.hid (HK.out.turn HT3.out (by have := HG4.out; omega))
    have HRR := Lib.hid (HR.out.turn HT3.out (by have := HG4.out; omega))
    rcases Nat.lt_or_ge j ni with hlt | hge
    · obtain ⟨bl, ol, hE, hbl, hokl, hgetl, hcl⟩ := (HLS.out.below HBR.out).get (j := j) (by rw [HNI.out]; exact hlt)
      subst hE
      have HTKS := Lib.hid (fun x => inB_take (x := x) hgetl)
      have hkey := int_keyK _ hokl
      have hd4 : decide ((j : Int) < (ni : Int)) = true := decide_eq_true (by omega)
      have hd5 : decide (j < ni) = true := decide_eq_true hlt
      have hi1 : (j : Int) < (ni : Int) := by omega
      generalize l.getD j 0 = y at *
      have hvc : wr.cell? ⟨g5, 0, none⟩ = some (.map (some g4)) := (cell_of_row _ _ _ _ _ _ HVR.out).trans rfl
      have hown1 := HM.out
      clear hgetl hbl hokl
      go_wp2_with (first | (at_mapUpdate; refine wpList_mapUpdate_own _ rfl _ _ _ 84 rfl 3 85 (int_keyed Try.underlying3) Try.underlying84 unitElem g4 j D rfl hown1 (by unfold maxLen; omega) _ _ _ rfl rfl hkey _ [] unitElem_mk ?_; intro w4 hown4 hg4'; have HO4 := Lib.hid hown4; have HGB := Lib.hid hg4'; clear hown4 hg4' hown1 hvc) | fail)
      refine ⟨⟨j + 1, _, by simp, by omega, HO4.out, (show ∀ x : Int, okI x → _ from fun x hx => ?_), HT3.out.grown HGB.out (fun q e => by injection e with e; exact .inl e.symm)⟩, by simp [intOf]; omega⟩
      rw [HTKS.out]
      by_cases e : y = x
      · subst e
        rw [has_put_same HM.out.isMap (show WideAt.IsKeyLit (.int .i64 y) from trivial)]
        simp
      · rw [has_put_other (by intro e2; injection e2 with _ e2; exact e e2.symm), HD.out x hx, decide_eq_false e, Bool.or_false]
    · obtain rfl : j = ni := by omega
      have hd4 : decide ((j : Int) < (j : Int)) = false := decide_eq_false (by omega)
      have hd5 : decide (j < j) = false := decide_eq_false (by omega)
      have HDA := Lib.hid (show ∀ x : Int, okI x → Maps.has D (.int .i64 x) = inB l x by have h := HD.out; rw [List.take_of_length_le (by rw [HNI.out]; omega)] at h; exact h)
      have HCP := Lib.hid (copied_any A B n a m b t wr (HT.out.below HBR.out) HSN.out HTL.out)
      have kc0 := HKR.out.v0
      have kc1 := HKR.out.v1
      have HZ := Lib.hid (show wr.heap.size ≥ g5 + 1 by have h1 := HT3.out.size; have h2 := HS3.out; omega)
      go_wp2_with fail
      refine HCP.out.mono ?_
      rintro e w5 ⟨lo, hi, A5, B5, ss, vs, rfl, htow, hlo, hlh, hlb, hb5⟩
      have HTW := Lib.hid htow
      have HLB := Lib.hid (show lo ≤ w5.heap.size from hlb)
      have HLO := Lib.hid (And.intro (show wr.heap.size ≤ lo from hlo) hlh)
      have HG := Lib.hid (show Gone w5 g5 g4 (inB l) from (show Gone wr g5 g4 (inB l) from ⟨HVR.out, j, D, HM.out, HDA.out⟩).below hb5)
      have HK5 := Lib.hid (HKR.out.below hb5)
      have HR5 := Lib.hid (HRR.out.below hb5)
      have HBR5 := Lib.hid (HBR.out.trans (hb5.mono HBR.out.size))
      clear htow hlo hlh hlb hb5 HCP kc0 kc1
      have z0 := HK5.out.v0
      have z1 := HK5.out.v1
      have f0 := HK5.out.fr 0
      have f1 := HK5.out.fr 1
      go_upto_region 8 with fail
      have hT6 := Turn.two (W := w5) w.heap.size (.slice A5 n n) (.slice B5 m m)
      have HK6 := Lib.hid (HK5.out.two (.slice A5 n n) (.slice B5 m m))
      have HR6 := Lib.hid (HR5.out.turn hT6 (by omega))
      have HTW6 := Lib.hid (HTW.out.turn hT6 (fun q h => by have h1 := HLO.out.1; have h2 := HZ.out; have h3 := HG5.out; omega) HLO.out.2)
      have HG6 := Lib.hid (HG.out.turn hT6 (by have h3 := HG5.out; omega) (by have h3 := HG4.out; omega))
      have HBR6 := Lib.hid (HBR5.out.trans (hT6.below (B := w.heap.size) (fun q h => by omega) HBR5.out.size))
      have HLW := Lib.hid (show lo ≤ ((w5.setCell ⟨w.heap.size, 0, none⟩ (.slice A5 n n)).setCell ⟨w.heap.size, 1, none⟩ (.slice B5 m m)).heap.size from Nat.le_trans HLB.out hT6.size)
      generalize (w5.setCell ⟨w.heap.size, 0, none⟩ (.slice A5 n n)).setCell ⟨w.heap.size, 1, none⟩ (.slice B5 m m) = w6 at *
      clear hT6 z0 z1 f0 f1 HK5 HR5 HTW HG HBR5
      have HOX := Lib.hid (show ∀ y ∈ vs, okI y.x from fun y hy => by
        obtain ⟨i, hi, rfl⟩ := List.getElem_of_mem hy
        have h3 := (HTW6.out.dv i _ (List.getElem?_eq_getElem hi)).1.2
        have hvl : vs.length = t.L.length := by rw [own_len rv_oko HTW6.out.ov, HTW6.out.kv]
        have h4 : t.L.getD i vnD ∈ t.L := by
          rw [List.getD_eq_getElem?_getD, List.getElem?_eq_getElem (by omega)]
          exact List.getElem_mem _
        have h5 := (HSN.out.may _ h4).2.1
        rw [h3]; unfold okI; omega)
      have hdel := deleteV_any g5 (fun y => inB l y.x) vs B5 m m lo (own_len rv_oko HTW6.out.ov) (by have := HTW6.out.kv; have := HTL.out; omega) w6 HTW6.out.ov HLW.out (fun V hV y hy => free1_any g5 g4 (inB l) y.b y.x y.s.A y.s.n y.s.c (HOX.out y hy) V (HG6.out.turn hV (by have := HZ.out; have := HLO.out.1; omega) (by have h1 := HZ.out; have h2 := HG4.out; have h3 := HG5.out; have := HLO.out.1; omega)))
      have y1 := HK6.out.v1
      go_wp2_with fail
      refine hdel.mono ?_
      rintro e w7 ⟨n7, k7, rfl, ho7, hT7⟩
      have HTW7 := Lib.hid (HTW6.out.filter l hT7 ho7)
      have hne : ∀ q, (∃ o, B5 = some ⟨q, o, none⟩) → lo ≤ q := fun q ⟨o, e⟩ => ((own_parts rv_oko HTW6.out.ov (own_len rv_oko HTW6.out.ov)).2.2.2 q o e).1
      have HK7 := Lib.hid (HK6.out.turn hT7 (fun h => by have := hne _ h; have := HLO.out.1; have := HZ.out; have := HG5.out; omega))
      have HR7 := Lib.hid (HR6.out.turn hT7 (fun h => by have := hne _ h; have := HLO.out.1; have := HZ.out; have := HG5.out; omega))
      have HBR7 := Lib.hid (HBR6.out.trans (hT7.below (B := w.heap.size) (fun q h => by have := hne q h; have := HLO.out.1; have := HZ.out; have := HG5.out; omega) HBR6.out.size))
      clear hdel hT7 ho7 hne y1
      have y1 := HK7.out.v1
      have f1 := HK7.out.fr 1
      go_upto_region 9 with fail
      have hT8 : Turn (fun q => q = w.heap.size) w7 (w7.setCell ⟨w.heap.size, 1, none⟩ (.slice B5 n7 k7)) := (Turn.refl _ _).setCell _ _ (.inl rfl)
      have HK8 := Lib.hid (show Bk (w7.setCell ⟨w.heap.size, 1, none⟩ (.slice B5 n7 k7)) w.heap.size (vtC A5 n n B5 n7 k7) 30 from HK7.out.put1 (.slice B5 n7 k7))
      have HR8 := Lib.hid (HR7.out.turn hT8 (by omega))
      have HTW8 := Lib.hid (HTW7.out.turn hT8 (fun q h => by have h1 := HLO.out.1; have h2 := HZ.out; have h3 := HG5.out; omega) HLO.out.2)
      have HBR8 := Lib.hid (HBR7.out.trans (hT8.below (B := w.heap.size) (fun q h => by omega) HBR7.out.size))
      generalize w7.setCell ⟨w.heap.size, 1, none⟩ (.slice B5 n7 k7) = w8 at *
      clear hT8 y1 f1 HK7 HR7 HTW7 HBR7
      have y0 := HK8.out.v0
      have y1 := HK8.out.v1
      have z0 : w8.cell? ⟨w.heap.size + 1, 0, none⟩ = some (.slice none 0 0) := HR8.out.c 0 _ rfl
      have z1 : w8.cell? ⟨w.heap.size + 1, 1, none⟩ = some (.slice none 0 0) := HR8.out.c 1 _ rfl
      have f0 := HR8.out.fr 0
      have f1 := HR8.out.fr 1
      go_wp2_with fail
      have hT9 := Turn.two (W := w8) (w.heap.size + 1) (.slice A5 n n) (.slice B5 n7 k7)
      refine bodyPost_ret (v := vtV A5 n n B5 n7 k7) (by rw [results_cell_one rfl]; go_simp) rfl ⟨lo, hi, A5, B5, n7, k7, ss, _, rfl, HTW8.out.turn hT9 (fun q h => by have h1 := HLO.out.1; have h2 := HZ.out; have h3 := HG5.out; omega) HLO.out.2, by have h1 := HLO.out.1; have h2 := HZ.out; have h3 := HG5.out; omega, HLO.out.2, HBR8.out.trans (hT9.below (B := w.heap.size) (fun q h => by omega) HBR8.out.size)⟩
end Go.Proofs.Ytmhnjmfcenbogaa
