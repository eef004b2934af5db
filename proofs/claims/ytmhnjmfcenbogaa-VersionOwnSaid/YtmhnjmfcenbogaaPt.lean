/-
  Images laid over a table's blocks; versions passed.
-/
import Derived.Test.YtmhnjmfcenbogaaPs
namespace Go.Proofs.Ytmhnjmfcenbogaa
set_option maxRecDepth 100000
set_option linter.unusedVariables false
set_option linter.unusedSimpArgs false
open Go.RowKit Go.Shelf

def laysV (D : List (List UInt8)) (Q : List Vn) : List (List UInt8) := Q.foldl (fun B v => B.set v.b.toNat v.d) D
theorem laysV_take {D : List (List UInt8)} {Q : List Vn} {j : Nat} {v : Vn} (h : Q[j]? = some v) : laysV D (Q.take (j + 1)) = (laysV D (Q.take j)).set v.b.toNat v.d := by
  unfold laysV
  rw [List.take_add_one, h, List.foldl_append]; rfl
theorem laysV_len (D : List (List UInt8)) (Q : List Vn) : (laysV D Q).length = D.length := by
  unfold laysV
  induction Q generalizing D with
  | nil => rfl
  | cons v Q ih => rw [List.foldl_cons, ih]; simp
/-- an image's cells -/
theorem im_cells {W : World} {A : Option Addr} {l : List Ir} {n i : Nat} (h : RIm.At W A l) (hn : l.length = n) (hi : i < n) : ∃ b o, A = some ⟨b, o, none⟩ ∧ b < W.heap.size ∧ l[i]? = some (l.getD i irD) ∧
    W.cell? ⟨b, o + i * 2, none⟩ = some (.int .i64 (l.getD i irD).b) ∧ W.cell? ⟨b, o + i * 2 + 1, none⟩ = some (.slice (l.getD i irD).s.A (l.getD i irD).s.n (l.getD i irD).s.c) := by
  have hl : i < l.length := by rw [hn]; exact hi
  have hx : l[i]? = some (l.getD i irD) := by rw [List.getD_eq_getElem?_getD, List.getElem?_eq_getElem hl]; rfl
  obtain ⟨b, o, e, hb, hc⟩ := h.get rim_ok hx
  exact ⟨b, o, e, hb, hx, hc 0 _ rfl, hc 1 _ rfl⟩
/-- blocks in a row, none of them with its bytes in the row's own block -/
def Lays (W : World) (g : Nat) (D : List (List UInt8)) (ss : List Sl) : Prop := ∀ (i : Nat) (s : Sl), ss[i]? = some s → DatAt W s (D.getD i []) ∧ ∀ q o, s.A = some ⟨q, o, none⟩ → q ≠ g
theorem Lays.set {wr V0 wS : World} {g j : Nat} {D : List (List UInt8)} {ss : List Sl} {s0 : Sl} {d : List UInt8} (h : Lays wr g D ss) (hT : Turn (fun q => q = g) wr wS) (hj : j < D.length) (hd : DatAt V0 s0 d) (hT0 : Turn (fun q => q = g) V0 wS) (hgl : ∀ q o, s0.A = some ⟨q, o, none⟩ → q ≠ g) :
    Lays wS g (D.set j d) (ss.set j s0) := by
  intro i s hs
  by_cases e : i = j
  · subst e
    rw [List.getElem?_set] at hs
    simp only [if_true] at hs
    split at hs
    · injection hs with hs
      subst hs
      rw [List.getD_eq_getElem?_getD, List.getElem?_set_self hj]
      exact ⟨hd.turn hT0 (fun q o e => .inr fun hq => hgl q o e hq), hgl⟩
    · cases hs
  · rw [List.getElem?_set, if_neg (fun q => e q.symm)] at hs
    obtain ⟨h1, h2⟩ := h i s hs
    rw [List.getD_eq_getElem?_getD, List.getElem?_set, if_neg (fun q => e q.symm), ← List.getD_eq_getElem?_getD]
    exact ⟨h1.turn hT (fun q o e => .inr fun hq => h2 q o e hq), h2⟩

set_option maxHeartbeats 4000000 in
theorem fix_any (g n a : Nat) (B I : Option Addr) (m b q r : Nat) (D : List (List UInt8)) (ss : List Sl) (is : List Ir) (Q : List Vn) (cv : Value) (hq : is.length = q) (hq2 : q ≤ 1000) (hD : D.length = n) (hn : n ≤ 1000) (lo : Nat) (w : World) (ho : RB.Own w lo (.slice (some ⟨g, 0, none⟩) n a) ss) (hd : Lays w g D ss)
    (hI : RIm.At w I is) (hIg : ∀ c o, I = some ⟨c, o, none⟩ → c ≠ g) (hP : Pis w is Q cv) (hQ : ∀ v ∈ Q, 0 ≤ v.b ∧ v.b < (n : Int)) (hne : ∀ r ∈ is, ∀ c o, r.s.A = some ⟨c, o, none⟩ → c ≠ g) :
    Calls Try.prog 36 #[vtV (some ⟨g, 0, none⟩) n a B m b, .slice I q r] w fun e w' => e = .returned (.tuple #[]) ∧ ∃ ss', RB.Own w' lo (.slice (some ⟨g, 0, none⟩) n a) ss' ∧ Lays w' g (laysV D Q) ss' ∧ Turn (fun z => z = g) w w' := by
  have HO := Lib.hid ho
  have HD := Lib.hid hd
  have HI := Lib.hid hI
  have HIG := Lib.hid hIg
  have HP := Lib.hid hP
  have HQ := Lib.hid hQ
  have HNE := Lib.hid hne
  have HIL := Lib.hid hq
  have HDL := Lib.hid hD
  obtain ⟨w1, hw1⟩ : ∃ w1, w1 = w.alloc (.cells (vtC (some ⟨g, 0, none⟩) n a B m b) 30) := ⟨_, rfl⟩
  obtain ⟨g2, hg2⟩ : ∃ z, z = w.heap.size := ⟨_, rfl⟩
  have hb1 : Below w.heap.size w w1 := by rw [hw1]; exact below_new _ _
  have HX := Lib.hid (show Bk w1 g2 (vtC (some ⟨g, 0, none⟩) n a B m b) 30 by rw [hw1, hg2]; exact Bk.new _ _ _)
  have HGN := Lib.hid (show g ≠ g2 by have := (ho.lt g rfl).2; omega)
  have HO1 := Lib.hid (ho.below hb1)
  have HD1 := Lib.hid (show Lays w1 g D ss from fun i s e => ⟨(hd i s e).1.below hb1, (hd i s e).2⟩)
  have HT1 := Lib.hid (show Turn (fun z => z = g) w w1 from Turn.ofBelow hb1)
  clear ho hd hI hIg hP hQ hne hq hD hb1
  go_enter Try.func36, Try.ntmps36
  go_upto_region 1 with fail
  rw [← hw1, ← hg2]
  clear hw1 hg2
  go_wp2_with fail
  go_loopw [8] (fun iv wr => ∃ (j : Nat) (ss : List Sl), iv = .int .i64 (j : Int) ∧ j ≤ q ∧ Hid (RB.Own wr lo (.slice (some ⟨g, 0, none⟩) n a) ss) ∧ Hid (Lays wr g (laysV D (Q.take j)) ss) ∧ Hid (Bk wr g2 (vtC (some ⟨g, 0, none⟩) n a B m b) 30) ∧ Hid (Turn (fun z => z = g) w wr)) (fun iv _ => q - (intOf iv).toNat)
  case atStart => exact ⟨0, ss, rfl, Nat.zero_le _, HO1, HD1, HX, HT1⟩
  case round =>
    obtain ⟨j, ss, rfl, hj, HOj, HDj, HXj, HTj⟩ := hrel
    rcases Nat.lt_or_ge j q with hlt | hge
    · have hat : RIm.At wr I is := HI.out.turn HTj.out (fun c o e => .inr fun h => HIG.out c o e h)
      obtain ⟨b2, o, hA, hbl, hget, q0, q1⟩ := im_cells hat HIL.out hlt
      subst hA
      have hql : j < Q.length := by rw [← HP.out.l, HIL.out]; exact hlt
      obtain ⟨k1, k2, _⟩ := HP.out.d j _ _ hget (List.getElem?_eq_getElem hql)
      have hqb := HQ.out _ (List.getElem_mem hql)
      have HNR := Lib.hid (HNE.out _ (List.mem_of_getElem? hget))
      have HTK := Lib.hid (laysV_take (D := D) (List.getElem?_eq_getElem hql))
      generalize is.getD j irD = p at *
      generalize Q[j] = v at *
      obtain ⟨pb, pA, pn, pk⟩ := p
      obtain ⟨vb, vx, vd⟩ := v
      simp only at q0 q1 k1 k2 hqb HTK
      subst k1
      obtain ⟨pj, rfl⟩ : ∃ pj : Nat, pb = (pj : Int) := ⟨pb.toNat, by omega⟩
      rw [Int.toNat_natCast] at HTK
      have HPD := Lib.hid (k2.turn HTj.out (fun c o e => .inr fun h => HNR.out c o e h))
      have hpn : pj < n := by omega
      have hpn2 : (pj : Int) < (n : Int) := by omega
      have HAM := Lib.hid (fun V => among_any (pj : Int) (n : Int) V)
      rw [show amB (pj : Int) (n : Int) = true from decide_eq_true (by omega)] at HAM
      have hd4 : decide ((j : Int) < (q : Int)) = true := decide_eq_true (by omega)
      have hd5 : decide (j < q) = true := decide_eq_true hlt
      have hi1 : (j : Int) < (q : Int) := by omega
      have hi2 : j < q := hlt
      have hm1 : pj * RB.m = pj := Nat.mul_one pj
      have HLS := Lib.hid (own_len rb_ok HOj.out)
      have HLD := Lib.hid (show pj < (laysV D (Q.take j)).length by rw [laysV_len, HDL.out]; exact hpn)
      clear hat hbl hget hql k2 hqb
      go_upto_region 4 with fail
      obtain ⟨wk, hwk⟩ : ∃ z, z = wr.alloc (.cells (imC (pj : Int) pA pn pk) 57) := ⟨_, rfl⟩
      obtain ⟨g7, hg7⟩ : ∃ z, z = wr.heap.size := ⟨_, rfl⟩
      have hbk : Below wr.heap.size wr wk := by rw [hwk]; exact below_new _ _
      have hk7 : Bk wk g7 (imC (pj : Int) pA pn pk) 57 := by rw [hwk, hg7]; exact Bk.new _ _ _
      have HK7 := Lib.hid hk7
      have HXk := Lib.hid (HXj.out.below hbk)
      have HBk := Lib.hid hbk
      rw [← hg7, ← hwk]
      clear hbk hwk hg7 q0 q1
      have y0 : wk.cell? ⟨g7, 0, none⟩ = some (.int .i64 (pj : Int)) := hk7.c 0 _ rfl
      have y1 : wk.cell? ⟨g7, 1, none⟩ = some (.slice pA pn pk) := hk7.c 1 _ rfl
      have x0 := HXk.out.v0
      clear hk7
      go_wp2_with fail
      refine (HAM.out _).mono ?_
      rintro e w5 ⟨rfl, hb5⟩
      have HK5 := HK7.out.below hb5
      have HX5 := Lib.hid (HXk.out.below hb5)
      have HB5 := Lib.hid (below_two HBk.out hb5)
      have HO5 := Lib.hid (HOj.out.below (below_two HBk.out hb5))
      clear hb5 HXk y0 y1 x0
      have y0 : w5.cell? ⟨g7, 0, none⟩ = some (.int .i64 (pj : Int)) := HK5.c 0 _ rfl
      have y1 : w5.cell? ⟨g7, 1, none⟩ = some (.slice pA pn pk) := HK5.c 1 _ rfl
      have x0 := HX5.out.v0
      clear HK5
      go_wp2_with (first
        | (refine Rk.wpList_store_elem rb_ok rfl (.tmp 24) (.tmp 23) rfl (i := pj) (⟨pA, pn, pk⟩ : Sl) (Sl.v ⟨pA, pn, pk⟩) rfl (by rw [hm1]; rfl) rfl HO5.out HLS.out hpn ?_; intro w6 ho6 hg6; have HO6 := Lib.hid ho6; have HT6 := Lib.hid (show Turn (fun z => z = g) w5 w6 from (Turn.refl _ _).grown hg6 (fun z e => .inl (by injection e with e; exact e.symm))); clear ho6 hg6)
        | fail)
      have hT06 := (Turn.ofBelow (S := fun z => z = g) HB5.out).trans HT6.out
      exact ⟨⟨j + 1, _, by simp, hi2, HO6, Lib.hid (by rw [HTK.out]; exact HDj.out.set hT06 HLD.out HPD.out hT06 HNR.out), Lib.hid (HX5.out.turn HT6.out (fun h => HGN.out h.symm)), Lib.hid (HTj.out.trans hT06)⟩, by simp [intOf]; omega⟩
    · obtain rfl : j = q := by omega
      have hd4 : decide ((j : Int) < (j : Int)) = false := decide_eq_false (by omega)
      have hd5 : decide (j < j) = false := decide_eq_false (by omega)
      have HE := Lib.hid (show Q.take j = Q from List.take_of_length_le (by rw [← HP.out.l, HIL.out]; exact Nat.le_refl _))
      go_wp2_with fail
      refine bodyPost_end (results_none rfl _ _ _) rfl ?_
      exact ⟨rfl, ss, HOj.out, by have h := HDj.out; rw [HE.out] at h; exact h, HTj.out⟩
end Go.Proofs.Ytmhnjmfcenbogaa
