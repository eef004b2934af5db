/-
  What one changed, as images.
-/
import Derived.Test.YtmhnjmfcenbogaaPn
namespace Go.Proofs.Ytmhnjmfcenbogaa
set_option maxRecDepth 100000
set_option linter.unusedVariables false
set_option linter.unusedSimpArgs false
open Go.RowKit Go.Shelf

structure Ir where
  b : Int
  s : Sl
def irD : Ir := ⟨0, slD⟩
def RIm : Rk Ir := ⟨57, 49, 2, 32, .agg #[.int .i64 0, .slice none 0 0], fun r => [.int .i64 r.b, r.s.v]⟩
theorem rim_ok : RIm.Ok := ⟨by decide, by decide, fun _ => rfl, fun x v hv => by simp [RIm] at hv; rcases hv with rfl | rfl <;> rfl, Try.underlying49, by kernel_rfl, rfl⟩
abbrev imC (b : Int) (A : Option Addr) (n c : Nat) : Array Value := #[.int .i64 b, .slice A n c]
abbrev imV (b : Int) (A : Option Addr) (n c : Nat) : Value := .agg (imC b A n c)
/-- images of the call's own, each with its bytes behind it -/
structure Pis (W : World) (is : List Ir) (Q : List Vn) (cv : Value) : Prop where
  l : is.length = Q.length
  d : ∀ (i : Nat) (r : Ir) (v : Vn), is[i]? = some r → Q[i]? = some v → r.b = v.b ∧ DatAt W r.s v.d ∧ ∃ b, r.s.A = some ⟨b, 0, none⟩ ∧ b < W.heap.size ∧ cv.ownBlock ≠ some b
theorem Pis.nil (W : World) (cv : Value) : Pis W [] [] cv := ⟨rfl, fun i r v h => by simp at h⟩
theorem Pis.below {W V : World} {is : List Ir} {Q : List Vn} {cv : Value} (h : Pis W is Q cv) (hb : Below W.heap.size W V) : Pis V is Q cv := ⟨h.l, fun i r v e1 e2 => by
  obtain ⟨h1, h2, b, h3, h4, h5⟩ := h.d i r v e1 e2
  exact ⟨h1, h2.below hb, b, h3, Nat.lt_of_lt_of_le h4 hb.size, h5⟩⟩
theorem Pis.more {wr V0 w9 : World} {gl z : Nat} {cv v9 : Value} {is : List Ir} {Q : List Vn} {bb : Int} {v : Vn} (h : Pis wr is Q cv) (hv : bb = v.b) (hT : Turn (fun q => cv.ownBlock = some q) wr w9) (hT0 : Turn (fun q => cv.ownBlock = some q) V0 w9) (hd : DatAt V0 ⟨some ⟨gl, 0, none⟩, 32, 32⟩ v.d)
    (hc : ∀ b, cv.ownBlock = some b → b < wr.heap.size) (h1 : wr.heap.size ≤ gl) (h2 : gl < V0.heap.size) (hz : V0.heap.size ≤ z) (h9 : v9.ownBlock = cv.ownBlock ∨ v9.ownBlock = some z) : Pis w9 (is ++ [⟨bb, ⟨some ⟨gl, 0, none⟩, 32, 32⟩⟩]) (Q ++ [v]) v9 := by
  have hs := hT.size
  have hs0 := hT0.size
  refine ⟨by rw [List.length_append, List.length_append, h.l]; rfl, fun i r u e1 e2 => ?_⟩
  rcases Nat.lt_or_ge i is.length with hi | hi
  · rw [List.getElem?_append_left hi] at e1
    rw [List.getElem?_append_left (by rw [← h.l]; exact hi)] at e2
    obtain ⟨k1, k2, b, k3, k4, k5⟩ := h.d i r u e1 e2
    refine ⟨k1, k2.turn hT (fun q o e => .inr fun hq => by rw [k3] at e; injection e with e; injection e with e _; subst e; exact k5 hq), b, k3, by omega, fun e => ?_⟩
    rcases h9 with h9 | h9
    · rw [h9] at e; exact k5 e
    · rw [h9] at e; injection e with e; omega
  · rw [List.getElem?_append_right hi] at e1
    rw [List.getElem?_append_right (by rw [← h.l]; exact hi), ← h.l] at e2
    obtain ⟨k, hk⟩ : ∃ k, i - is.length = k := ⟨_, rfl⟩
    rw [hk] at e1 e2
    cases k with
    | succ k => simp at e1
    | zero =>
      simp at e1 e2
      subst e1; subst e2
      refine ⟨hv, hd.turn hT0 (fun q o e => .inr fun hq => by injection e with e; injection e with e _; subst e; have := hc _ hq; omega), gl, rfl, by omega, fun e => ?_⟩
      rcases h9 with h9 | h9
      · rw [h9] at e; have := hc _ e; omega
      · rw [h9] at e; injection e with e; omega
theorem Pis.off {W V : World} {is : List Ir} {Q : List Vn} {cv : Value} {g : Nat} {cs : Array Value} {ty : TypeId} (h : Pis W is Q cv) (hg : Bk W g cs ty) (hcs : ∀ (j : Nat) (z : UInt8), cs[j]? ≠ some (byV z)) (hT : Turn (fun q => q = g) W V) : Pis V is Q cv := ⟨h.l, fun i r v e1 e2 => by
  obtain ⟨h1, h2, b, h3, h4, h5⟩ := h.d i r v e1 e2
  exact ⟨h1, h2.turn hT (dat_off h2.at_ hg hcs), b, h3, Nat.lt_of_lt_of_le h4 hT.size, h5⟩⟩
theorem ofV_take {L : List Vn} {j : Nat} {v : Vn} (x : Int) (h : L[j]? = some v) : ofV (L.take (j + 1)) x = ofV (L.take j) x ++ (if v.x = x then [v] else []) := by
  unfold ofV
  rw [List.take_add_one, h, List.filter_append]
  congr 1
  by_cases e : v.x = x <;> simp [e]
theorem wp_build_im {W : World} {o : Oper} {a : Act} {K : Act → World → Prop} {Q : Exit → Act → World → Prop} (x : Operand) (ho : o.op = .buildSlice 49 1 #[(0, x)]) (b : Int) (A : Option Addr) (n c : Nat) (hx : a.eval x = imV b A n c)
    (h : ∀ w' h', W.heap.size ≤ h' → h' < w'.heap.size → RIm.At w' (some ⟨h', 0, none⟩) [⟨b, ⟨A, n, c⟩⟩] → Below W.heap.size W w' → K (a.put o.dst (.slice (some ⟨h', 0, none⟩) 1 1)) w') : o.wp Try.prog a W K Q := by
  unfold Oper.wp execOp
  simp only [ho, List.map_toArray, List.map_cons, List.map_nil, hx]
  go_simp
  exact h _ _ (Nat.le_refl _) (by simp) (Rk.At.new rim_ok W ⟨b, ⟨A, n, c⟩⟩ 57) (below_new W _)

set_option maxHeartbeats 4000000 in
theorem changed_any (A B : Option Addr) (n a m b : Nat) (t : Vt) (x : Int) (w : World) (ht : VtAt RVo w A n a B m b t) (hs : SanV t) (hl : t.L.length ≤ 1000) :
    Calls Try.prog 17 #[vtV A n a B m b, .int .i64 x] w fun e w' => ∃ A' n' c' is, e = .returned (.slice A' n' c') ∧ Pis w' is (ofV t.L x) (.slice A' n' c') ∧ RIm.Own w' w.heap.size (.slice A' n' c') is ∧ Below w.heap.size w w' := by
  obtain ⟨vs0, hvs⟩ := ht.vers
  have hm : m ≤ 1000 := by rw [← hvs.k]; exact hl
  have HM := Lib.hid (show ∀ i, i < m → (t.L.getD i vnD).d.length = 32 from fun i hi => by
    have hi : i < t.L.length := by rw [hvs.k]; exact hi
    rw [List.getD_eq_getElem?_getD, List.getElem?_eq_getElem hi]
    exact (hs.may _ (List.getElem_mem hi)).2.2)
  have HVS := Lib.hid hvs
  have HX := Lib.hid (Bk.new w (vtC A n a B m b) 30)
  have HB := Lib.hid (below_new w (.cells (vtC A n a B m b) 30))
  clear ht hs hl hvs
  go_enter Try.func17, Try.ntmps17
  go_wp2_with fail
  go_loopw [5, 11] (fun cv u wr => ∃ (j : Nat) (is : List Ir), u = .int .i64 (j : Int) ∧ j ≤ m ∧ Hid (RIm.Own wr w.heap.size cv is) ∧ Hid (Pis wr is (ofV (t.L.take j) x) cv) ∧ Hid (is.length ≤ j) ∧ Hid (Below w.heap.size w wr)) (fun _ u _ => m - (intOf u).toNat)
  case atStart => exact ⟨0, [], rfl, Nat.zero_le _, Rk.Own.nil _ _ _, Lib.hid (Pis.nil _ _), Lib.hid (Nat.le_refl _), HB⟩
  case round =>
    obtain ⟨j, is, rfl, hj, HO, HPI, HLN, HBj⟩ := hrel
    rcases Nat.lt_or_ge j m with hlt | hge
    · obtain ⟨b2, o, zA, zn, zk, hA, hbl, hget, q0, q1, q2, hdz⟩ := ver_cells rfl rv_oko HVS.out hlt
      subst hA
      obtain rfl : 32 = zn := by have := HM.out j hlt; have h2 := hdz.n; simp only at h2; omega
      have HPF := Lib.hid (padV_full (HM.out j hlt))
      obtain ⟨v, hv⟩ : ∃ v, t.L.getD j vnD = v := ⟨_, rfl⟩
      rw [hv] at hget q0 q1 hdz HPF
      obtain ⟨vb, vx, vd⟩ := v
      simp only at q0 q1 hdz HPF
      have HTK := Lib.hid (ofV_take x hget)
      generalize ofV (t.L.take j) x = acc at *
      have c0 := (HBj.out.cell (p := ⟨b2, o + j * 3, none⟩) hbl).trans q0
      have c1 := (HBj.out.cell (p := ⟨b2, o + j * 3 + 1, none⟩) hbl).trans q1
      have c2 := (HBj.out.cell (p := ⟨b2, o + j * 3 + 2, none⟩) hbl).trans q2
      have hd4 : decide ((j : Int) < (m : Int)) = true := decide_eq_true (by omega)
      have hd5 : decide (j < m) = true := decide_eq_true hlt
      have hi1 : (j : Int) < (m : Int) := by omega
      have hi2 : j < m := hlt
      have hdz2 := hdz.below HBj.out
      clear hget q0 q1 q2 hbl hdz hv
      go_upto_region 5 with fail
      obtain ⟨wk, hwk⟩ : ∃ q, q = wr.alloc (.cells (veC vb vx zA 32 zk) 74) := ⟨_, rfl⟩
      obtain ⟨g7, hg7⟩ : ∃ q, q = wr.heap.size := ⟨_, rfl⟩
      have hbk : Below wr.heap.size wr wk := by rw [hwk]; exact below_new _ _
      have HK7 := Lib.hid (show Bk wk g7 (veC vb vx zA 32 zk) 74 by rw [hwk, hg7]; exact Bk.new _ _ _)
      have HN7 := Lib.hid (show ∀ q, u5.ownBlock = some q → w.heap.size ≤ q ∧ q < g7 from fun q e => by rw [hg7]; exact HO.out.lt q e)
      have HOk := Lib.hid (HO.out.below hbk)
      have HPk := Lib.hid (HPI.out.below hbk)
      have HBk := Lib.hid (HBj.out.trans (hbk.mono HBj.out.size))
      have HDJ := Lib.hid (show DatAt (World.drew wk) ⟨zA, 32, zk⟩ vd from (hdz2.below hbk).below ((Below.refl _ _).drew))
      have HSZ := Lib.hid (show g7 < wk.heap.size from HK7.out.lt)
      rw [← hg7, ← hwk]
      clear hbk hwk hg7 c0 c1 c2 hdz2
      have y0 := HK7.out.e0
      have y1 := HK7.out.e1
      have y2 := HK7.out.e2
      by_cases hx : vx = x
      · have f1 : (vx == x) = true := by simpa using hx
        have HTK2 := Lib.hid (show ofV (t.L.take (j + 1)) x = acc ++ [⟨vb, vx, vd⟩] by rw [HTK.out, if_pos hx])
        clear hx
        go_upto_region 6 with fail
        have p0 : ∀ V, Turn (fun q => u5.ownBlock = some q) wk V → V.cell? ⟨g7, 0, none⟩ = some (.int .i64 vb) := fun V hV => (HK7.out.turn hV (fun h => by have := (HN7.out g7 h).2; omega)).e0
        have p2 : ∀ V, Turn (fun q => u5.ownBlock = some q) wk V → V.cell? ⟨g7, 2, none⟩ = some (.slice zA 32 zk) := fun V hV => (HK7.out.turn hV (fun h => by have := (HN7.out g7 h).2; omega)).e2
        have HOd := Lib.hid (HOk.out.below (w' := World.drew wk) ((Below.refl _ _).drew))
        obtain ⟨gl, hgl⟩ : ∃ q, wk.heap.size = q := ⟨_, rfl⟩
        have HGL := Lib.hid (show (World.drew wk).heap.size = gl from hgl)
        have HGL2 := Lib.hid (show wk.heap.size = gl from hgl)
        clear hgl y0 y1 y2
        refine wp_region_turn (X := (fun q => u5.ownBlock = some q)) (by kernel_rfl) ?_
        have hS : Turn (fun q => u5.ownBlock = some q) wk (World.drew wk) := (Turn.refl _ _).drew
        refine wpAnyH_take (i := 0) (oi := ⟨some 19, _, _, _, _, _⟩) (v := ?_) rfl (by kernel_rfl) (by kernel_rfl) (by kernel_rfl) (fun _ _ _ h => h) (Or.inl ⟨by rfl, ?_⟩) hS ?_
        rotate_left
        · intro W hW; go_simp; with_reducible rfl
        try simp only [Act.put, List.setIfInBounds_toArray, List.set_cons_zero, List.set_cons_succ]
        refine wpAnyH_take (i := 1) (oi := ⟨some 20, _, _, _, _, _⟩) (v := ?_) rfl (by kernel_rfl) (by kernel_rfl) (by kernel_rfl) (fun _ _ _ h => h) (Or.inl ⟨by rfl, ?_⟩) hS ?_
        rotate_left
        · intro W hW; go_simp; with_reducible rfl
        try simp only [Act.put, List.setIfInBounds_toArray, List.set_cons_zero, List.set_cons_succ]
        refine wpAnyH_take (i := 2) (oi := ⟨some 21, _, _, _, _, _⟩) (v := ?_) rfl (by kernel_rfl) (by kernel_rfl) (by kernel_rfl) (fun _ _ _ h => h) (Or.inl ⟨by rfl, ?_⟩) hS ?_
        rotate_left
        · intro W hW; go_simp; with_reducible rfl
        try simp only [Act.put, List.setIfInBounds_toArray, List.set_cons_zero, List.set_cons_succ]
        refine wpAnyH_take (i := 3) (oi := ⟨some 22, _, _, _, _, _⟩) (v := ?_) rfl (by kernel_rfl) (by kernel_rfl) (by kernel_rfl) (fun _ _ _ h => h) (Or.inl ⟨by rfl, ?_⟩) hS ?_
        rotate_left
        · intro W hW; go_simp; with_reducible rfl
        try simp only [Act.put, List.setIfInBounds_toArray, List.set_cons_zero, List.set_cons_succ]
        refine wpAnyH_take (i := 4) (oi := ⟨some 23, _, _, _, _, _⟩) (v := ?_) rfl (by kernel_rfl) (by kernel_rfl) (by kernel_rfl) (fun _ _ _ h => h) (Or.inl ⟨by rfl, ?_⟩) hS ?_
        rotate_left
        · intro W hW; go_simp; with_reducible rfl
        try simp only [Act.put, List.setIfInBounds_toArray, List.set_cons_zero, List.set_cons_succ]
        refine wpAnyH_ready (rs := [5]) (by kernel_rfl) (by simp) ?_
        refine AllReadyH.cons (o := ⟨some 24, _, _, _, _, _⟩) rfl (fun Kr hKr => ?_) AllReadyH.nil
        -- operation 5: a call
        go_simp
        refine (laid_any zA 32 zk vd (by omega) gl _ HGL.out HDJ.out).mono ?_
        rintro e V0 ⟨rfl, hd0, hg0, hv⟩
        rw [HPF.out] at hd0
        have HD0 := Lib.hid hd0
        have HG0 := Lib.hid hg0
        have HO0 := Lib.hid (HOd.out.below hv)
        clear hd0 hg0
        show Kr _ _
        refine hKr.out _ _ ?_ (fun _ => ?_)
        · exact Turn.trans hS (Turn.ofBelow hv)
        clear hKr Kr
        replace hS : Turn (fun q => u5.ownBlock = some q) wk V0 := Turn.trans hS (Turn.ofBelow hv)
        try simp only [Act.put, List.setIfInBounds_toArray, List.set_cons_zero, List.set_cons_succ]
        refine wpAnyH_take (i := 6) (oi := ⟨some 25, _, _, _, _, _⟩) (v := ?_) rfl (by kernel_rfl) (by kernel_rfl) (by kernel_rfl) (fun _ _ _ h => h) (Or.inl ⟨by rfl, ?_⟩) hS ?_
        rotate_left
        · intro W hW; go_simp; with_reducible rfl
        try simp only [Act.put, List.setIfInBounds_toArray, List.set_cons_zero, List.set_cons_succ]
        refine wpAnyH_ready (rs := [7]) (by kernel_rfl) (by simp) ?_
        refine AllReadyH.cons (o := ⟨some 26, _, _, _, _, _⟩) rfl (fun Kr hKr => ?_) AllReadyH.nil
        -- operation 7: a step
        refine wp_build_im (.tmp 25) rfl vb (some ⟨gl, 0, none⟩) 32 32 rfl ?_
        intro V1 gv hgv hgv2 hav hv1
        have HAV := Lib.hid hav
        have HV1 := Lib.hid hv1
        have HO1 := Lib.hid (HO0.out.below hv1)
        clear hav hgv hgv2
        show Kr _ _
        refine hKr.out _ _ ?_ (fun _ => ?_)
        · exact Turn.trans hS (Turn.ofBelow hv1)
        clear hKr Kr
        replace hS : Turn (fun q => u5.ownBlock = some q) wk V1 := Turn.trans hS (Turn.ofBelow hv1)
        try simp only [Act.put, List.setIfInBounds_toArray, List.set_cons_zero, List.set_cons_succ]
        refine wpAnyH_ready (rs := [8]) (by kernel_rfl) (by simp) ?_
        refine AllReadyH.cons (o := ⟨some 27, _, _, _, _, _⟩) rfl (fun Kr hKr => ?_) AllReadyH.nil
        -- operation 8: a step
        refine Rk.wp_append rim_ok (.tmp 19) (.tmp 26) rfl w.heap.size u5 is [⟨vb, ⟨some ⟨gl, 0, none⟩, 32, 32⟩⟩] rfl HO1.out _ 1 1 rfl HAV.out rfl (.inr ⟨_, _, rfl⟩) (by have := HLN.out; rw [List.length_singleton]; omega) (Nat.le_trans HBk.out.size hS.size) ?_
        intro v8 w8 hx1 hg1 ha1
        have HO8 := Lib.hid hx1
        have HT8 := Lib.hid (show Turn (fun q => u5.ownBlock = some q) V1 w8 from (Turn.refl _ _).grown hg1 (fun q e => .inl e))
        have HA8 := Lib.hid ha1
        clear hx1 hg1 ha1
        show Kr _ _
        refine hKr.out _ _ ?_ (fun _ => ?_)
        · exact Turn.trans hS HT8.out
        clear hKr Kr
        replace hS : Turn (fun q => u5.ownBlock = some q) wk w8 := Turn.trans hS HT8.out
        try simp only [Act.put, List.setIfInBounds_toArray, List.set_cons_zero, List.set_cons_succ]
        refine wpAnyH_take (i := 9) (oi := ⟨some 5, _, _, _, _, _⟩) (v := ?_) rfl (by kernel_rfl) (by kernel_rfl) (by kernel_rfl) (fun _ _ _ h => h) (Or.inl ⟨by rfl, ?_⟩) hS ?_
        rotate_left
        · intro W hW; go_simp; with_reducible rfl
        try simp only [Act.put, List.setIfInBounds_toArray, List.set_cons_zero, List.set_cons_succ]
        refine wpAnyH_done (by kernel_rfl) ?_ _
        have HTS := Lib.hid hS
        clear hS
        have HP8 := Lib.hid (HPk.out.more (v := ⟨vb, vx, vd⟩) rfl HTS.out ((Turn.ofBelow HV1.out).trans HT8.out) HD0.out (fun b e => by have := (HN7.out b e).2; have := HSZ.out; omega) (by have := HGL2.out; omega) HG0.out HV1.out.size HA8.out)
        have HB8 := Lib.hid (HBk.out.trans (HTS.out.below (B := w.heap.size) (fun q h => (HN7.out q h).1) HBk.out.size))
        go_wp2_with fail
        exact ⟨⟨j + 1, _, by simp, hi2, HO8, Lib.hid (by rw [HTK2.out]; exact HP8.out), Lib.hid (by have := HLN.out; rw [List.length_append, List.length_singleton]; omega), HB8⟩, by simp [intOf]; omega⟩
      · have f1 : (vx == x) = false := by simpa using hx
        have HTK2 := Lib.hid (show ofV (t.L.take (j + 1)) x = acc by rw [HTK.out, if_neg hx, List.append_nil])
        clear hx
        go_wp2_with fail
        exact ⟨⟨j + 1, is, by simp, hi2, HOk, Lib.hid (by rw [HTK2.out]; exact HPk.out), Lib.hid (by have := HLN.out; omega), HBk⟩, by simp [intOf]; omega⟩
    · obtain rfl : j = m := by omega
      have hd4 : decide ((j : Int) < (j : Int)) = false := decide_eq_false (by omega)
      have hd5 : decide (j < j) = false := decide_eq_false (by omega)
      have HE := Lib.hid (show t.L.take j = t.L from List.take_of_length_le (by rw [HVS.out.k]; exact Nat.le_refl _))
      go_wp2_with fail
      go_ret
      obtain ⟨A9, c9, rfl⟩ := own_slice rim_ok HO.out rfl
      exact ⟨A9, _, c9, is, rfl, by have h := HPI.out; rw [HE.out] at h; exact h, HO.out, HBj.out⟩
end Go.Proofs.Ytmhnjmfcenbogaa
