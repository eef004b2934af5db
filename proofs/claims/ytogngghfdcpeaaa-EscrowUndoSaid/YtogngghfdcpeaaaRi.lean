/-
  So much more: the document's with.
-/
import Derived.Test.YtogngghfdcpeaaaRh
namespace Go.Proofs.Ytogngghfdcpeaaa
set_option maxRecDepth 100000
set_option linter.unusedVariables false
set_option linter.unusedSimpArgs false
open Go.RowKit

theorem Ws.go_len (l : List Pd) : ∀ s : Ws, (l.foldl Ws.step s).out.length ≤ s.out.length + 2 * l.length := by
  induction l with
  | nil => intro s; simp
  | cons q l ih =>
    intro s
    have h := ih (s.step q)
    have h2 : (s.step q).out.length ≤ s.out.length + 2 := by
      unfold Ws.step
      split
      · simp
      · split <;> simp
    rw [List.foldl_cons, List.length_cons]
    omega
theorem Ws.all_len (p : Pd) (l : List Pd) : (Ws.all p l).out.length ≤ 2 * l.length := by
  have h := Ws.go_len l ⟨[], false, p⟩
  unfold Ws.all
  simpa using h
theorem step_same {o : List Pd} {b : Bool} {c x u d qc qx qu qd : Int} (h1 : qc = c) (h2 : qx = x) : Ws.step ⟨o, b, ⟨c, x, u, d⟩⟩ ⟨qc, qx, qu, qd⟩ = ⟨o, b, ⟨c, x, w64 (u + qu), w64 (d + qd)⟩⟩ := by
  unfold Ws.step same
  simp [h1, h2]
theorem not_same {c x qc qx u d qu qd : Int} (h : ¬ (qc = c ∧ qx = x)) : same ⟨c, x, u, d⟩ ⟨qc, qx, qu, qd⟩ = false := by
  unfold same
  rw [Bool.eq_false_iff]
  intro h2
  simp only [Bool.and_eq_true, decide_eq_true_eq] at h2
  exact h h2
theorem step_put {o : List Pd} {c x u d qc qx qu qd : Int} (h : ¬ (qc = c ∧ qx = x)) (hl : c < qc ∨ (c = qc ∧ x < qx)) :
    Ws.step ⟨o, false, ⟨c, x, u, d⟩⟩ ⟨qc, qx, qu, qd⟩ = ⟨o ++ [⟨c, x, u, d⟩] ++ [⟨qc, qx, qu, qd⟩], true, ⟨c, x, u, d⟩⟩ := by
  have h3 : (Pd.mk c x u d).lt ⟨qc, qx, qu, qd⟩ = true := by
    unfold Pd.lt
    simp only [Bool.or_eq_true, Bool.and_eq_true, decide_eq_true_eq]
    exact hl
  unfold Ws.step
  rw [if_neg (by rw [not_same h]; decide), if_pos (by rw [h3]; rfl)]
theorem step_keep {o : List Pd} {b : Bool} {c x u d qc qx qu qd : Int} (h : ¬ (qc = c ∧ qx = x)) (hl : b = true ∨ ¬ (c < qc ∨ (c = qc ∧ x < qx))) :
    Ws.step ⟨o, b, ⟨c, x, u, d⟩⟩ ⟨qc, qx, qu, qd⟩ = ⟨o ++ [⟨qc, qx, qu, qd⟩], b, ⟨c, x, u, d⟩⟩ := by
  have h3 : (!b && (Pd.mk c x u d).lt ⟨qc, qx, qu, qd⟩) = false := by
    rcases hl with rfl | hl
    · rfl
    · have : (Pd.mk c x u d).lt ⟨qc, qx, qu, qd⟩ = false := by
        rw [Bool.eq_false_iff]
        intro h2
        unfold Pd.lt at h2
        simp only [Bool.or_eq_true, Bool.and_eq_true, decide_eq_true_eq] at h2
        exact hl h2
      rw [this, Bool.and_false]
  unfold Ws.step
  rw [if_neg (by rw [not_same h]; decide), if_neg (by simp only; rw [h3]; decide)]
abbrev pdC (c x u d : Int) : Array Value := #[.int .i64 c, .int .i64 x, .int .i64 u, .int .i64 d]
abbrev pdV (c x u d : Int) : Value := .agg (pdC c x u d)
section
variable {W : World} {g : Nat} {c x u d : Int} {t : TypeId}
theorem Bk.p0 (h : Bk W g (pdC c x u d) t) : W.cell? ⟨g, 0, none⟩ = some (.int .i64 c) := h.c 0 _ rfl
theorem Bk.p1 (h : Bk W g (pdC c x u d) t) : W.cell? ⟨g, 1, none⟩ = some (.int .i64 x) := h.c 1 _ rfl
theorem Bk.p2 (h : Bk W g (pdC c x u d) t) : W.cell? ⟨g, 2, none⟩ = some (.int .i64 u) := h.c 2 _ rfl
theorem Bk.p3 (h : Bk W g (pdC c x u d) t) : W.cell? ⟨g, 3, none⟩ = some (.int .i64 d) := h.c 3 _ rfl
end
theorem bk_set {W : World} {g : Nat} {cs : Array Value} {t : TypeId} (h : Bk W g cs t) (i : Nat) (v : Value) : Bk (World.drew (W.setCell ⟨g, i, none⟩ v)) g (cs.setIfInBounds i v) t := heap_setCell_same W g i _ _ v h
/-- an element's cells -/
theorem pd_cells {W : World} {A : Option Addr} {l : List Pd} {n i : Nat} (h : RPr.At W A l) (hn : l.length = n) (hi : i < n) : ∃ b o, A = some ⟨b, o, none⟩ ∧ b < W.heap.size ∧ l[i]? = some (l.getD i pdD) ∧
    W.cell? ⟨b, o + i * 4, none⟩ = some (.int .i64 (l.getD i pdD).c) ∧ W.cell? ⟨b, o + i * 4 + 1, none⟩ = some (.int .i64 (l.getD i pdD).x) ∧
    W.cell? ⟨b, o + i * 4 + 2, none⟩ = some (.int .i64 (l.getD i pdD).u) ∧ W.cell? ⟨b, o + i * 4 + 3, none⟩ = some (.int .i64 (l.getD i pdD).d) := by
  have hl : i < l.length := by rw [hn]; exact hi
  have hx : l[i]? = some (l.getD i pdD) := by rw [List.getD_eq_getElem?_getD, List.getElem?_eq_getElem hl]; rfl
  obtain ⟨b, o, e, hb, hc⟩ := h.get rp_okr hx
  exact ⟨b, o, e, hb, hx, hc 0 _ rfl, hc 1 _ rfl, hc 2 _ rfl, hc 3 _ rfl⟩

set_option maxHeartbeats 1000000 in
theorem refwith_none (A : Option Addr) (n a : Nat) (c x : Int) (w : World) :
    Calls Try.prog 37 #[.slice A n a, pdV c x 0 0] w fun e w' => e = .returned (.slice A n a) ∧ Below w.heap.size w w' := by
  have HB := Lib.hid (below_new w (.cells (pdC c x 0 0) 74))
  go_enter Try.func37, Try.ntmps37
  go_wp2_with fail
  go_ret
  exact ⟨rfl, HB.out⟩

set_option maxHeartbeats 4000000 in
theorem refwith_any (A : Option Addr) (n a : Nat) (l : List Pd) (c x u0 d0 : Int) (hz : ¬ (u0 = 0 ∧ d0 = 0)) (hn : n ≤ 1000) (w : World) (hln : l.length = n) (hl : RPr.At w A l) :
    Calls Try.prog 37 #[.slice A n a, pdV c x u0 d0] w fun e w' => ∃ v, e = .returned v ∧ RPr.Own w' (w.heap.size + 1) v (withL l ⟨c, x, u0, d0⟩) ∧ Below w.heap.size w w' ∧ w.heap.size + 1 ≤ w'.heap.size := by
  have HL := Lib.hid hl
  have HLN := Lib.hid hln
  have HWL : Hid (withL l ⟨c, x, u0, d0⟩ = if (Ws.all ⟨c, x, u0, d0⟩ l).put = true then (Ws.all ⟨c, x, u0, d0⟩ l).out else (Ws.all ⟨c, x, u0, d0⟩ l).out ++ [(Ws.all ⟨c, x, u0, d0⟩ l).p]) := by unfold withL; rw [if_neg hz]; exact Lib.hid rfl
  have HX := Lib.hid (Bk.new w (pdC c x u0 d0) 74)
  have HB := Lib.hid (below_new w (.cells (pdC c x u0 d0) 74))
  clear hl hln
  go_enter Try.func37, Try.ntmps37
  generalize withL l ⟨c, x, u0, d0⟩ = res at *
  go_upto_region 1 with fail
  have HSZ := Lib.hid (show w.heap.size + 1 ≤ (w.alloc (.cells (pdC c x u0 d0) 74)).heap.size from by simp)
  generalize w.alloc (.cells (pdC c x u0 d0) 74) = w1 at *
  have HNZ := Lib.hid hz
  clear hz
  go_cut [15] from 8 to 108 (fun t wc => t = .bool false ∧ wc = w1)
  case first =>
    have p2 := HX.out.p2
    have p3 := HX.out.p3
    rcases Classical.em (u0 = 0) with h0 | h0
    · have q1 : (u0 == 0) = true := by simpa using h0
      have q2 : (d0 == 0) = false := by have := HNZ.out; simp; omega
      clear h0
      go_wp2_with fail
      go_meet
      case rel => exact ⟨rfl, rfl⟩
    · have q1 : (u0 == 0) = false := by simpa using h0
      clear h0
      go_wp2_with fail
      go_meet
      case rel => exact ⟨rfl, rfl⟩
  case rest =>
    obtain ⟨rfl, hw⟩ := hcut
    replace hw := hw.symm
    subst hw
    go_wp2_with fail
    go_loopw [5, 6, 7] (fun v pt t wr => ∃ (j : Nat) (o : List Pd) (b : Bool) (u d : Int), pt = .bool b ∧ t = .int .i64 (j : Int) ∧ j ≤ n ∧ Hid (Ws.all ⟨c, x, u0, d0⟩ (l.take j) = ⟨o, b, ⟨c, x, u, d⟩⟩) ∧ Hid (RPr.Own wr (w.heap.size + 1) v o) ∧ Hid (Bk wr w.heap.size (pdC c x u d) 74) ∧ Hid (Below w.heap.size w wr) ∧ Hid (w.heap.size + 1 ≤ wr.heap.size)) (fun _ _ t _ => n - (intOf t).toNat)
    case atStart => exact ⟨0, [], false, u0, d0, rfl, rfl, Nat.zero_le _, Lib.hid rfl, Rk.Own.nil _ _ _, HX, HB, HSZ⟩
    case round =>
      obtain ⟨j, o, b, u, d, rfl, rfl, hj, HWS, HOj, HXj, HBj, HSj⟩ := hrel
      have HOL : Hid (o.length ≤ 2000) := by
        have h := Ws.all_len ⟨c, x, u0, d0⟩ (l.take j)
        rw [HWS.out, List.length_take] at h
        show o.length ≤ 2000
        simp only at h
        omega
      rcases Nat.lt_or_ge j n with hlt | hge
      · obtain ⟨b2, o2, hA, hbl, hget, h0, h1, h2, h3⟩ := pd_cells HL.out HLN.out hlt
        subst hA
        have HTK := Lib.hid (Ws.all_take (p := ⟨c, x, u0, d0⟩) hget)
        rw [HWS.out] at HTK
        generalize l.getD j pdD = q at *
        obtain ⟨qc, qx, qu, qd⟩ := q
        simp only at h0 h1 h2 h3
        have c0 := (HBj.out.cell (p := ⟨b2, o2 + j * 4, none⟩) hbl).trans h0
        have c1 := (HBj.out.cell (p := ⟨b2, o2 + j * 4 + 1, none⟩) hbl).trans h1
        have HBL := Lib.hid (Nat.lt_of_lt_of_le hbl HBj.out.size)
        have HBN := Lib.hid (Nat.ne_of_lt hbl)
        have HBL0 := Lib.hid hbl
        have HC0 := Lib.hid c0
        have HC1 := Lib.hid c1
        have HC2 := Lib.hid ((HBj.out.cell (p := ⟨b2, o2 + j * 4 + 2, none⟩) hbl).trans h2)
        have HC3 := Lib.hid ((HBj.out.cell (p := ⟨b2, o2 + j * 4 + 3, none⟩) hbl).trans h3)
        have hd4 : decide ((j : Int) < (n : Int)) = true := decide_eq_true (by omega)
        have hd5 : decide (j < n) = true := decide_eq_true hlt
        have hi1 : (j : Int) < (n : Int) := by omega
        have p0 := HXj.out.p0
        have p1 := HXj.out.p1
        clear h0 h1 h2 h3 hbl hget
        rcases Classical.em (qc = c ∧ qx = x) with hsame | hsame
        · obtain ⟨hs1, hs2⟩ := hsame
          rw [step_same hs1 hs2] at HTK
          have q1 : (qc == c) = true := by simpa using hs1
          have q2 : (qx == x) = true := by simpa using hs2
          clear hs1 hs2
          go_upto_region 9 with (first
            | go_quiet (fail)
            | fail)
          clear p0 p1 c0 c1 q1 q2 hd4 hd5
          obtain ⟨wv, hwv⟩ : ∃ wv, wv = wr.drewN nq := ⟨_, rfl⟩
          rw [← hwv]
          have hbv : Below wr.heap.size wr wv := by rw [hwv]; exact below_drewN (Below.refl _ _) _
          clear hwv
          have HXv := Lib.hid (HXj.out.below hbv)
          have HOv := Lib.hid (HOj.out.below hbv)
          have HBv := Lib.hid (HBj.out.trans (hbv.mono HBj.out.size))
          have HSv := Lib.hid (Nat.le_trans HSj.out hbv.size)
          have c2 := (hbv.cell (p := ⟨b2, o2 + j * 4 + 2, none⟩) HBL.out).trans HC2.out
          have HCv := Lib.hid ((hbv.cell (p := ⟨b2, o2 + j * 4 + 3, none⟩) HBL.out).trans HC3.out)
          clear hbv
          obtain ⟨u', hu⟩ : ∃ z, w64 (u + qu) = z := ⟨_, rfl⟩
          obtain ⟨d', hd⟩ : ∃ z, w64 (d + qd) = z := ⟨_, rfl⟩
          rw [hu, hd] at HTK
          have ew1 : IntKind.i64.wrap (u + qu) = u' := hu
          have HD := Lib.hid hd
          have p2 := HXv.out.p2
          have f2 := HXv.out.fr 2
          clear hu hd
          go_region
          obtain ⟨wx, hwx⟩ : ∃ wx, wx = World.drew (wv.setCell ⟨w.heap.size, 2, none⟩ (.int .i64 u')) := ⟨_, rfl⟩
          rw [← hwx]
          clear p2 f2 ew1 c2
          have HTx : Hid (Turn (fun k => k = w.heap.size) wv wx) := by rw [hwx]; exact Lib.hid ((Turn.refl (fun k => k = w.heap.size) wv).setCell ⟨w.heap.size, 2, none⟩ _ (.inl rfl)).drew
          have HXx : Hid (Bk wx w.heap.size (pdC c x u' d) 74) := by rw [hwx]; exact Lib.hid (bk_set HXv.out 2 (.int .i64 u'))
          clear hwx
          have HOx := Lib.hid (HOv.out.turn HTx.out (fun k e h => by have := (HOv.out.lt _ e).1; omega))
          have HBx := Lib.hid (HBv.out.trans (HTx.out.below (B := w.heap.size) (fun q e => by omega) HBv.out.size))
          have HSx := Lib.hid (Nat.le_trans HSv.out HTx.out.size)
          have c3 := HTx.out.cell HCv.out (fun h => HBN.out h)
          have ew2 : IntKind.i64.wrap (d + qd) = d' := HD.out
          have p3 := HXx.out.p3
          have f3 := HXx.out.fr 3
          go_upto_region 10 with fail
          go_region
          obtain ⟨wy, hwy⟩ : ∃ wy, wy = World.drew (wx.setCell ⟨w.heap.size, 3, none⟩ (.int .i64 d')) := ⟨_, rfl⟩
          rw [← hwy]
          clear p3 f3 ew2 c3
          have HTy : Hid (Turn (fun k => k = w.heap.size) wx wy) := by rw [hwy]; exact Lib.hid ((Turn.refl (fun k => k = w.heap.size) wx).setCell ⟨w.heap.size, 3, none⟩ _ (.inl rfl)).drew
          have HXy : Hid (Bk wy w.heap.size (pdC c x u' d') 74) := by rw [hwy]; exact Lib.hid (bk_set HXx.out 3 (.int .i64 d'))
          clear hwy
          go_wp2_with fail
          exact ⟨⟨j + 1, o, b, u', d', rfl, rfl, hlt, HTK, Lib.hid (HOx.out.turn HTy.out (fun k e h => by have := (HOx.out.lt _ e).1; omega)), HXy, Lib.hid (HBx.out.trans (HTy.out.below (B := w.heap.size) (fun q e => by omega) HBx.out.size)), Lib.hid (Nat.le_trans HSx.out HTy.out.size)⟩, by simp [intOf]; omega⟩
        · rcases Classical.em (b = false ∧ (c < qc ∨ (c = qc ∧ x < qx))) with hput | hput
          · obtain ⟨rfl, hput⟩ := hput
            rw [step_put hsame hput] at HTK
            have HNS := Lib.hid hsame
            clear hsame
            rcases hput with hput | ⟨hput, hpu2⟩
            focus
              have q1 : (qc == c) = false := by simp; omega
              have g1 : decide (c < qc) = true := decide_eq_true hput
              have g2 : decide (qc > c) = true := decide_eq_true hput
              clear hput
              go_upto_region 11 with (first
                | go_quiet (fail)
                | fail)
              obtain ⟨wu, hwu⟩ : ∃ wu, wu = wr.drewN nq := ⟨_, rfl⟩
              rw [← hwu]
              have hbu : Below wr.heap.size wr wu := by rw [hwu]; exact below_drewN (Below.refl _ _) _
              clear hwu p0 p1 c0 c1 nq
              have p0 := (HXj.out.below hbu).p0
              have p1 := (HXj.out.below hbu).p1
              have c0 := (hbu.cell (p := ⟨b2, o2 + j * 4, none⟩) HBL.out).trans HC0.out
              have c1 := (hbu.cell (p := ⟨b2, o2 + j * 4 + 1, none⟩) HBL.out).trans HC1.out
              go_quiet (fail)
              obtain ⟨wv, hwv⟩ : ∃ wv, wv = wu.drewN nq := ⟨_, rfl⟩
              rw [← hwv]
              have hbv : Below wr.heap.size wr wv := by rw [hwv]; exact below_drewN hbu _
              clear hwv p0 p1 c0 c1
              have HXv := Lib.hid (HXj.out.below hbv)
              have HOv := Lib.hid (HOj.out.below hbv)
              have HBv := Lib.hid (HBj.out.trans (hbv.mono HBj.out.size))
              have HSv := Lib.hid (Nat.le_trans HSj.out hbv.size)
              have C0 := Lib.hid ((hbv.cell (p := ⟨b2, o2 + j * 4, none⟩) HBL.out).trans HC0.out)
              have C1 := Lib.hid ((hbv.cell (p := ⟨b2, o2 + j * 4 + 1, none⟩) HBL.out).trans HC1.out)
              have C2 := Lib.hid ((hbv.cell (p := ⟨b2, o2 + j * 4 + 2, none⟩) HBL.out).trans HC2.out)
              have C3 := Lib.hid ((hbv.cell (p := ⟨b2, o2 + j * 4 + 3, none⟩) HBL.out).trans HC3.out)
              clear hbu hbv
            rotate_left
            focus
              have q1 : (qc == c) = true := by simp; omega
              have q2 : (qx == x) = false := by have := HNS.out; simp; omega
              have g1 : decide (c < qc) = false := decide_eq_false (by omega)
              have g2 : decide (qc > c) = false := decide_eq_false (by omega)
              have g3 : decide (x < qx) = true := decide_eq_true hpu2
              have g4 : decide (qx > x) = true := decide_eq_true hpu2
              clear hput hpu2
              go_upto_region 11 with (first
                | go_quiet (fail)
                | fail)
              obtain ⟨wu, hwu⟩ : ∃ wu, wu = wr.drewN nq := ⟨_, rfl⟩
              rw [← hwu]
              have hbu : Below wr.heap.size wr wu := by rw [hwu]; exact below_drewN (Below.refl _ _) _
              clear hwu p0 p1 c0 c1 nq
              have p0 := (HXj.out.below hbu).p0
              have p1 := (HXj.out.below hbu).p1
              have c0 := (hbu.cell (p := ⟨b2, o2 + j * 4, none⟩) HBL.out).trans HC0.out
              have c1 := (hbu.cell (p := ⟨b2, o2 + j * 4 + 1, none⟩) HBL.out).trans HC1.out
              go_quiet (fail)
              obtain ⟨wv, hwv⟩ : ∃ wv, wv = wu.drewN nq := ⟨_, rfl⟩
              rw [← hwv]
              have hbv : Below wr.heap.size wr wv := by rw [hwv]; exact below_drewN hbu _
              clear hwv p0 p1 c0 c1
              have HXv := Lib.hid (HXj.out.below hbv)
              have HOv := Lib.hid (HOj.out.below hbv)
              have HBv := Lib.hid (HBj.out.trans (hbv.mono HBj.out.size))
              have HSv := Lib.hid (Nat.le_trans HSj.out hbv.size)
              have C0 := Lib.hid ((hbv.cell (p := ⟨b2, o2 + j * 4, none⟩) HBL.out).trans HC0.out)
              have C1 := Lib.hid ((hbv.cell (p := ⟨b2, o2 + j * 4 + 1, none⟩) HBL.out).trans HC1.out)
              have C2 := Lib.hid ((hbv.cell (p := ⟨b2, o2 + j * 4 + 2, none⟩) HBL.out).trans HC2.out)
              have C3 := Lib.hid ((hbv.cell (p := ⟨b2, o2 + j * 4 + 3, none⟩) HBL.out).trans HC3.out)
              clear hbu hbv
            all_goals
              have p0 := HXv.out.p0
              have p1 := HXv.out.p1
              have p2 := HXv.out.p2
              have p3 := HXv.out.p3
              go_wp2_with (first
                | (at_builtin; refine Rk.wpList_append rp_okr rfl (.tmp 91) (.tmp 93) rfl (w.heap.size + 1) u5 o [⟨c, x, u, d⟩] rfl (HOv.out.below (below_new wv (.cells #[.int .i64 c, .int .i64 x, .int .i64 u, .int .i64 d] 74))) _ 1 1 rfl (pd_at wv c x u d) rfl (.inr ⟨_, _, rfl⟩) (by have := HOL.out; rw [List.length_singleton]; omega) (Nat.le_trans HSv.out (below_new wv _).size) ?_; intro v7 w7 hx1 hg1 ha1; have HO7 := Lib.hid hx1; have HT7 := Lib.hid (((Turn.ofBelow (S := fun q => u5.ownBlock = some q) (below_new wv (.cells #[.int .i64 c, .int .i64 x, .int .i64 u, .int .i64 d] 74))).grown hg1 (fun j e => .inl e))); have d0 := HT7.out.cell C0.out (fun e => by have h : w.heap.size + 1 ≤ b2 := (HOv.out.lt _ e).1; have := HBL0.out; omega); have d1 := HT7.out.cell C1.out (fun e => by have h : w.heap.size + 1 ≤ b2 := (HOv.out.lt _ e).1; have := HBL0.out; omega); have d2 := HT7.out.cell C2.out (fun e => by have h : w.heap.size + 1 ≤ b2 := (HOv.out.lt _ e).1; have := HBL0.out; omega); have d3 := HT7.out.cell C3.out (fun e => by have h : w.heap.size + 1 ≤ b2 := (HOv.out.lt _ e).1; have := HBL0.out; omega); clear hx1 hg1 ha1)
                | (at_builtin; refine Rk.wpList_append rp_okr rfl (.tmp 95) (.tmp 100) rfl (w.heap.size + 1) v7 (o ++ [⟨c, x, u, d⟩]) [⟨qc, qx, qu, qd⟩] rfl (HO7.out.below (below_new w7 (.cells #[.int .i64 qc, .int .i64 qx, .int .i64 qu, .int .i64 qd] 74))) _ 1 1 rfl (pd_at w7 qc qx qu qd) rfl (.inr ⟨_, _, rfl⟩) (by have := HOL.out; rw [List.length_singleton, List.length_append, List.length_singleton]; omega) (Nat.le_trans (Nat.le_trans HSv.out HT7.out.size) (below_new w7 _).size) ?_; intro v8 w8 hx1 hg1 ha1; have HO8 := Lib.hid hx1; have HT8 := Lib.hid (((Turn.ofBelow (S := fun q => v7.ownBlock = some q) (below_new w7 (.cells #[.int .i64 qc, .int .i64 qx, .int .i64 qu, .int .i64 qd] 74))).grown hg1 (fun j e => .inl e))); clear hx1 hg1 ha1)
                | fail)
              have HB7 := Lib.hid (HBv.out.trans (HT7.out.below (B := w.heap.size) (fun q e => by have := (HOv.out.lt _ e).1; omega) HBv.out.size))
              have HX7 := Lib.hid (HXv.out.turn HT7.out (fun e => by have := (HOv.out.lt _ e).1; omega))
              exact ⟨⟨j + 1, _, true, u, d, rfl, rfl, hlt, HTK, HO8, Lib.hid (HX7.out.turn HT8.out (fun e => by have := (HO7.out.lt _ e).1; omega)), Lib.hid (HB7.out.trans (HT8.out.below (B := w.heap.size) (fun q e => by have := (HO7.out.lt _ e).1; omega) HB7.out.size)), Lib.hid (Nat.le_trans (Nat.le_trans HSv.out HT7.out.size) HT8.out.size)⟩, by simp [intOf]; omega⟩
          · have hkeep : b = true ∨ ¬ (c < qc ∨ (c = qc ∧ x < qx)) := by
              cases b with
              | true => exact .inl rfl
              | false => exact .inr (fun h => hput ⟨rfl, h⟩)
            rw [step_keep hsame hkeep] at HTK
            have hk4 : (b = true ∧ qc = c) ∨ (b = true ∧ ¬ qc = c) ∨ (b = false ∧ qc = c ∧ ¬ x < qx) ∨ (b = false ∧ ¬ qc = c ∧ ¬ c < qc) := by
              rcases Classical.em (qc = c) with h1 | h1
              · cases b with
                | true => exact .inl ⟨rfl, h1⟩
                | false =>
                  rcases hkeep with h | h
                  · cases h
                  · exact .inr (.inr (.inl ⟨rfl, h1, fun h2 => h (.inr ⟨h1.symm, h2⟩)⟩))
              · cases b with
                | true => exact .inr (.inl ⟨rfl, h1⟩)
                | false =>
                  rcases hkeep with h | h
                  · cases h
                  · exact .inr (.inr (.inr ⟨rfl, h1, fun h2 => h (.inl h2)⟩))
            have HNS := Lib.hid hsame
            clear hsame hput hkeep
            rcases hk4 with ⟨rfl, h1⟩ | ⟨rfl, h1⟩ | ⟨rfl, h1, h2⟩ | ⟨rfl, h1, h2⟩
            focus
              have q1 : (qc == c) = true := by simp; omega
              have q2 : (qx == x) = false := by have := HNS.out; simp; omega
              clear h1
              go_upto_region 11 with (first
                | go_quiet (fail)
                | fail)
              obtain ⟨wu, hwu⟩ : ∃ wu, wu = wr.drewN nq := ⟨_, rfl⟩
              rw [← hwu]
              have hbu : Below wr.heap.size wr wu := by rw [hwu]; exact below_drewN (Below.refl _ _) _
              clear hwu p0 p1 c0 c1 nq
              have p0 := (HXj.out.below hbu).p0
              have p1 := (HXj.out.below hbu).p1
              have c0 := (hbu.cell (p := ⟨b2, o2 + j * 4, none⟩) HBL.out).trans HC0.out
              have c1 := (hbu.cell (p := ⟨b2, o2 + j * 4 + 1, none⟩) HBL.out).trans HC1.out
              go_quiet (fail)
              obtain ⟨wv, hwv⟩ : ∃ wv, wv = wu.drewN nq := ⟨_, rfl⟩
              rw [← hwv]
              have hbv : Below wr.heap.size wr wv := by rw [hwv]; exact below_drewN hbu _
              clear hwv p0 p1 c0 c1
              have HXv := Lib.hid (HXj.out.below hbv)
              have HOv := Lib.hid (HOj.out.below hbv)
              have HBv := Lib.hid (HBj.out.trans (hbv.mono HBj.out.size))
              have HSv := Lib.hid (Nat.le_trans HSj.out hbv.size)
              have C0 := Lib.hid ((hbv.cell (p := ⟨b2, o2 + j * 4, none⟩) HBL.out).trans HC0.out)
              have C1 := Lib.hid ((hbv.cell (p := ⟨b2, o2 + j * 4 + 1, none⟩) HBL.out).trans HC1.out)
              have C2 := Lib.hid ((hbv.cell (p := ⟨b2, o2 + j * 4 + 2, none⟩) HBL.out).trans HC2.out)
              have C3 := Lib.hid ((hbv.cell (p := ⟨b2, o2 + j * 4 + 3, none⟩) HBL.out).trans HC3.out)
              clear hbu hbv
            rotate_left
            focus
              have q1 : (qc == c) = false := by simp; omega
              clear h1
              go_upto_region 11 with (first
                | go_quiet (fail)
                | fail)
              obtain ⟨wu, hwu⟩ : ∃ wu, wu = wr.drewN nq := ⟨_, rfl⟩
              rw [← hwu]
              have hbu : Below wr.heap.size wr wu := by rw [hwu]; exact below_drewN (Below.refl _ _) _
              clear hwu p0 p1 c0 c1 nq
              have p0 := (HXj.out.below hbu).p0
              have p1 := (HXj.out.below hbu).p1
              have c0 := (hbu.cell (p := ⟨b2, o2 + j * 4, none⟩) HBL.out).trans HC0.out
              have c1 := (hbu.cell (p := ⟨b2, o2 + j * 4 + 1, none⟩) HBL.out).trans HC1.out
              go_quiet (fail)
              obtain ⟨wv, hwv⟩ : ∃ wv, wv = wu.drewN nq := ⟨_, rfl⟩
              rw [← hwv]
              have hbv : Below wr.heap.size wr wv := by rw [hwv]; exact below_drewN hbu _
              clear hwv p0 p1 c0 c1
              have HXv := Lib.hid (HXj.out.below hbv)
              have HOv := Lib.hid (HOj.out.below hbv)
              have HBv := Lib.hid (HBj.out.trans (hbv.mono HBj.out.size))
              have HSv := Lib.hid (Nat.le_trans HSj.out hbv.size)
              have C0 := Lib.hid ((hbv.cell (p := ⟨b2, o2 + j * 4, none⟩) HBL.out).trans HC0.out)
              have C1 := Lib.hid ((hbv.cell (p := ⟨b2, o2 + j * 4 + 1, none⟩) HBL.out).trans HC1.out)
              have C2 := Lib.hid ((hbv.cell (p := ⟨b2, o2 + j * 4 + 2, none⟩) HBL.out).trans HC2.out)
              have C3 := Lib.hid ((hbv.cell (p := ⟨b2, o2 + j * 4 + 3, none⟩) HBL.out).trans HC3.out)
              clear hbu hbv
            rotate_left
            focus
              have q1 : (qc == c) = true := by simp; omega
              have q2 : (qx == x) = false := by have := HNS.out; simp; omega
              have g1 : decide (c < qc) = false := decide_eq_false (by omega)
              have g2 : decide (qc > c) = false := decide_eq_false (by omega)
              have g3 : decide (x < qx) = false := decide_eq_false h2
              have g4 : decide (qx > x) = false := decide_eq_false h2
              clear h1 h2
              go_upto_region 11 with (first
                | go_quiet (fail)
                | fail)
              obtain ⟨wu, hwu⟩ : ∃ wu, wu = wr.drewN nq := ⟨_, rfl⟩
              rw [← hwu]
              have hbu : Below wr.heap.size wr wu := by rw [hwu]; exact below_drewN (Below.refl _ _) _
              clear hwu p0 p1 c0 c1 nq
              have p0 := (HXj.out.below hbu).p0
              have p1 := (HXj.out.below hbu).p1
              have c0 := (hbu.cell (p := ⟨b2, o2 + j * 4, none⟩) HBL.out).trans HC0.out
              have c1 := (hbu.cell (p := ⟨b2, o2 + j * 4 + 1, none⟩) HBL.out).trans HC1.out
              go_quiet (fail)
              obtain ⟨wv, hwv⟩ : ∃ wv, wv = wu.drewN nq := ⟨_, rfl⟩
              rw [← hwv]
              have hbv : Below wr.heap.size wr wv := by rw [hwv]; exact below_drewN hbu _
              clear hwv p0 p1 c0 c1
              have HXv := Lib.hid (HXj.out.below hbv)
              have HOv := Lib.hid (HOj.out.below hbv)
              have HBv := Lib.hid (HBj.out.trans (hbv.mono HBj.out.size))
              have HSv := Lib.hid (Nat.le_trans HSj.out hbv.size)
              have C0 := Lib.hid ((hbv.cell (p := ⟨b2, o2 + j * 4, none⟩) HBL.out).trans HC0.out)
              have C1 := Lib.hid ((hbv.cell (p := ⟨b2, o2 + j * 4 + 1, none⟩) HBL.out).trans HC1.out)
              have C2 := Lib.hid ((hbv.cell (p := ⟨b2, o2 + j * 4 + 2, none⟩) HBL.out).trans HC2.out)
              have C3 := Lib.hid ((hbv.cell (p := ⟨b2, o2 + j * 4 + 3, none⟩) HBL.out).trans HC3.out)
              clear hbu hbv
            rotate_left
            focus
              have q1 : (qc == c) = false := by simp; omega
              have g1 : decide (c < qc) = false := decide_eq_false h2
              have g2 : decide (qc > c) = false := decide_eq_false h2
              clear h1 h2
              go_upto_region 11 with (first
                | go_quiet (fail)
                | fail)
              obtain ⟨wu, hwu⟩ : ∃ wu, wu = wr.drewN nq := ⟨_, rfl⟩
              rw [← hwu]
              have hbu : Below wr.heap.size wr wu := by rw [hwu]; exact below_drewN (Below.refl _ _) _
              clear hwu p0 p1 c0 c1 nq
              have p0 := (HXj.out.below hbu).p0
              have p1 := (HXj.out.below hbu).p1
              have c0 := (hbu.cell (p := ⟨b2, o2 + j * 4, none⟩) HBL.out).trans HC0.out
              have c1 := (hbu.cell (p := ⟨b2, o2 + j * 4 + 1, none⟩) HBL.out).trans HC1.out
              go_quiet (fail)
              obtain ⟨wv, hwv⟩ : ∃ wv, wv = wu.drewN nq := ⟨_, rfl⟩
              rw [← hwv]
              have hbv : Below wr.heap.size wr wv := by rw [hwv]; exact below_drewN hbu _
              clear hwv p0 p1 c0 c1
              have HXv := Lib.hid (HXj.out.below hbv)
              have HOv := Lib.hid (HOj.out.below hbv)
              have HBv := Lib.hid (HBj.out.trans (hbv.mono HBj.out.size))
              have HSv := Lib.hid (Nat.le_trans HSj.out hbv.size)
              have C0 := Lib.hid ((hbv.cell (p := ⟨b2, o2 + j * 4, none⟩) HBL.out).trans HC0.out)
              have C1 := Lib.hid ((hbv.cell (p := ⟨b2, o2 + j * 4 + 1, none⟩) HBL.out).trans HC1.out)
              have C2 := Lib.hid ((hbv.cell (p := ⟨b2, o2 + j * 4 + 2, none⟩) HBL.out).trans HC2.out)
              have C3 := Lib.hid ((hbv.cell (p := ⟨b2, o2 + j * 4 + 3, none⟩) HBL.out).trans HC3.out)
              clear hbu hbv
            all_goals
              have d0 := C0.out
              have d1 := C1.out
              have d2 := C2.out
              have d3 := C3.out
              go_wp2_with (first
                | (at_builtin; refine Rk.wpList_append rp_okr rfl (.tmp 95) (.tmp 100) rfl (w.heap.size + 1) u5 o [⟨qc, qx, qu, qd⟩] rfl (HOv.out.below (below_new wv (.cells #[.int .i64 qc, .int .i64 qx, .int .i64 qu, .int .i64 qd] 74))) _ 1 1 rfl (pd_at wv qc qx qu qd) rfl (.inr ⟨_, _, rfl⟩) (by have := HOL.out; rw [List.length_singleton]; omega) (Nat.le_trans HSv.out (below_new wv _).size) ?_; intro v8 w8 hx1 hg1 ha1; have HO8 := Lib.hid hx1; have HT8 := Lib.hid (((Turn.ofBelow (S := fun q => u5.ownBlock = some q) (below_new wv (.cells #[.int .i64 qc, .int .i64 qx, .int .i64 qu, .int .i64 qd] 74))).grown hg1 (fun j e => .inl e))); clear hx1 hg1 ha1)
                | fail)
              exact ⟨⟨j + 1, _, _, u, d, rfl, rfl, hlt, HTK, HO8, Lib.hid (HXv.out.turn HT8.out (fun e => by have := (HOv.out.lt _ e).1; omega)), Lib.hid (HBv.out.trans (HT8.out.below (B := w.heap.size) (fun q e => by have := (HOv.out.lt _ e).1; omega) HBv.out.size)), Lib.hid (Nat.le_trans HSv.out HT8.out.size)⟩, by simp [intOf]; omega⟩
      · obtain rfl : j = n := by omega
        have hd4 : decide ((j : Int) < (j : Int)) = false := decide_eq_false (by omega)
        have hd5 : decide (j < j) = false := decide_eq_false (by omega)
        have hlj : l.take j = l := List.take_of_length_le (by rw [HLN.out]; exact Nat.le_refl _)
        rw [hlj] at HWS
        clear hlj
        rw [HWS.out] at HWL
        have p0 := HXj.out.p0
        have p1 := HXj.out.p1
        have p2 := HXj.out.p2
        have p3 := HXj.out.p3
        cases b with
        | true =>
          rw [if_pos rfl] at HWL
          go_wp2_with fail
          go_ret
          exact ⟨_, rfl, by rw [HWL.out]; exact HOj.out, HBj.out, HSj.out⟩
        | false =>
          rw [if_neg (by simp)] at HWL
          go_wp2_with (first
            | (at_builtin; refine Rk.wpList_append rp_okr rfl (.tmp 104) (.tmp 106) rfl (w.heap.size + 1) u5 o [⟨c, x, u, d⟩] rfl (HOj.out.below (below_new wr (.cells #[.int .i64 c, .int .i64 x, .int .i64 u, .int .i64 d] 74))) _ 1 1 rfl (pd_at wr c x u d) rfl (.inr ⟨_, _, rfl⟩) (by have := HOL.out; rw [List.length_singleton]; omega) (Nat.le_trans HSj.out (below_new wr _).size) ?_; intro v7 w7 hx1 hg1 ha1; have HO7 := Lib.hid hx1; have HG7 := Lib.hid hg1; clear hx1 hg1 ha1)
            | fail)
          go_ret
          have HT7 := Lib.hid (((Turn.ofBelow (S := fun q => u5.ownBlock = some q) (below_new wr (.cells #[.int .i64 c, .int .i64 x, .int .i64 u, .int .i64 d] 74))).grown HG7.out (fun j e => .inl e)))
          exact ⟨_, rfl, by rw [HWL.out]; exact HO7.out, HBj.out.trans (HT7.out.below (B := w.heap.size) (fun q e => by have := (HOj.out.lt _ e).1; omega) HBj.out.size), Nat.le_trans HSj.out HT7.out.size⟩
end Go.Proofs.Ytogngghfdcpeaaa
