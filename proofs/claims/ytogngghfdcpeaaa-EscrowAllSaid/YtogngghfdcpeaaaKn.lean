/-
  Pends of those in a list are taken away.
-/
import Derived.Test.YtogngghfdcpeaaaKm
namespace Go.Proofs.Ytogngghfdcpeaaa
set_option maxRecDepth 100000
set_option linter.unusedVariables false
set_option linter.unusedSimpArgs false
open Go.RowKit Go.Shelf Go.Maps

theorem int_keyK (x : Int) (h : okI x) : keyOf Try.prog 3 (.int .i64 x) = some (.int .i64 x) := keyOf_int_mk Try.underlying3 (by unfold okI at h; simp [Lit.wf, IntKind.bits, IntKind.signed, IntKind.min, IntKind.max]; omega)
structure Gone (W : World) (g bm : Nat) (G : Int → Bool) : Prop where
  box : W.heap[g]? = some (.cells #[.map (some bm)] 101 (0, 0))
  map : ∃ nn D, W.ownsMap (H := Unit) Try.prog 3 unitElem bm nn D ∧ ∀ x : Int, okI x → Maps.has D (.int .i64 x) = G x
theorem Gone.turn {S : Nat → Prop} {W V : World} {g bm : Nat} {G : Int → Bool} (h : Gone W g bm G) (ht : Turn S W V) (h1 : ¬ S g) (h2 : ¬ S bm) : Gone V g bm G := by
  obtain ⟨nn, D, ⟨es, cl, hh, r⟩, hD⟩ := h.map
  exact ⟨(ht.block g (lt_of_block h.box) h1).trans h.box, nn, D, ⟨es, cl, (ht.block bm (lt_of_block hh) h2).trans hh, r⟩, hD⟩
theorem Gone.below {W V : World} {g bm : Nat} {G : Int → Bool} (h : Gone W g bm G) (hb : Below W.heap.size W V) : Gone V g bm G := h.turn (S := fun _ => False) (Turn.ofBelow hb) (fun h => h) (fun h => h)

theorem free1_any (g bm : Nat) (G : Int → Bool) (y : Pd) (hx : okI y.x) (W : World) (hG : Gone W g bm G) :
    Calls Try.prog 50 #[.agg #[.int .i64 y.c, .int .i64 y.x, .int .i64 y.u, .int .i64 y.d], .pointer (some ⟨g, 0, none⟩)] W fun e w' => e = .returned (.bool (G y.x)) ∧ Below W.heap.size W w' := by
  obtain ⟨W1, hW1⟩ : ∃ W1, W1 = W.alloc (.cells #[.int .i64 y.c, .int .i64 y.x, .int .i64 y.u, .int .i64 y.d] 75) := ⟨_, rfl⟩
  have hb1 : Below W.heap.size W W1 := by rw [hW1]; exact below_new _ _
  have hG1 := hG.below hb1
  obtain ⟨nn, D, hM, hD⟩ := hG1.map
  have hc : W1.cell? ⟨g, 0, none⟩ = some (.map (some bm)) := (cell_of_row _ _ _ _ _ _ hG1.box).trans rfl
  have hy : Bk W1 W.heap.size (pdC y.c y.x y.u y.d) 75 := by rw [hW1]; exact Bk.new W _ _
  have hyc := hy.p1
  have hkey := int_keyK y.x hx
  have hd := hD y.x hx
  obtain ⟨q, hq⟩ : ∃ q, G y.x = q := ⟨_, rfl⟩
  rw [hq] at hd
  have HB := Lib.hid (show Below W.heap.size W (W1.alloc (.cells #[] 102)) from hb1.alloc hb1.size _)
  have HM := Lib.hid hM
  clear hG hG1 hD hM hy hx hb1
  rw [hq]
  clear hq
  go_enter Try.func50, Try.ntmps50
  go_upto_region 1 with fail
  rw [← hW1]
  clear hW1
  have hown1 := HM.out
  go_wp2_with (first | (at_lookup; refine wpList_lookup_own_unit _ rfl _ _ 101 rfl 3 102 (int_keyed Try.underlying3) Try.underlying101 (Try.zeroValue102 _) bm nn D rfl hown1 _ _ rfl hkey ?_; rw [hd]; clear hown1) | fail)
  go_ret
  exact ⟨rfl, HB.out⟩

theorem freeL_in (P : List Pd) (l : List Int) : freeL P l = P.filter fun y => !inB l y.x := rfl

set_option maxHeartbeats 2000000 in
theorem pfree_any (A B : Option Addr) (n a m b : Nat) (t : Tb) (E : Option Addr) (ni ki : Nat) (l : List Int) (hn : n ≤ 1000) (hm : m ≤ 1000) (hni : ni ≤ 1000) (w : World) (ht : TbO w A n a B m b t) (hl : Ls w E ni l) :
    Calls Try.prog 20 #[tbV A n a B m b, .slice E ni ki] w fun e w' => ∃ A' a' B' m' b' cb, e = .returned (tbV A' n a' B' m' b') ∧ w.heap.size + 2 ≤ cb ∧ RCo.Own w' cb (.slice A' n a') t.C ∧
      RPo.Own w' (w.heap.size + 2) (.slice B' m' b') (freeL t.P l) ∧ (freeL t.P l).length = m' ∧ (∀ q, (Value.slice B' m' b').ownBlock = some q → q < cb) ∧ Below w.heap.size w w' := by
  have HT := Lib.hid ht
  have HSC := Lib.hid ht.sc
  have HSP := Lib.hid ht.sp
  have HLS := Lib.hid hl
  obtain ⟨w0, hw0⟩ : ∃ w0, w0 = w.alloc (.cells (tbC A n a B m b) 34) := ⟨_, rfl⟩
  obtain ⟨w1, hw1⟩ : ∃ w1, w1 = w0.alloc (.cells #[.slice none 0 0, .slice none 0 0] 34) := ⟨_, rfl⟩
  have hs0 : w0.heap.size = w.heap.size + 1 := by rw [hw0]; simp
  have hs1 : w1.heap.size = w.heap.size + 2 := by rw [hw1, World.size_alloc, hs0]
  have b0 : Below w.heap.size w w1 := by rw [hw1, hw0]; exact below_two (below_new _ _) (below_new _ _)
  have x0 : Bk w1 w.heap.size (tbC A n a B m b) 34 := by rw [hw1, hw0]; exact (Bk.new w _ _).below (below_new _ _)
  have x1 : Bk w1 (w.heap.size + 1) #[.slice none 0 0, .slice none 0 0] 34 := by have := Bk.new w0 #[.slice none 0 0, .slice none 0 0] 34; rw [hs0] at this; rw [hw1]; exact this
  obtain ⟨w2, hw2⟩ : ∃ w2, w2 = w1.alloc (.map #[] 0) := ⟨_, rfl⟩
  obtain ⟨w3, hw3⟩ : ∃ w3, w3 = w2.alloc (.cells #[.map (some (w.heap.size + 2))] 101) := ⟨_, rfl⟩
  have hs2 : w2.heap.size = w.heap.size + 2 + 1 := by rw [hw2, World.size_alloc, hs1]
  have b2 : Below w.heap.size w w3 := by rw [hw3, hw2]; exact (b0.alloc b0.size _).alloc (by simp; exact Nat.le_succ_of_le b0.size) _
  have m2 : w3.ownsMap (H := Unit) Try.prog 3 unitElem (w.heap.size + 2) 0 (.map []) := by
    have h := (World.ownsMap_made w1 Try.prog 3 (unitElem (H := Unit)))
    rw [hs1] at h
    rw [hw3, hw2]; exact h.alloc _
  have v2 : w3.heap[w.heap.size + 2 + 1]? = some (.cells #[.map (some (w.heap.size + 2))] 101 (0, 0)) := by
    rw [hw3, ← hs2]; exact heap_alloc_new w2 _
  have k3 : Bk w3 w.heap.size (tbC A n a B m b) 34 := by rw [hw3, hw2]; exact (x0.below (below_new _ _)).below (below_new _ _)
  have r3 : Bk w3 (w.heap.size + 1) #[.slice none 0 0, .slice none 0 0] 34 := by rw [hw3, hw2]; exact (x1.below (below_new _ _)).below (below_new _ _)
  have hs3 : w3.heap.size = w.heap.size + 2 + 1 + 1 := by rw [hw3, World.size_alloc, hs2]
  have HB := Lib.hid b2
  have HMP := Lib.hid m2
  have HV := Lib.hid v2
  have HK := Lib.hid k3
  have HR := Lib.hid r3
  have HS3 := Lib.hid hs3
  have hmm := @run_makeMap Try.prog
  clear ht hl b0 x0 x1 b2 m2 v2 k3 r3 hs3 hs2 hs0
  go_enter Try.func20, Try.ntmps20
  go_upto_region 1 with fail
  rw [← hw0, ← hw1]
  clear hw0 hw1 w0
  go_upto_region 2 with fail
  rw [← hw2, ← hw3]
  obtain ⟨g5, hg5⟩ : ∃ g5, g5 = w.heap.size + 2 + 1 := ⟨_, rfl⟩
  obtain ⟨g4, hg4⟩ : ∃ g4, g4 = w.heap.size + 2 := ⟨_, rfl⟩
  rw [← hg5] at HV HS3 ⊢
  rw [← hg4] at HMP HV ⊢
  have HG5 := Lib.hid hg5
  have HG4 := Lib.hid hg4
  clear hw2 hw3 hs1 hg5 hg4 w2 hmm
  go_wp2_with fail
  go_loopw [12] (fun iv wr => ∃ (j : Nat) (D : DataW Unit), iv = .int .i64 (j : Int) ∧ j ≤ ni ∧ Hid (wr.ownsMap Try.prog 3 unitElem g4 j D) ∧ Hid (∀ x : Int, okI x → Maps.has D (.int .i64 x) = inB (l.take j) x) ∧ Hid (Turn (fun q => q = g4) w3 wr)) (fun iv _ => ni - (intOf iv).toNat)
  case atStart => exact ⟨0, .map [], rfl, Nat.zero_le _, HMP.out, (fun x _ => rfl), Turn.refl _ _⟩
  case round =>
    obtain ⟨j, D, rfl, hj, HM, HD, HT3⟩ := hrel
    have HBR := Lib.hid (HB.out.trans ((HT3.out).below (B := w.heap.size) (fun q e => by have := HG4.out; omega) HB.out.size))
    have HVR := Lib.hid (HT3.out.block g5 (lt_of_block HV.out) (by have h1 := HG4.out; have h2 := HG5.out; show ¬ g5 = g4; omega) |>.trans HV.out)
    have HKR := Lib.hid (HK.out.turn HT3.out (by have := HG4.out; omega))
    have HRR := Lib.hid (HR.out.turn HT3.out (by have := HG4.out; omega))
    rcases Nat.lt_or_ge j ni with hlt | hge
    · obtain ⟨bl, ol, hE, hbl, hokl, hgetl, hcl⟩ := (HLS.out.below HBR.out).get hlt
      subst hE
      have HTKS := Lib.hid (fun x => inB_take (x := x) hgetl)
      have hkey := int_keyK _ hokl
      have hd4 : decide ((j : Int) < (ni : Int)) = true := decide_eq_true (by omega)
      have hd5 : decide (j < ni) = true := decide_eq_true hlt
      have hi1 : (j : Int) < (ni : Int) := by omega
      generalize l.getD j 0 = y at *
      have hvc : wr.cell? ⟨g5, 0, none⟩ = some (.map (some g4)) := (cell_of_row _ _ _ _ _ _ HVR.out).trans rfl
      have hown1 := HM.out
      clear hgetl hbl hokl
      go_wp2_with (first | (at_mapUpdate; refine wpList_mapUpdate_own _ rfl _ _ _ 101 rfl 3 102 (int_keyed Try.underlying3) Try.underlying101 unitElem g4 j D rfl hown1 (by unfold maxLen; omega) _ _ _ rfl rfl hkey _ [] unitElem_mk ?_; intro w4 hown4 hg4'; have HO4 := Lib.hid hown4; have HGB := Lib.hid hg4'; clear hown4 hg4' hown1 hvc) | fail)
      refine ⟨⟨j + 1, _, by simp, by omega, HO4.out, (show ∀ x : Int, okI x → _ from fun x hx => ?_), HT3.out.grown HGB.out (fun q e => by injection e with e; exact .inl e.symm)⟩, by simp [intOf]; omega⟩
      rw [HTKS.out]
      by_cases e : y = x
      · subst e
        rw [has_put_same HM.out.isMap (show WideAt.IsKeyLit (.int .i64 y) from trivial)]
        simp
      · rw [has_put_other (by intro e2; injection e2 with _ e2; exact e e2.symm), HD.out x hx, decide_eq_false e, Bool.or_false]
    · obtain rfl : j = ni := by omega
      have hd4 : decide ((j : Int) < (j : Int)) = false := decide_eq_false (by omega)
      have hd5 : decide (j < j) = false := decide_eq_false (by omega)
      have HDA := Lib.hid (show ∀ x : Int, okI x → Maps.has D (.int .i64 x) = inB l x by have h := HD.out; rw [List.take_of_length_le (by rw [HLS.out.len]; omega)] at h; exact h)
      have HCL := Lib.hid (cloneP_any B m b t.P HT.out.tb.pl (by omega) HSP.out wr (HT.out.tb.atP.below HBR.out))
      have kc := HKR.out.t1
      have HZ := Lib.hid (show wr.heap.size ≥ g5 + 1 by have h1 := HT3.out.size; have h2 := HS3.out; omega)
      go_wp2_with fail
      refine HCL.out.mono ?_
      rintro e w5 ⟨v5, rfl, ho5, hb5⟩
      obtain ⟨A5, k5, rfl⟩ := own_slice rp_oko ho5 HT.out.tb.pl
      have HO5 := Lib.hid ho5
      have HB5 := Lib.hid hb5
      have HG := Lib.hid (show Gone w5 g5 g4 (inB l) from (show Gone wr g5 g4 (inB l) from ⟨HVR.out, j, D, HM.out, HDA.out⟩).below hb5)
      have HK5 := Lib.hid (HKR.out.below hb5)
      have HR5 := Lib.hid (HRR.out.below hb5)
      have HBR5 := Lib.hid (HBR.out.trans (hb5.mono HBR.out.size))
      clear ho5 hb5 HCL kc
      have hdel := deleteP_any g5 (fun y => inB l y.x) t.P A5 m k5 wr.heap.size HT.out.tb.pl (by omega) w5 HO5.out HB5.out.size (fun V hV y hy => free1_any g5 g4 (inB l) y (HT.out.tb.okP y hy).x V (HG.out.turn hV (by have := HZ.out; omega) (by have h1 := HZ.out; have h2 := HG4.out; have h3 := HG5.out; omega)))
      go_wp2_with fail
      refine hdel.mono ?_
      rintro e w6 ⟨A6, n6, k6, rfl, ho6, hb6⟩
      have HO6 := Lib.hid ho6
      have HB6 := Lib.hid (HB5.out.trans hb6)
      have hT6 : Turn (fun q => wr.heap.size ≤ q) w5 w6 := ⟨hb6.os, hb6.tape, hb6.output, hb6.size, fun q _ hn => hb6.block q (by omega)⟩
      have HK6 := Lib.hid (HK5.out.turn hT6 (by have := HKR.out.lt; omega))
      have HR6 := Lib.hid (HR5.out.turn hT6 (by have := HRR.out.lt; omega))
      have HBR6 := Lib.hid (HBR5.out.trans (hb6.mono (by have := HBR.out.size; omega)))
      clear ho6 hb6 hdel hT6
      have kc := HK6.out.t0
      have hcl := cloneC_any A n a t.C HT.out.tb.cl (by omega) HSC.out w6 (HT.out.tb.atC.below HBR6.out)
      go_wp2_with fail
      refine hcl.mono ?_
      rintro e w7 ⟨v7, rfl, ho7, hb7⟩
      obtain ⟨A7, k7, rfl⟩ := own_slice rc_oko ho7 HT.out.tb.cl
      have HO7 := Lib.hid ho7
      have HP7 := Lib.hid (HO6.out.below hb7)
      have HR7 := Lib.hid (HR6.out.below hb7)
      have HBR7 := Lib.hid (HBR6.out.trans (hb7.mono HBR6.out.size))
      have HSZ := Lib.hid (show wr.heap.size ≤ w6.heap.size from HB6.out.size)
      clear ho7 hb7 hcl kc
      have z0 : w7.cell? ⟨w.heap.size + 1, 0, none⟩ = some (.slice none 0 0) := HR7.out.c 0 _ rfl
      have z1 : w7.cell? ⟨w.heap.size + 1, 1, none⟩ = some (.slice none 0 0) := HR7.out.c 1 _ rfl
      have f0 := HR7.out.fr 0
      have f1 := HR7.out.fr 1
      go_wp2_with fail
      have hT8 := ((Turn.refl (fun q => q = w.heap.size + 1) w7).setCell ⟨w.heap.size + 1, 0, none⟩ (.slice A7 n k7) (.inl rfl)).setCell ⟨w.heap.size + 1, 1, none⟩ (.slice A6 n6 k6) (.inl rfl)
      have hl6 : (freeL t.P l).length = n6 := by
        obtain ⟨_, _, e, _⟩ := HO6.out.form rp_oko
        injection e with e1 e2 e3
        rw [freeL_in]; exact e2.symm
      refine bodyPost_ret (v := tbV A7 n k7 A6 n6 k6) (by rw [results_cell_one rfl]; go_simp) rfl ⟨A7, k7, A6, n6, k6, w6.heap.size, rfl, ?_, ?_, ?_, hl6, ?_, (HBR7.out.setCell (show w.heap.size ≤ w.heap.size + 1 from by omega) _).setCell (show w.heap.size ≤ w.heap.size + 1 from by omega) _⟩
      · have h1 := HSZ.out; have h2 := HZ.out; have h3 := HG5.out; omega
      · exact HO7.out.turn hT8 (fun q e h => by have h0 := (HO7.out.lt q e).1; have h1 := HSZ.out; have h2 := HZ.out; have h3 := HG5.out; omega)
      · rw [freeL_in]
        exact Rk.Own.le (HP7.out.turn hT8 (fun q e h => by have h0 := (HO6.out.lt q e).1; have h2 := HZ.out; have h3 := HG5.out; omega)) (by have h2 := HZ.out; have h3 := HG5.out; omega)
      · intro q e; exact (HO6.out.lt q e).2
end Go.Proofs.Ytogngghfdcpeaaa
