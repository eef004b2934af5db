/-
  Wants of those in a list are taken away.
-/
import Derived.Test.YtbokhhialfbjcaaGreatRowsB
import Derived.Test.YtbokhhialfbjcaaGreatQb11
namespace Go.Proofs.YtbokhhialfbjcaaGreat
set_option maxRecDepth 100000
set_option linter.unusedVariables false
open Go.RowKit Go.Shelf Go.Sort Go.Maps

theorem dropL_eq (Q : List Wn) (l : List Nat) : dropL Q l = Q.filter fun y => !inL l (y.x : Int) := by
  unfold dropL inL
  congr 1
  funext y
  congr 2
  funext i
  by_cases h : i = y.x
  · simp [h]
  · simp [h]; omega

theorem drop1_any (g bm : Nat) (G : Int → Bool) (y : Wn) (hx : 0 ≤ (y.x : Int) ∧ (y.x : Int) ≤ 63) (W : World) (hG : Gone W g bm G) :
    Calls Tryz.prog 57 #[.agg #[.int .i64 (y.x : Int), .int .i64 y.b, .int .i64 y.m], .pointer (some ⟨g, 0, none⟩)] W fun e w' => e = .returned (.bool (G (y.x : Int))) ∧ Below W.heap.size W w' := by
  obtain ⟨W1, hW1⟩ : ∃ W1, W1 = W.alloc (.cells #[.int .i64 (y.x : Int), .int .i64 y.b, .int .i64 y.m] 52) := ⟨_, rfl⟩
  have hb1 : Below W.heap.size W W1 := by rw [hW1]; exact below_new _ _
  have hG1 := hG.below hb1
  obtain ⟨nn, D, hM, hD⟩ := hG1.map
  have hc : W1.cell? ⟨g, 0, none⟩ = some (.map (some bm)) := (cell_of_row _ _ _ _ _ _ hG1.box).trans rfl
  have hy : Wb W1 W.heap.size y := by rw [hW1]; exact Bk.new W _ _
  have hyc := hy.c 0 _ rfl
  have hkey := int_keyL (y.x : Int) hx
  have hd := hD (y.x : Int) hx
  obtain ⟨q, hq⟩ : ∃ q, G (y.x : Int) = q := ⟨_, rfl⟩
  rw [hq] at hd
  have HB := Lib.hid (show Below W.heap.size W (W1.alloc (.cells #[] 104)) from hb1.alloc hb1.size _)
  have HM := Lib.hid hM
  clear hG hG1 hD hM hy hx hb1
  rw [hq]
  clear hq
  go_enter Tryz.func57, Tryz.ntmps57
  go_upto_region 1 with fail
  rw [← hW1]
  clear hW1
  have hown1 := HM.out
  go_wp2_with (first | (at_lookup; refine wpList_lookup_own_unit _ rfl _ _ 91 rfl 3 104 (int_keyed Tryz.underlying3) Tryz.underlying91 (Tryz.zeroValue104 _) bm nn D rfl hown1 _ _ rfl hkey ?_; rw [hd]; clear hown1) | fail)
  go_ret
  exact ⟨rfl, HB.out⟩


set_option maxHeartbeats 2000000 in
theorem drop_any (A : Option Addr) (Q : List Wn) (n k : Nat) (hN : Q.length = n) (hA : Sp A) (hl : SQ Q) (Ai : Option Addr) (l : List Nat) (ni ki : Nat) (hNi : l.length = ni) (hni : ni ≤ 1000) (hi : ∀ i ∈ l, i ≤ 63) (w : World) (hL : RW.At w A Q) (hI : IdAt w Ai l) :
    Calls Tryz.prog 30 #[.agg #[.slice A n k], .slice Ai ni ki] w fun e w' => ∃ A' n' k', e = .returned (.agg #[.slice A' n' k']) ∧ RW.Own w' w.heap.size (.slice A' n' k') (dropL Q l) ∧ Below w.heap.size w w' := by
  have hn16 : n ≤ 16384 := by rw [← hN]; have := hl.n; omega
  obtain ⟨w0, hw0⟩ : ∃ w0, w0 = w.alloc (.cells #[.slice A n k] 28) := ⟨_, rfl⟩
  obtain ⟨w1, hw1⟩ : ∃ w1, w1 = w0.alloc (.cells #[.slice none 0 0] 28) := ⟨_, rfl⟩
  have hs0 : w0.heap.size = w.heap.size + 1 := by rw [hw0]; simp
  have hs1 : w1.heap.size = w.heap.size + 2 := by rw [hw1, World.size_alloc, hs0]
  have b0 : Below w.heap.size w w1 := by rw [hw1, hw0]; exact below_two (below_new _ _) (below_new _ _)
  have x0 : Qb w1 w.heap.size A n k := by rw [hw1, hw0]; exact (Bk.new w #[.slice A n k] _).below (below_new _ _)
  have x1 : Qb w1 (w.heap.size + 1) none 0 0 := by have := Bk.new w0 #[.slice none 0 0] 28; rw [hs0] at this; rw [hw1]; exact this
  -- the map, and its variable
  obtain ⟨w2, hw2⟩ : ∃ w2, w2 = w1.alloc (.map #[] 0) := ⟨_, rfl⟩
  obtain ⟨w3, hw3⟩ : ∃ w3, w3 = w2.alloc (.cells #[.map (some (w.heap.size + 2))] 91) := ⟨_, rfl⟩
  have hs2 : w2.heap.size = w.heap.size + 2 + 1 := by rw [hw2, World.size_alloc, hs1]
  have b2 : Below w.heap.size w w3 := by rw [hw3, hw2]; exact (b0.alloc b0.size _).alloc (by simp; exact Nat.le_succ_of_le b0.size) _
  have m2 : w3.ownsMap (H := Unit) Tryz.prog 3 unitElem (w.heap.size + 2) 0 (.map []) := by
    have h := (World.ownsMap_made w1 Tryz.prog 3 (unitElem (H := Unit)))
    rw [hs1] at h
    rw [hw3, hw2]; exact h.alloc _
  have v2 : w3.heap[w.heap.size + 2 + 1]? = some (.cells #[.map (some (w.heap.size + 2))] 91 (0, 0)) := by
    rw [hw3, ← hs2]; exact heap_alloc_new w2 _
  have k3 : Qb w3 w.heap.size A n k := by rw [hw3, hw2]; exact (x0.below (below_new _ _)).below (below_new _ _)
  have r3 : Qb w3 (w.heap.size + 1) none 0 0 := by rw [hw3, hw2]; exact (x1.below (below_new _ _)).below (below_new _ _)
  have hs3 : w3.heap.size = w.heap.size + 2 + 1 + 1 := by rw [hw3, World.size_alloc, hs2]
  have HN := Lib.hid hN
  have HA := Lib.hid hA
  have HLG := Lib.hid hl
  have HNI := Lib.hid hNi
  have HI := Lib.hid hi
  have HL := Lib.hid hL
  have HIA := Lib.hid hI
  have HB := Lib.hid b2
  have HMP := Lib.hid m2
  have HV := Lib.hid v2
  have HK := Lib.hid k3
  have HR := Lib.hid r3
  have HS3 := Lib.hid hs3
  have hmm := @run_makeMap Tryz.prog
  have c0 := x0.c 0 _ rfl
  clear hN hA hl hNi hi hL hI b0 x0 x1 b2 m2 v2 k3 r3 hs3 hs2 hs0
  go_enter Tryz.func30, Tryz.ntmps30
  go_upto_region 1 with fail
  rw [← hw0, ← hw1]
  clear hw0 hw1 w0
  go_upto_region 2 with fail
  rw [← hw2, ← hw3]
  obtain ⟨g5, hg5⟩ : ∃ g5, g5 = w.heap.size + 2 + 1 := ⟨_, rfl⟩
  obtain ⟨g4, hg4⟩ : ∃ g4, g4 = w.heap.size + 2 := ⟨_, rfl⟩
  rw [← hg5] at HV HS3 ⊢
  rw [← hg4] at HMP HV ⊢
  have HG5 := Lib.hid hg5
  have HG4 := Lib.hid hg4
  clear hw2 hw3 hs1 hg5 hg4 w2 c0 hmm
  go_wp2_with fail
  go_loopw [11] (fun iv wr => ∃ (j : Nat) (D : DataW Unit), iv = .int .i64 (j : Int) ∧ j ≤ ni ∧ Hid (wr.ownsMap Tryz.prog 3 unitElem g4 j D) ∧ Hid (∀ x : Int, 0 ≤ x ∧ x ≤ 63 → Maps.has D (.int .i64 x) = inL (l.take j) x) ∧ Hid (Turn (fun q => q = g4) w3 wr)) (fun iv _ => ni - (intOf iv).toNat)
  case atStart => exact ⟨0, .map [], rfl, Nat.zero_le _, HMP.out, (fun x _ => rfl), Turn.refl _ _⟩
  case round =>
    obtain ⟨j, D, rfl, hj, HM, HD, HT⟩ := hrel
    have HBR := Lib.hid (HB.out.trans ((HT.out).below (B := w.heap.size) (fun q e => by have := HG4.out; omega) HB.out.size))
    have HVR := Lib.hid (HT.out.block g5 (lt_of_block HV.out) (by have h1 := HG4.out; have h2 := HG5.out; show ¬ g5 = g4; omega) |>.trans HV.out)
    have HKR := Lib.hid (HK.out.turn HT.out (by have := HG4.out; omega))
    have HRR := Lib.hid (HR.out.turn HT.out (by have := HG4.out; omega))
    rcases Nat.lt_or_ge j ni with hlt | hge
    · obtain ⟨i, hy⟩ : ∃ i, l[j]? = some i := ⟨l[j]'(by rw [HNI.out]; exact hlt), List.getElem?_eq_getElem (by rw [HNI.out]; exact hlt)⟩
      obtain ⟨b, rfl, hb, hc⟩ := (HIA.out.below HBR.out).get2 hy
      have hi63 := HI.out i (List.mem_of_getElem? hy)
      have hkey := int_keyL (i : Int) (by omega)
      have HTKS := Lib.hid (show l.take (j + 1) = l.take j ++ [i] by rw [List.take_add_one, hy]; rfl)
      have HI63 := Lib.hid hi63
      have hvc : wr.cell? ⟨g5, 0, none⟩ = some (.map (some g4)) := (cell_of_row _ _ _ _ _ _ HVR.out).trans rfl
      have hown1 := HM.out
      clear hy hb hi63
      go_wp2_with (first | (at_mapUpdate; refine wpList_mapUpdate_own _ rfl _ _ _ 91 rfl 3 104 (int_keyed Tryz.underlying3) Tryz.underlying91 unitElem g4 j D rfl hown1 (by unfold maxLen; omega) _ _ _ rfl rfl hkey _ [] unitElem_mk ?_; intro w4 hown4 hg4'; have HO4 := Lib.hid hown4; have HGB := Lib.hid hg4'; clear hown4 hg4' hown1 hvc) | fail)
      refine ⟨⟨j + 1, _, by simp, by omega, HO4.out, (show ∀ x : Int, 0 ≤ x ∧ x ≤ 63 → _ from fun x hx => ?_), HT.out.grown HGB.out (fun q e => by injection e with e; exact .inl e.symm)⟩, by simp [intOf]; omega⟩
      rw [HTKS.out, inL_snoc]
      by_cases e : (i : Int) = x
      · subst e
        rw [has_put_same HM.out.isMap (show WideAt.IsKeyLit (.int .i64 (i : Int)) from trivial)]
        simp
      · rw [has_put_other (by intro e2; injection e2 with _ e2; exact e e2.symm), HD.out x hx, decide_eq_false e, Bool.or_false]
    · obtain rfl : j = ni := by omega
      have HDA := Lib.hid (show ∀ x : Int, 0 ≤ x ∧ x ≤ 63 → Maps.has D (.int .i64 x) = inL l x by have h := HD.out; rw [List.take_of_length_le (by rw [HNI.out]; omega)] at h; exact h)
      have HCL := Lib.hid (cloneW_any A Q n k wr HN.out (by omega) HA.out (HL.out.below HBR.out))
      have kc := HKR.out.c 0 _ rfl
      have HZ := Lib.hid (show wr.heap.size ≥ g5 + 1 by have h1 := HT.out.size; have h2 := HS3.out; omega)
      go_wp2_with (first
        | (go_at_call 38; refine HCL.out.mono ?_; rintro e w5 ⟨A5, k5, rfl, ho5, hb5⟩; have HO5 := Lib.hid ho5; have HB5 := Lib.hid hb5; have HG := Lib.hid (show Gone w5 g5 g4 (inL l) from (show Gone wr g5 g4 (inL l) from ⟨HVR.out, j, D, HM.out, HDA.out⟩).below hb5); clear ho5 hb5)
        | (go_at_call 56; refine (deleteW_any g5 (fun y => inL l (y.x : Int)) Q A5 n k5 wr.heap.size HN.out (by omega) w5 HO5.out HB5.out.size (fun V hV y hy => drop1_any g5 g4 (inL l) y (by have := (HLG.out.may y hy).x; omega) V (HG.out.turn hV (by have := HZ.out; omega) (by have h1 := HZ.out; have h2 := HG4.out; have h3 := HG5.out; omega)))).mono ?_; rintro e w6 ⟨A6, n6, k6, rfl, ho6, hb6⟩; have HO6 := Lib.hid ho6; have HB6 := Lib.hid (HB5.out.trans hb6); have HR6 := Lib.hid (show Qb w6 (w.heap.size + 1) none 0 0 from HRR.out.below (HB5.out.trans hb6)); clear ho6 hb6)
        | (refine wpList_store_queue rfl _ _ rfl rfl rfl HR6.out ?_; intro w7 hk7 hg7; have HK7 := Lib.hid hk7; have HG7 := Lib.hid hg7; clear hk7 hg7)
        | fail)
      refine bodyPost_ret (results_queue rfl _ rfl HK7.out) rfl ?_
      have h8 := HO6.out.turn (S := fun q => q = w.heap.size + 1) ((Turn.refl _ w6).grown HG7.out (fun q e => by injection e with e; exact .inl e.symm)) (fun q e h => by have h1 := (HO6.out.lt q e).1; have h2 := HZ.out; have h3 := HG5.out; omega)
      have h9 : Below w.heap.size w w6 := HBR.out.trans (HB6.out.mono HBR.out.size)
      exact ⟨A6, n6, k6, rfl, by rw [dropL_eq]; exact Rk.Own.le (b := w.heap.size) h8 HBR.out.size, h9.grown HG7.out h9.size (fun q e => by injection e with e; omega)⟩
end Go.Proofs.YtbokhhialfbjcaaGreat
