/-
  The document's Undo.
-/
import Derived.Test.YtpphhhalmccnbaaUf
namespace Go.Proofs.Ytpphhhalmccnbaa
set_option maxRecDepth 100000
set_option linter.unusedVariables false
set_option linter.unusedSimpArgs false
open Go.RowKit

theorem undoL_le {sel : En → Bool} {P : List Pe} : (undoL sel P).length ≤ P.length := by have := undoL_len (sel := sel) (P := P); omega
theorem from_le {P : List Pe} {i : Nat} : (fromO P i).length ≤ P.length := List.length_filter_le ..
set_option maxHeartbeats 4000000 in
theorem refundo_any (A : Option Addr) (n a : Nat) (l : List En) (P : List Pe) (B : Option Addr) (m b : Nat) (T : List Int) (hP : openO l = some P) (hn : n ≤ 900) (hm : m ≤ 1000) (hsp : l = [] ∨ Sp A) (w : World) (hl : EsAt REr w A n l) (hT : Ls w B m T) :
    Calls Try.prog 19 #[liV A n a, .slice B m b] w fun r w' => Below w.heap.size w w' ∧ ∃ A' n' a', r = .returned (liV A' n' a') ∧ EsAt REr w' A' n' (withU (amongE T) l P) := by
  have HL := Lib.hid hl
  have HT := Lib.hid hT
  have HP := Lib.hid hP
  have HSP := Lib.hid hsp
  have HX := Lib.hid ((Bk.new w (liC A n a) 24).al (.cells (liC none 0 0) 24))
  have HZ := Bk.new (w.alloc (.cells (liC A n a) 24)) (liC none 0 0) 24
  rw [size_al] at HZ
  have HZ := Lib.hid HZ
  have HB := Lib.hid (below_two (below_new w (.cells (liC A n a) 24)) (below_new _ (.cells (liC none 0 0) 24)))
  have HS := Lib.hid (show w.heap.size + 2 ≤ ((w.alloc (.cells (liC A n a) 24)).alloc (.cells (liC none 0 0) 24)).heap.size from by simp)
  have ho := fun V hV => refopen_any A n a l (by omega) V (HL.out.below hV)
  have hmg := fun x V hV => refamong_any x B m b T hm V (HT.out.below hV)
  have HPL := Lib.hid (show P.length ≤ 900 from by have := (open_fit hP).len; have := hl.len; omega)
  clear hl hP hT hsp
  have x0 := HX.out.c 0 _ rfl
  go_enter Try.func19, Try.ntmps19
  go_wp2_with fail
  refine (ho _ HB.out).mono ?_
  rintro r w2 ⟨hb2, g, rfl, hgo⟩
  have HX2 := Lib.hid (HX.out.below hb2)
  have HZ2 := Lib.hid (HZ.out.below hb2)
  have HB2 := Lib.hid (HB.out.trans (hb2.mono HB.out.size))
  have HS2 := Lib.hid (Nat.le_trans HS.out hb2.size)
  rw [opO_some HP.out] at hgo
  have HO := Lib.hid (hgo.le HS.out)
  have HGL := Lib.hid (show w.heap.size + 2 ≤ g ∧ g < w2.heap.size from ⟨Nat.le_trans HS.out (hgo.lt g rfl).1, (hgo.lt g rfl).2⟩)
  have HL2 := Lib.hid (HL.out.below HB2.out)
  clear ho x0 hb2 hgo HX HZ
  have x0 := HX2.out.c 0 _ rfl
  have x1 := (HX2.out.al (.cells #[] 73)).c 0 _ rfl
  have hw0 : IntKind.i64.wrap ((n : Int) - 1) = (n : Int) - 1 := by rw [IntKind.wrap_i64]; omega
  go_wp2_with (first
    | (at_builtin; refine Rk.wpList_append2 re_okr rfl (.tmp 12) (.tmp 14) rfl w2.heap.size (.slice (some ⟨w2.heap.size, 0, none⟩) 0 0) [] l rfl (own_litE w2 _ (Nat.le_refl _)) A n a rfl (HL2.out.at'.below (below_new w2 _)) HL2.out.len HSP.out (by rw [HL2.out.len, List.length_nil]; omega) (by simp) ?_; intro v5 w5 hx1 hg1 ha1; have HO5 := Lib.hid hx1; have HB5 := Lib.hid (show Below w2.heap.size w2 w5 from Below.grown (below_new w2 _) hg1 (by simp) (fun k e => by have e : some w2.heap.size = some k := e; injection e with e; omega)); have HX5 := Lib.hid (HX2.out.below HB5.out); have HZ5 := Lib.hid (HZ2.out.below HB5.out); have HB6 := Lib.hid (HB2.out.trans (HB5.out.mono HB2.out.size)); have HS5 := Lib.hid HB5.out.size; have HOb := Lib.hid (HO.out.below HB5.out); have x5 := HX5.out.c 0 _ rfl; clear hx1 hg1 ha1)
    | fail)
  rw [List.nil_append] at HO5
  clear x0 x1 x5
  go_loopw [6, 7, 8] (fun v u _ wr => ∃ i : Nat, u = .int .i64 ((i : Int) - 1) ∧ i ≤ n ∧ Hid (REr.Own wr w2.heap.size v (l ++ undoL (amongE T) (fromO P i))) ∧ Hid (RL.Own wr (w.heap.size + 2) (.slice (some ⟨g, 0, none⟩) n n) (isO n P)) ∧ Hid (Bk wr w.heap.size (liC A n a) 24) ∧ Hid (Bk wr (w.heap.size + 1) (liC none 0 0) 24) ∧ Hid (Below w.heap.size w wr) ∧ Hid (w2.heap.size ≤ wr.heap.size)) (fun _ u _ _ => (intOf u + 1).toNat)
  case atStart =>
    refine ⟨n, rfl, Nat.le_refl _, ?_, HOb, HX5, HZ5, HB6, HS5⟩
    have h := fromO_all (open_fit HP.out)
    rw [HL.out.len] at h
    rw [h]
    show REr.Own _ _ _ (l ++ [])
    rw [List.append_nil]; exact HO5.out
  case round =>
    obtain ⟨i, rfl, hi, HVi, HOi, HXi, HZi, HBi, HSi⟩ := hrel
    have x0 := HXi.out.c 0 _ rfl
    rcases Nat.eq_zero_or_pos i with hz | hpos
    · subst hz
      have hd4 : decide (((0 : Nat) : Int) - 1 ≥ 0) = false := by decide
      have z0 : wr.cell? ⟨w.heap.size + 1, 0, none⟩ = some (.slice none 0 0) := HZi.out.c 0 _ rfl
      have f0 := HZi.out.fr 0
      rw [fromO_zero] at HVi
      obtain ⟨n8, hn8⟩ : ∃ n8, (l ++ undoL (amongE T) P).length = n8 := ⟨_, rfl⟩
      obtain ⟨A8, c8, rfl⟩ := own_slice re_okr HVi.out hn8
      have HZL := Lib.hid HZi.out.lt
      have HOK := Lib.hid (show ∀ e ∈ withU (amongE T) l P, e.Ok from fun e he => by
        rcases List.mem_append.mp he with he | he
        · exact HL.out.ok e he
        · unfold undoL at he
          obtain ⟨p, hp, rfl⟩ := List.mem_map.mp he
          rw [List.mem_reverse, List.mem_filter] at hp
          exact En.neg_ok (HL.out.ok _ (List.mem_of_getElem? ((open_fit HP.out).at' p hp.1))))
      have HES := Lib.hid (own_es re_okr HVi.out HOK.out)
      have HAG := Lib.hid (fun q o (e : A8 = some ⟨q, o, none⟩) => (HVi.out.lt q (by rw [e]; rfl)).1)
      go_wp2_with fail
      refine bodyPost_ret (v := liV A8 n8 c8) (by rw [results_cell_one rfl]; go_simp; first | done | exact ⟨rfl, rfl⟩) rfl ⟨HBi.out.setCell (show w.heap.size ≤ (⟨w.heap.size + 1, 0, none⟩ : Addr).block from by show _ ≤ w.heap.size + 1; omega) _, A8, n8, c8, rfl, HES.out.turn ((Turn.refl (fun q => q = w.heap.size + 1) wr).setCell _ _ (.inl rfl)) (fun q o e h => by have := HAG.out q o e; have := HS2.out; omega)⟩
    · obtain ⟨j, rfl⟩ : ∃ j, i = j + 1 := ⟨i - 1, by omega⟩
      have hj1 : ((j + 1 : Nat) : Int) - 1 = (j : Int) := by omega
      simp only [hj1]
      have hlt : j < n := by omega
      obtain ⟨b2, o, hA, hbl, hok, hget, h0, h1, h2, h3⟩ := HL.out.er hlt
      subst hA
      have c0 := (HBi.out.cell (p := ⟨b2, o + j * 4, none⟩) hbl).trans h0
      have c1 := (HBi.out.cell (p := ⟨b2, o + j * 4 + 1, none⟩) hbl).trans h1
      have c2 := (HBi.out.cell (p := ⟨b2, o + j * 4 + 2, none⟩) hbl).trans h2
      have c3 := (HBi.out.cell (p := ⟨b2, o + j * 4 + 3, none⟩) hbl).trans h3
      have HUP := Lib.hid (undoL_pred (amongE T) (open_fit HP.out) hget)
      have HOKE := Lib.hid hok
      have HLN := Lib.hid (show (l ++ undoL (amongE T) (fromO P (j + 1))).length ≤ 2000 from by rw [List.length_append]; have h1 := undoL_le (sel := amongE T) (P := fromO P (j + 1)); have h2 := from_le (P := P) (i := j + 1); have := HPL.out; have := HL.out.len; omega)
      have HAC := Lib.hid (show l ++ undoL (amongE T) (fromO P j) = (l ++ undoL (amongE T) (fromO P (j + 1))) ++ (if decide (j ∈ plO P) && amongE T (l.getD j enD) then [(l.getD j enD).neg] else []) from by rw [HUP.out, List.append_assoc])
      clear HUP
      generalize l ++ undoL (amongE T) (fromO P (j + 1)) = acc at *
      generalize l.getD j enD = e at *
      obtain ⟨t2, c, bb, u⟩ := e
      simp only at c0 c1 c2 c3 HAC
      have hd4 : decide ((j : Int) ≥ 0) = true := decide_eq_true (by omega)
      have hd5 : decide (j < n) = true := decide_eq_true hlt
      have hi1 : (j : Int) < (n : Int) := by omega
      have hw1 : IntKind.i64.wrap ((j : Int) - 1) = (j : Int) - 1 := by rw [IntKind.wrap_i64]; omega
      have hwn : IntKind.i64.wrap (-bb) = wneg bb := wrap_neg HOKE.out.b
      clear h0 h1 h2 h3 hbl hok hget
      go_upto_region 7 with fail
      have hbw := below_new wr (.cells (etC ⟨t2, c, bb, u⟩) 73)
      have HKk := Lib.hid (Bk.new wr (etC ⟨t2, c, bb, u⟩) 73)
      have HVk := Lib.hid (HVi.out.below hbw)
      have HOk := Lib.hid (HOi.out.below hbw)
      have HXk := Lib.hid (HXi.out.below hbw)
      have HZk := Lib.hid (HZi.out.below hbw)
      have HBk := Lib.hid (HBi.out.trans (hbw.mono HBi.out.size))
      have HSk := Lib.hid (Nat.le_trans HSi.out hbw.size)
      have HGK := Lib.hid HSi.out
      have HVL := Lib.hid (fun k (e : u6.ownBlock = some k) => HVi.out.lt k e)
      clear hbw c0 c1 c2 c3 x0 HVi HOi HXi HZi HBi HSi
      generalize wr.heap.size = gk at *
      generalize wr.alloc (.cells #[.int .i64 t2, .int .i64 c, .int .i64 bb, .bool u] 73) = wk at *
      have g0 := own_bool HOk.out (i := j) (by rw [isO_len]; exact hlt)
      rw [isO_getD hlt] at g0
      have k0 : wk.cell? ⟨gk, 0, none⟩ = some (.int .i64 t2) := HKk.out.c 0 _ rfl
      by_cases hp : j ∈ plO P
      · rw [decide_eq_true hp] at g0
        rw [decide_eq_true hp, Bool.true_and] at HAC
        clear hp
        go_wp2_with fail
        refine (hmg t2 _ HBk.out).mono ?_
        rintro r w4 ⟨rfl, hb⟩
        have HK4 := Lib.hid (HKk.out.below hb)
        have HV4 := Lib.hid (HVk.out.below hb)
        have HO4 := Lib.hid (HOk.out.below hb)
        have HX4 := Lib.hid (HXk.out.below hb)
        have HZ4 := Lib.hid (HZk.out.below hb)
        have HB4 := Lib.hid (HBk.out.trans (hb.mono HBk.out.size))
        have HS4 := Lib.hid (Nat.le_trans HSk.out hb.size)
        clear hb g0 k0
        by_cases ht : t2 ∈ T
        · have hd6 : decide (t2 ∈ T) = true := decide_eq_true ht
          rw [if_pos (show amongE T ⟨t2, c, bb, u⟩ = true from decide_eq_true ht)] at HAC
          rw [hd6]
          have k0 : w4.cell? ⟨gk, 0, none⟩ = some (.int .i64 t2) := HK4.out.c 0 _ rfl
          have k1 : w4.cell? ⟨gk, 1, none⟩ = some (.int .i64 c) := HK4.out.c 1 _ rfl
          have k2 : w4.cell? ⟨gk, 2, none⟩ = some (.int .i64 bb) := HK4.out.c 2 _ rfl
          clear ht
          go_wp2_with (first
            | (at_builtin; refine Rk.wpList_append re_okr rfl (.tmp 39) (.tmp 48) rfl w2.heap.size u6 acc [(⟨t2, c, bb, u⟩ : En).neg] rfl (HV4.out.below (below_new w4 (.cells (etC (⟨t2, c, bb, u⟩ : En).neg) 73))) _ 1 1 rfl (en_at w4 (⟨t2, c, bb, u⟩ : En).neg) rfl (.inr ⟨_, _, rfl⟩) (by have := HLN.out; rw [List.length_singleton]; omega) (Nat.le_trans HS4.out (below_new w4 _).size) ?_; intro v7 w7 hx1 hg1 ha1; have HO7 := Lib.hid hx1; have HG7 := Lib.hid hg1; clear hx1 hg1 ha1)
            | fail)
          have hnX : ∀ k, k < w2.heap.size → some k ≠ u6.ownBlock := fun k hk e => by have := (HVL.out k e.symm).1; omega
          exact ⟨⟨j, rfl, by omega, by rw [HAC.out]; exact HO7, Lib.hid (HO4.out.turn (((Turn.refl (fun q => u6.ownBlock = some q) w4).alloc (.cells (etC (⟨t2, c, bb, u⟩ : En).neg) 73)).grown HG7.out (fun q e => .inl e)) (fun k e h => by injection e with e; have e : g = k := e; have := (HVL.out k h).1; have := HGL.out.2; omega)), Lib.hid ((HX4.out.al _).far HG7.out (hnX _ (by have := HS2.out; omega))), Lib.hid ((HZ4.out.al _).far HG7.out (hnX _ (by have := HS2.out; omega))), Lib.hid (Below.grown (HB4.out.trans ((below_new w4 _).mono HB4.out.size)) HG7.out (Nat.le_trans HB4.out.size (below_new w4 _).size) (fun q e => by have h := (HVL.out q e).1; have := HB2.out.size; omega)), Lib.hid (Nat.le_trans HS4.out (Nat.le_trans (below_new w4 _).size HG7.out.size))⟩, by simp [intOf] <;> omega⟩
        · have hd6 : decide (t2 ∈ T) = false := decide_eq_false ht
          rw [if_neg (show ¬ amongE T ⟨t2, c, bb, u⟩ = true from by show ¬ decide (t2 ∈ T) = true; rw [hd6]; simp)] at HAC
          rw [hd6]
          clear ht
          go_wp2_with fail
          exact ⟨⟨j, rfl, by omega, by rw [HAC.out]; simpa using HV4, HO4, HX4, HZ4, HB4, HS4⟩, by simp [intOf] <;> omega⟩
      · rw [decide_eq_false hp] at g0
        rw [decide_eq_false hp, Bool.false_and] at HAC
        clear hp
        go_wp2_with fail
        exact ⟨⟨j, rfl, by omega, by rw [HAC.out]; simpa using HVk, HOk, HXk, HZk, HBk, HSk⟩, by simp [intOf] <;> omega⟩
end Go.Proofs.Ytpphhhalmccnbaa
