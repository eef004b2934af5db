/-
  The document's Sum and Reach.
-/
import Derived.Test.YtpphhhalmccnbaaRw
import Derived.Test.YtpphhhalmccnbaaSr
namespace Go.Proofs.Ytpphhhalmccnbaa
set_option maxRecDepth 100000
set_option linter.unusedVariables false
set_option linter.unusedSimpArgs false
open Go.RowKit

set_option maxHeartbeats 1000000 in
theorem refsum_any (A : Option Addr) (n c : Nat) (l : List Int) (w : World) (hl : Ls w A n l) :
    Calls Try.prog 36 #[.slice A n c] w fun e w' => e = .returned (.tuple #[.int .i64 (sumV l), .int .i64 (sumE l)]) ∧ Below w.heap.size w w' := by
  rcases Nat.lt_or_ge 4096 n with hbig | hfew
  · have hd : decide ((4096 : Int) < (n : Int)) = true := decide_eq_true (by omega)
    have hd2 : decide (4096 < n) = true := decide_eq_true hbig
    have HV := Lib.hid (sumV_many (l := l) (by rw [hl.len]; exact hbig))
    have HE := Lib.hid (sumE_many (l := l) (by rw [hl.len]; exact hbig))
    clear hl
    rw [HV.out, HE.out]
    go_enter Try.func36, Try.ntmps36
    go_wp2_with fail
    go_ret2
    exact ⟨rfl, Below.refl _ _⟩
  · have hd : decide ((4096 : Int) < (n : Int)) = false := decide_eq_false (by omega)
    have hd2 : decide (4096 < n) = false := decide_eq_false (by omega)
    have HV := Lib.hid (sumV_few (l := l) (by rw [hl.len]; exact hfew))
    have HE := Lib.hid (sumE_few (l := l) (by rw [hl.len]; exact hfew))
    have HL := Lib.hid hl
    have HF := Lib.hid (sum_ok hl.ok hl.len hfew)
    have HX := Lib.hid (show Bk (w.alloc (.cells #[.int .i64 0, .int .i64 0] 116)) w.heap.size (rwC (sumI (l.take 0))) 116 from Bk.new w (rwC 0) 116)
    have HB := Lib.hid (below_new w (.cells #[.int .i64 0, .int .i64 0] 116))
    have h1 := reftold_any (sumI l)
    clear hl
    rw [HV.out, HE.out]
    go_enter Try.func36, Try.ntmps36
    go_wp2_with fail
    go_loopw [5] (fun u wr => ∃ j : Nat, u = .int .i64 (j : Int) ∧ j ≤ n ∧ Hid (Bk wr w.heap.size (rwC (sumI (l.take j))) 116) ∧ Hid (Below w.heap.size w wr)) (fun u _ => n - (intOf u).toNat)
    case atStart => exact ⟨0, rfl, Nat.zero_le _, HX, HB⟩
    case round =>
      obtain ⟨j, rfl, hj, HXj, HBj⟩ := hrel
      rcases Nat.lt_or_ge j n with hlt | hge
      · obtain ⟨b, o, rfl, hb, hz, hget, hc⟩ := HL.out.get hlt
        have HS := Lib.hid (sumI_take_succ hget)
        have HCZ := Lib.hid ((HBj.out.cell (p := ⟨b, o + j, none⟩) hb).trans hc)
        have HBL := Lib.hid hb
        generalize l.getD j 0 = z at *
        have hp1 := refof_any z
        have hp2 := refplus_any (sumI (l.take j)) z (HF.out j) (okI.far hz)
        rw [← HS.out] at hp2
        have hd3 : decide ((j : Int) < (n : Int)) = true := decide_eq_true (by omega)
        have hd4 : decide (j < n) = true := decide_eq_true hlt
        have hi1 : (j : Int) < (n : Int) := by omega
        have HXd := Lib.hid (HXj.out.below (V := World.drew wr) ((Below.refl _ _).drew))
        have HBd := Lib.hid (HBj.out.drew)
        have cz : ∀ V, Turn (fun q => q = w.heap.size) wr V → V.cell? ⟨b, o + j, none⟩ = some (.int .i64 z) := fun V hV => hV.cell HCZ.out (by show ¬ b = w.heap.size; have := HBL.out; omega)
        have x0 := HXd.out.r0
        have x1 := HXd.out.r1
        clear hc hget hb hz
        generalize sumI (l.take j) = s0 at *
        generalize hs1 : sumI (l.take (j + 1)) = s1 at *
        have HS1 := Lib.hid hs1
        clear hs1
        go_upto_region 7 with fail
        refine wp_region_turn (X := (fun q => q = w.heap.size)) (by kernel_rfl) ?_
        have hS : Turn (fun q => q = w.heap.size) wr (World.drew wr) := (Turn.refl _ _).drew
        refine wpAnyH_take (i := 1) (oi := ⟨some 17, _, _, _, _, _⟩) (v := ?_) rfl (by kernel_rfl) (by kernel_rfl) (by kernel_rfl) (fun _ _ _ h => h) (Or.inl ⟨by rfl, ?_⟩) hS ?_
        rotate_left
        · intro W hW; go_simp; with_reducible rfl
        try simp only [Act.put, List.setIfInBounds_toArray, List.set_cons_zero, List.set_cons_succ]
        refine wpAnyH_take (i := 2) (oi := ⟨some 18, _, _, _, _, _⟩) (v := ?_) rfl (by kernel_rfl) (by kernel_rfl) (by kernel_rfl) (fun _ _ _ h => h) (Or.inl ⟨by rfl, ?_⟩) hS ?_
        rotate_left
        · intro W hW; go_simp; with_reducible rfl
        try simp only [Act.put, List.setIfInBounds_toArray, List.set_cons_zero, List.set_cons_succ]
        refine wpAnyH_take (i := 3) (oi := ⟨some 19, _, _, _, _, _⟩) (v := ?_) rfl (by kernel_rfl) (by kernel_rfl) (by kernel_rfl) (fun _ _ _ h => h) (Or.inl ⟨by rfl, ?_⟩) hS ?_
        rotate_left
        · intro W hW; go_simp; with_reducible rfl
        try simp only [Act.put, List.setIfInBounds_toArray, List.set_cons_zero, List.set_cons_succ]
        refine wpAnyH_take (i := 4) (oi := ⟨some 20, _, _, _, _, _⟩) (v := ?_) rfl (by kernel_rfl) (by kernel_rfl) (by kernel_rfl) (fun _ _ _ h => h) (Or.inl ⟨by rfl, ?_⟩) hS ?_
        rotate_left
        · intro W hW; go_simp; with_reducible rfl
        try simp only [Act.put, List.setIfInBounds_toArray, List.set_cons_zero, List.set_cons_succ]
        refine wpAnyH_ready (rs := [0, 5]) (by kernel_rfl) (by simp) ?_
        refine AllReadyH.cons (o := ⟨some 16, _, _, _, _, _⟩) rfl (fun Kr hKr => ?_) (AllReadyH.cons (o := ⟨some 21, _, _, _, _, _⟩) rfl (fun Kr hKr => ?_) AllReadyH.nil)
        · skip
          -- operation 0: a step
          go_simp
          show Kr _ _
          refine hKr.out _ _ ?_ (fun _ => ?_)
          · exact hS
          clear hKr Kr
          try simp only [Act.put, List.setIfInBounds_toArray, List.set_cons_zero, List.set_cons_succ]
          refine wpAnyH_ready (rs := [5]) (by kernel_rfl) (by simp) ?_
          refine AllReadyH.cons (o := ⟨some 21, _, _, _, _, _⟩) rfl (fun Kr hKr => ?_) AllReadyH.nil
          -- operation 5: a call
          go_simp
          refine (hp1 _).mono ?_
          rintro e w2 ⟨rfl, hb2⟩
          show Kr _ _
          refine hKr.out _ _ ?_ (fun _ => ?_)
          · exact Turn.trans hS (Turn.ofBelow hb2)
          clear hKr Kr
          replace hS : Turn (fun q => q = w.heap.size) wr w2 := Turn.trans hS (Turn.ofBelow hb2)
          have HX2 := Lib.hid (HXd.out.below hb2)
          have x2 := HX2.out.r0
          have x3 := HX2.out.r1
          try simp only [Act.put, List.setIfInBounds_toArray, List.set_cons_zero, List.set_cons_succ]
          refine wpAnyH_ready (rs := [6]) (by kernel_rfl) (by simp) ?_
          refine AllReadyH.cons (o := ⟨some 22, _, _, _, _, _⟩) rfl (fun Kr hKr => ?_) AllReadyH.nil
          -- operation 6: a call
          go_simp
          refine (hp2 _).mono ?_
          rintro e w3 ⟨rfl, hb3⟩
          show Kr _ _
          refine hKr.out _ _ ?_ (fun _ => ?_)
          · exact Turn.trans hS (Turn.ofBelow hb3)
          clear hKr Kr
          replace hS : Turn (fun q => q = w.heap.size) wr w3 := Turn.trans hS (Turn.ofBelow hb3)
          try simp only [Act.put, List.setIfInBounds_toArray, List.set_cons_zero, List.set_cons_succ]
          refine wpAnyH_ready (rs := [7]) (by kernel_rfl) (by simp) ?_
          refine AllReadyH.cons (o := ⟨none, _, _, _, _, _⟩) rfl (fun Kr hKr => ?_) AllReadyH.nil
          -- operation 7: a step
          refine wp_store_bk 116 _ _ rfl w.heap.size (rwC s1) rfl rfl 116 (rwC s0) (HX2.out.below hb3) (by kernel_rfl) rfl (by simp [Value.oneCell']) ?_
          intro w9 hk9 hg9
          show Kr _ _
          refine hKr.out _ _ ?_ (fun _ => ?_)
          · exact Turn.trans hS (Turn.grown (Turn.refl _ _) hg9 (fun j e => by injection e with e; exact .inl e.symm))
          clear hKr Kr
          replace hS : Turn (fun q => q = w.heap.size) wr w9 := Turn.trans hS (Turn.grown (Turn.refl _ _) hg9 (fun j e => by injection e with e; exact .inl e.symm))
          try simp only [Act.put, List.setIfInBounds_toArray, List.set_cons_zero, List.set_cons_succ]
          refine wpAnyH_done (by kernel_rfl) ?_ _
          go_wp2_with fail
          have HBr := Lib.hid (Below.grown ((HBd.out.trans (hb2.mono HBd.out.size)).trans (hb3.mono (HBd.out.trans (hb2.mono HBd.out.size)).size)) hg9 ((HBd.out.trans (hb2.mono HBd.out.size)).trans (hb3.mono (HBd.out.trans (hb2.mono HBd.out.size)).size)).size (fun q e => by injection e with e; omega))
          exact ⟨⟨j + 1, rfl, hlt, by rw [HS1.out]; exact Lib.hid hk9, HBr⟩, by simp [intOf]; omega⟩
        · skip
          -- operation 5: a call
          go_simp
          refine (hp1 _).mono ?_
          rintro e w2 ⟨rfl, hb2⟩
          show Kr _ _
          refine hKr.out _ _ ?_ (fun _ => ?_)
          · exact Turn.trans hS (Turn.ofBelow hb2)
          clear hKr Kr
          replace hS : Turn (fun q => q = w.heap.size) wr w2 := Turn.trans hS (Turn.ofBelow hb2)
          have HX2 := Lib.hid (HXd.out.below hb2)
          have x2 := HX2.out.r0
          have x3 := HX2.out.r1
          try simp only [Act.put, List.setIfInBounds_toArray, List.set_cons_zero, List.set_cons_succ]
          refine wpAnyH_ready (rs := [0]) (by kernel_rfl) (by simp) ?_
          refine AllReadyH.cons (o := ⟨some 16, _, _, _, _, _⟩) rfl (fun Kr hKr => ?_) AllReadyH.nil
          -- operation 0: a step
          go_simp
          show Kr _ _
          refine hKr.out _ _ ?_ (fun _ => ?_)
          · exact hS
          clear hKr Kr
          try simp only [Act.put, List.setIfInBounds_toArray, List.set_cons_zero, List.set_cons_succ]
          refine wpAnyH_ready (rs := [6]) (by kernel_rfl) (by simp) ?_
          refine AllReadyH.cons (o := ⟨some 22, _, _, _, _, _⟩) rfl (fun Kr hKr => ?_) AllReadyH.nil
          -- operation 6: a call
          go_simp
          refine (hp2 _).mono ?_
          rintro e w3 ⟨rfl, hb3⟩
          show Kr _ _
          refine hKr.out _ _ ?_ (fun _ => ?_)
          · exact Turn.trans hS (Turn.ofBelow hb3)
          clear hKr Kr
          replace hS : Turn (fun q => q = w.heap.size) wr w3 := Turn.trans hS (Turn.ofBelow hb3)
          try simp only [Act.put, List.setIfInBounds_toArray, List.set_cons_zero, List.set_cons_succ]
          refine wpAnyH_ready (rs := [7]) (by kernel_rfl) (by simp) ?_
          refine AllReadyH.cons (o := ⟨none, _, _, _, _, _⟩) rfl (fun Kr hKr => ?_) AllReadyH.nil
          -- operation 7: a step
          refine wp_store_bk 116 _ _ rfl w.heap.size (rwC s1) rfl rfl 116 (rwC s0) (HX2.out.below hb3) (by kernel_rfl) rfl (by simp [Value.oneCell']) ?_
          intro w9 hk9 hg9
          show Kr _ _
          refine hKr.out _ _ ?_ (fun _ => ?_)
          · exact Turn.trans hS (Turn.grown (Turn.refl _ _) hg9 (fun j e => by injection e with e; exact .inl e.symm))
          clear hKr Kr
          replace hS : Turn (fun q => q = w.heap.size) wr w9 := Turn.trans hS (Turn.grown (Turn.refl _ _) hg9 (fun j e => by injection e with e; exact .inl e.symm))
          try simp only [Act.put, List.setIfInBounds_toArray, List.set_cons_zero, List.set_cons_succ]
          refine wpAnyH_done (by kernel_rfl) ?_ _
          go_wp2_with fail
          have HBr := Lib.hid (Below.grown ((HBd.out.trans (hb2.mono HBd.out.size)).trans (hb3.mono (HBd.out.trans (hb2.mono HBd.out.size)).size)) hg9 ((HBd.out.trans (hb2.mono HBd.out.size)).trans (hb3.mono (HBd.out.trans (hb2.mono HBd.out.size)).size)).size (fun q e => by injection e with e; omega))
          exact ⟨⟨j + 1, rfl, hlt, by rw [HS1.out]; exact Lib.hid hk9, HBr⟩, by simp [intOf]; omega⟩
      · obtain rfl : j = n := by omega
        have hd3 : decide ((j : Int) < (j : Int)) = false := decide_eq_false (by omega)
        have hd4 : decide (j < j) = false := decide_eq_false (by omega)
        have hlj : l.take j = l := List.take_of_length_le (by rw [HL.out.len]; exact Nat.le_refl _)
        rw [hlj] at HXj
        have x0 := HXj.out.r0
        have x1 := HXj.out.r1
        go_wp2_with fail
        refine (h1 _).mono ?_
        rintro e w2 ⟨rfl, hb2⟩
        have HB2 := Lib.hid (HBj.out.trans (hb2.mono HBj.out.size))
        clear hb2 h1 x0 x1
        go_wp2_with fail
        go_ret2
        exact ⟨rfl, HB2.out⟩

end Go.Proofs.Ytpphhhalmccnbaa
