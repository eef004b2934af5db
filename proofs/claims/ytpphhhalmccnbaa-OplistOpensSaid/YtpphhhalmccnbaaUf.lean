/-
  The document's Open.
-/
import Derived.Test.YtpphhhalmccnbaaUe
namespace Go.Proofs.Ytpphhhalmccnbaa
set_option maxRecDepth 100000
set_option linter.unusedVariables false
set_option linter.unusedSimpArgs false
open Go.RowKit

theorem pickO_len {sel : En → Bool} {P : List Pe} : (pickO sel P).length ≤ P.length := by unfold pickO; rw [List.length_map]; exact List.length_filter_le ..
set_option maxHeartbeats 4000000 in
theorem refopent_any (A : Option Addr) (n a : Nat) (l : List En) (P : List Pe) (t : Int) (hP : openO l = some P) (hn : n ≤ 1000) (w : World) (hl : EsAt REr w A n l) :
    Calls Try.prog 21 #[liV A n a, .int .i64 t] w fun r w' => ∃ v, r = .returned v ∧ REr.Own w' (w.heap.size + 1) v (openT P t) ∧ Below w.heap.size w w' ∧ w.heap.size + 1 ≤ w'.heap.size := by
  have HL := Lib.hid hl
  have HP := Lib.hid hP
  have HX := Lib.hid (Bk.new w (liC A n a) 24)
  have HB := Lib.hid (below_new w (.cells (liC A n a) 24))
  have HS := Lib.hid (show w.heap.size + 1 ≤ (w.alloc (.cells (liC A n a) 24)).heap.size from by simp)
  have ho := fun V hV => refopen_any A n a l hn V (HL.out.below hV)
  have HPL := Lib.hid (show P.length ≤ 1000 from by have := (open_fit hP).len; have := hl.len; omega)
  clear hl hP
  have x0 := HX.out.c 0 _ rfl
  go_enter Try.func21, Try.ntmps21
  go_wp2_with fail
  refine (ho _ HB.out).mono ?_
  rintro r w2 ⟨hb2, g, rfl, hgo⟩
  have HX2 := Lib.hid (HX.out.below hb2)
  have HB2 := Lib.hid (HB.out.trans (hb2.mono HB.out.size))
  have HS2 := Lib.hid (Nat.le_trans HS.out hb2.size)
  rw [opO_some HP.out] at hgo
  have HO := Lib.hid (hgo.le HS.out)
  have HGL := Lib.hid (show w.heap.size + 1 ≤ g ∧ g < w2.heap.size from ⟨Nat.le_trans HS.out (hgo.lt g rfl).1, (hgo.lt g rfl).2⟩)
  clear ho x0 hb2 hgo
  go_wp2_with fail
  go_loopw [6, 7] (fun v u wr => ∃ i : Nat, u = .int .i64 (i : Int) ∧ i ≤ n ∧ Hid (REr.Own wr w2.heap.size v (pickO (fun e => decide (e.t = t)) (uptoO P i))) ∧ Hid (RL.Own wr (w.heap.size + 1) (.slice (some ⟨g, 0, none⟩) n n) (isO n P)) ∧ Hid (Bk wr w.heap.size (liC A n a) 24) ∧ Hid (Below w.heap.size w wr) ∧ Hid (w2.heap.size ≤ wr.heap.size)) (fun _ u _ => n - (intOf u).toNat)
  case atStart => exact ⟨0, rfl, Nat.zero_le _, by rw [uptoO_zero]; exact Rk.Own.nil _ _ _, HO, HX2, HB2, Lib.hid (Nat.le_refl _)⟩
  case round =>
    obtain ⟨i, rfl, hi, HVi, HOi, HXi, HBi, HSi⟩ := hrel
    have x0 := HXi.out.c 0 _ rfl
    rcases Nat.lt_or_ge i n with hlt | hge
    · obtain ⟨b2, o, hA, hbl, hok, hget, h0, h1, h2, h3⟩ := HL.out.er hlt
      subst hA
      have c0 := (HBi.out.cell (p := ⟨b2, o + i * 4, none⟩) hbl).trans h0
      have c1 := (HBi.out.cell (p := ⟨b2, o + i * 4 + 1, none⟩) hbl).trans h1
      have c2 := (HBi.out.cell (p := ⟨b2, o + i * 4 + 2, none⟩) hbl).trans h2
      have c3 := (HBi.out.cell (p := ⟨b2, o + i * 4 + 3, none⟩) hbl).trans h3
      have HUP := Lib.hid (pickO_succ (fun e => decide (e.t = t)) (open_fit HP.out) hget)
      have g0 := own_bool HOi.out (i := i) (by rw [isO_len]; exact hlt)
      rw [isO_getD hlt] at g0
      have HLN := Lib.hid (show (pickO (fun e => decide (e.t = t)) (uptoO P i)).length ≤ 1000 from by have h1 := pickO_len (sel := fun e => decide (e.t = t)) (P := uptoO P i); have h2 := upto_le (P := P) (i := i); have := HPL.out; omega)
      generalize pickO (fun e => decide (e.t = t)) (uptoO P i) = acc at *
      generalize l.getD i enD = e at *
      obtain ⟨t2, c, b, u⟩ := e
      simp only at c0 c1 c2 c3 HUP
      have hd4 : decide ((i : Int) < (n : Int)) = true := decide_eq_true (by omega)
      have hd5 : decide (i < n) = true := decide_eq_true hlt
      have hi1 : (i : Int) < (n : Int) := by omega
      clear h0 h1 h2 h3 hbl hok hget
      by_cases hp : i ∈ plO P
      · rw [decide_eq_true hp] at g0
        rw [decide_eq_true hp, Bool.true_and] at HUP
        clear hp
        by_cases ht : t2 = t
        · have hq : (t2 == t) = true := by simpa using ht
          rw [decide_eq_true ht] at HUP
          clear ht
          go_wp2_with (first
            | (at_builtin; refine Rk.wpList_append re_okr rfl (.tmp 32) (.tmp 38) rfl w2.heap.size u6 acc [⟨t2, c, b, u⟩] rfl (HVi.out.below (below_new wr (.cells (etC ⟨t2, c, b, u⟩) 73))) _ 1 1 rfl (en_at wr ⟨t2, c, b, u⟩) rfl (.inr ⟨_, _, rfl⟩) (by have := HLN.out; rw [List.length_singleton]; omega) (Nat.le_trans HSi.out (below_new wr _).size) ?_; intro v7 w7 hx1 hg1 ha1; have HO7 := Lib.hid hx1; have HG7 := Lib.hid hg1; clear hx1 hg1 ha1)
            | fail)
          have HVL := Lib.hid (fun k (e : u6.ownBlock = some k) => (HVi.out.lt k e).1)
          have hnX : ∀ k, k < w2.heap.size → some k ≠ u6.ownBlock := fun k hk e => by have := HVL.out k e.symm; omega
          exact ⟨⟨i + 1, rfl, hlt, by rw [HUP.out]; exact HO7, Lib.hid (HOi.out.turn (((Turn.refl (fun q => u6.ownBlock = some q) wr).alloc (.cells (etC ⟨t2, c, b, u⟩) 73)).grown HG7.out (fun q e => .inl e)) (fun k e h => by injection e with e; have e : g = k := e; have := HVL.out k h; have := HGL.out.2; omega)), Lib.hid ((HXi.out.al _).far HG7.out (hnX _ (by have := HS2.out; omega))), Lib.hid (Below.grown (HBi.out.trans ((below_new wr _).mono HBi.out.size)) HG7.out (Nat.le_trans HBi.out.size (below_new wr _).size) (fun q e => by have h := HVL.out q e; have := HB2.out.size; omega)), Lib.hid (Nat.le_trans HSi.out (Nat.le_trans (below_new wr _).size HG7.out.size))⟩, by simp [intOf] <;> omega⟩
        · have hq : (t2 == t) = false := by simpa using ht
          rw [decide_eq_false ht] at HUP
          clear ht
          go_wp2_with fail
          exact ⟨⟨i + 1, rfl, hlt, by rw [HUP.out]; simpa using HVi, HOi, HXi, HBi, HSi⟩, by simp [intOf] <;> omega⟩
      · rw [decide_eq_false hp] at g0
        rw [decide_eq_false hp, Bool.false_and] at HUP
        clear hp
        go_wp2_with fail
        exact ⟨⟨i + 1, rfl, hlt, by rw [HUP.out]; simpa using HVi, HOi, HXi, HBi, HSi⟩, by simp [intOf] <;> omega⟩
    · obtain rfl : i = n := by omega
      have hd4 : decide ((i : Int) < (i : Int)) = false := decide_eq_false (by omega)
      have hd5 : decide (i < i) = false := decide_eq_false (by omega)
      go_wp2_with fail
      go_ret
      refine ⟨u6, rfl, ?_, HBi.out, by have := HS2.out; have := HSi.out; omega⟩
      have hall := uptoO_all (open_fit HP.out)
      rw [HL.out.len] at hall
      have h := HVi.out.le HS2.out
      rw [hall] at h
      rw [openT_pick]; exact h
end Go.Proofs.Ytpphhhalmccnbaa
