/-
  The document's side: which entries are undone, which are open.
-/
import Derived.Test.YtpphhhalmccnbaaUa
namespace Go.Proofs.Ytpphhhalmccnbaa
set_option maxRecDepth 100000
set_option linter.unusedVariables false
set_option linter.unusedSimpArgs false
open Go.RowKit

/-- one round of the search: why the k-th may not be the one -/
theorem good_no {l : List En} {P : List Pe} {i k : Nat} {e : En} {gl : Bool} (hg : (goneO l P i).getD k false = gl) (h : (l.getD k enD).u = true ∨ gl = true ∨ (l.getD k enD).t ≠ e.t ∨ (l.getD k enD).c ≠ e.c ∨ (l.getD k enD).b ≠ wneg e.b) : goodO l P i e k = false := by
  unfold goodO
  rw [hg]
  generalize l.getD k enD = x at *
  unfold En.hits
  rcases h with h | h | h | h | h <;> simp [h]
theorem good_yes {l : List En} {P : List Pe} {i k : Nat} {e : En} (hg : (goneO l P i).getD k false = false) (h1 : (l.getD k enD).u = false) (h2 : (l.getD k enD).t = e.t) (h3 : (l.getD k enD).c = e.c) (h4 : (l.getD k enD).b = wneg e.b) : goodO l P i e k = true := by
  unfold goodO
  rw [hg, h1]
  generalize l.getD k enD = x at *
  unfold En.hits
  simp [h2, h3, h4]
theorem openO_step {l : List En} {i : Nat} {e : En} {P : List Pe} (h : openO (l.take i) = some P) (he : l[i]? = some e) : openO (l.take (i + 1)) = stepO i e P := by rw [openO_take he, h, Option.bind_some]
theorem openO_no {l : List En} {i : Nat} {e : En} {P : List Pe} (h : openO (l.take i) = some P) (he : l[i]? = some e) (hs : stepO i e P = none) : openO l = none := openO_stuck (by rw [openO_step h he, hs])
theorem step_own {i : Nat} {e : En} {P : List Pe} (h : e.u = false) : stepO i e P = some (P ++ [(i, e)]) := by unfold stepO; rw [h]; rfl
theorem wrap_neg {x : Int} (h : okI x) : IntKind.i64.wrap (-x) = wneg x := by
  rw [IntKind.wrap_i64]; unfold okI at h; unfold wneg; split <;> omega

set_option maxHeartbeats 4000000 in
theorem refundone_any (A : Option Addr) (n a : Nat) (l : List En) (hn : n ≤ 1000) (w : World) (hl : EsAt REr w A n l) :
    Calls Try.prog 34 #[.slice A n a] w fun r w' => Below w.heap.size w w' ∧
      ((openO l = none ∧ r = .returned (.tuple #[.slice none 0 0, .bool false])) ∨ ∃ P g, openO l = some P ∧ r = .returned (.tuple #[.slice (some ⟨g, 0, none⟩) n n, .bool true]) ∧ RL.Own w' w.heap.size (.slice (some ⟨g, 0, none⟩) n n) (goneO l P n)) := by
  have HL := Lib.hid hl
  obtain ⟨w1, hmk, ho1, hb1⟩ := Rk.run_make rl_ok w n false rl_zero (by show 1 * n ≤ _; omega) (by omega)
  obtain ⟨g, hg⟩ : ∃ g, g = w.heap.size := ⟨_, rfl⟩
  rw [← hg] at hmk ho1
  replace hmk : (Instr.makeSlice 77 (.int .i64 (n : Int)) (.int .i64 (n : Int))).run Try.prog w = .ok (.slice (some ⟨g, 0, none⟩) n n) w1 := hmk
  have HG := Lib.hid hg
  have HO1 := Lib.hid (show RL.Own w1 g (.slice (some ⟨g, 0, none⟩) n n) (goneO l [] 0) from by rw [goneO_zero, hl.len]; exact ho1)
  have HB1 := Lib.hid hb1
  clear hl ho1 hb1 hg
  go_enter Try.func34, Try.ntmps34
  go_wp2_with fail
  clear hmk
  go_loopw [5] (fun u wr => ∃ (i : Nat) (P : List Pe), u = .int .i64 (i : Int) ∧ i ≤ n ∧ Hid (openO (l.take i) = some P) ∧ Hid (RL.Own wr g (.slice (some ⟨g, 0, none⟩) n n) (goneO l P i)) ∧ Hid (Below w.heap.size w wr)) (fun u _ => n - (intOf u).toNat)
  case atStart => exact ⟨0, [], rfl, Nat.zero_le _, Lib.hid rfl, HO1, HB1⟩
  case round =>
    obtain ⟨i, P, rfl, hi, HPi, HOi, HBi⟩ := hrel
    rcases Nat.lt_or_ge i n with hlt | hge
    · obtain ⟨b2, o, hA, hbl, hok, hget, h0, h1, h2, h3⟩ := HL.out.er hlt
      subst hA
      have HC0 := Lib.hid h0
      have HC1 := Lib.hid h1
      have HC2 := Lib.hid h2
      have c3 := (HBi.out.cell (p := ⟨b2, o + i * 4 + 3, none⟩) hbl).trans h3
      have HG2 := Lib.hid hget
      have HBL := Lib.hid hbl
      have HOK := Lib.hid hok
      generalize l.getD i enD = e at *
      obtain ⟨t, c, b, u⟩ := e
      simp only at HC0 HC1 HC2 c3
      have hd4 : decide ((i : Int) < (n : Int)) = true := decide_eq_true (by omega)
      have hd5 : decide (i < n) = true := decide_eq_true hlt
      have hi1 : (i : Int) < (n : Int) := by omega
      clear h0 h1 h2 h3 hbl hok hget
      cases u with
      | false =>
        have HP2 := Lib.hid (show openO (l.take (i + 1)) = some (P ++ [(i, ⟨t, c, b, false⟩)]) from by rw [openO_step HPi.out HG2.out, step_own rfl])
        have HO2 := Lib.hid (show RL.Own wr g (.slice (some ⟨g, 0, none⟩) n n) (goneO l (P ++ [(i, ⟨t, c, b, false⟩)]) (i + 1)) from by rw [goneO_done HG2.out rfl]; exact HOi.out)
        go_wp2_with fail
        exact ⟨⟨i + 1, _, rfl, hlt, HP2, HO2, HBi⟩, by simp [intOf]; omega⟩
      | true =>
        have hw1 : IntKind.i64.wrap ((i : Int) - 1) = (i : Int) - 1 := by rw [IntKind.wrap_i64]; omega
        go_wp2_with fail
        clear c3 hd4 hd5
        go_loopw [6] (fun v wq => ∃ k : Int, v = .int .i64 k ∧ -1 ≤ k ∧ k < (i : Int) ∧ Hid (∀ j : Nat, k < (j : Int) → j < i → goodO l P i ⟨t, c, b, true⟩ j = false) ∧ Hid (RL.Own wq g (.slice (some ⟨g, 0, none⟩) n n) (goneO l P i)) ∧ Hid (Below w.heap.size w wq)) (fun v _ => (intOf v + 1).toNat)
        case atStart => exact ⟨(i : Int) - 1, rfl, by omega, by omega, Lib.hid (fun j h1 h2 => by omega), HOi, HBi⟩
        case round =>
          obtain ⟨k, rfl, hk1, hk2, HNk, HOk, HBk⟩ := hrel
          rcases Int.lt_or_le k 0 with hneg | hpos
          · have hd4 : decide (k ≥ 0) = false := decide_eq_false (by omega)
            have hd5 : decide (k < 0) = true := decide_eq_true hneg
            have HNO := Lib.hid (openO_no HPi.out HG2.out (step_lost (open_fit HPi.out) (by have := HL.out.len; omega) rfl fun j hj => HNk.out j (by omega) hj))
            go_upto_region 7 with (fail)
            go_quiet (fail)
            go_wp2_with fail
            go_ret2
            exact ⟨below_drewN HBk.out _, .inl ⟨HNO.out, rfl⟩⟩
          · obtain ⟨q, rfl⟩ := Int.eq_ofNat_of_zero_le hpos
            have hd4 : decide ((q : Int) ≥ 0) = true := decide_eq_true hpos
            have hq : q < n := by omega
            have hqi : (q : Int) < (n : Int) := by omega
            obtain ⟨b3, o3, he3, hbl3, hok3, hget3, k0, k1, k2, k3⟩ := HL.out.er hq
            injection he3 with he3
            injection he3 with he3 he4
            subst he3; subst he4
            have g0 := own_bool HOk.out (i := q) (by rw [goneO_len, HL.out.len]; exact hq)
            obtain ⟨gl, hgl⟩ : ∃ gl, gl = (goneO l P i).getD q false := ⟨_, rfl⟩
            rw [← hgl] at g0
            have HGL := Lib.hid hgl.symm
            have HNG := Lib.hid (fun h => good_no (e := ⟨t, c, b, true⟩) hgl.symm h)
            have HYG := Lib.hid (fun h : (goneO l P i).getD q false = false => good_yes (e := ⟨t, c, b, true⟩) h)
            have c0 := (HBk.out.cell (p := ⟨b2, o + i * 4, none⟩) HBL.out).trans HC0.out
            have c1 := (HBk.out.cell (p := ⟨b2, o + i * 4 + 1, none⟩) HBL.out).trans HC1.out
            have c2 := (HBk.out.cell (p := ⟨b2, o + i * 4 + 2, none⟩) HBL.out).trans HC2.out
            have m0 := (HBk.out.cell (p := ⟨b2, o + q * 4, none⟩) HBL.out).trans k0
            have m1 := (HBk.out.cell (p := ⟨b2, o + q * 4 + 1, none⟩) HBL.out).trans k1
            have m2 := (HBk.out.cell (p := ⟨b2, o + q * 4 + 2, none⟩) HBL.out).trans k2
            have m3 := (HBk.out.cell (p := ⟨b2, o + q * 4 + 3, none⟩) HBL.out).trans k3
            have HNX := Lib.hid (show goodO l P i ⟨t, c, b, true⟩ q = false → ∀ j : Nat, (q : Int) - 1 < (j : Int) → j < i → goodO l P i ⟨t, c, b, true⟩ j = false from fun h j h1 h2 => by
              rcases Nat.eq_or_lt_of_le (show q ≤ j by omega) with e | e
              · rw [← e]; exact h
              · exact HNk.out j (by omega) h2)
            clear k0 k1 k2 k3 hbl3 hok3 hget3 hgl
            generalize l.getD q enD = e3 at *
            obtain ⟨t3, x3, y3, u3⟩ := e3
            simp only at m0 m1 m2 m3 HNG HYG
            have hw3 : IntKind.i64.wrap ((q : Int) - 1) = (q : Int) - 1 := by rw [IntKind.wrap_i64]; omega
            have hwn : IntKind.i64.wrap (-b) = wneg b := wrap_neg HOK.out.b
            go_upto_region 7 with (fail)
            cases u3 with
            | true =>
              have HN2 := Lib.hid (HNX.out (HNG.out (.inl rfl)))
              clear HNG HYG HNX
              go_quiet (fail)
              go_wp2_with fail
              exact ⟨⟨(q : Int) - 1, rfl, by omega, by omega, HN2, Lib.hid (HOk.out.below (below_drewN (Below.refl _ _) _)), Lib.hid (below_drewN HBk.out _)⟩, by simp [intOf] <;> omega⟩
            | false =>
              cases gl with
              | true =>
                have HN2 := Lib.hid (HNX.out (HNG.out (.inr (.inl rfl))))
                clear HNG HYG HNX
                go_quiet (fail)
                go_wp2_with fail
                exact ⟨⟨(q : Int) - 1, rfl, by omega, by omega, HN2, Lib.hid (HOk.out.below (below_drewN (Below.refl _ _) _)), Lib.hid (below_drewN HBk.out _)⟩, by simp [intOf] <;> omega⟩
              | false =>
                by_cases p1 : t3 = t
                · have e1 : (t3 != t) = false := by simp [p1]
                  by_cases p2 : x3 = c
                  · have e2 : (x3 != c) = false := by simp [p2]
                    by_cases p3 : y3 = wneg b
                    · have e3 : (y3 != wneg b) = false := by simp [p3]
                      have HGO := Lib.hid (HYG.out HGL.out rfl p1 p2 p3)
                      clear HNG HYG HNX p1 p2 p3
                      go_quiet (fail)
                      have hd6 : decide ((q : Int) < 0) = false := decide_eq_false (by omega)
                      go_upto_region 11 with (fail)
                      generalize hwd : wr.drewN nq = wd
                      have HBd := Lib.hid (show Below w.heap.size w wd from by rw [← hwd]; exact below_drewN HBk.out _)
                      have HOd := Lib.hid (show RL.Own wd g (.slice (some ⟨g, 0, none⟩) n n) (goneO l P i) from by rw [← hwd]; exact HOk.out.below (below_drewN (Below.refl _ _) _))
                      clear hwd c0 c1 c2 m0 m1 m2 m3 g0 e1 e2 e3
                      have hlq : q < (goneO l P i).length := by rw [goneO_len, HL.out.len]; exact hq
                      have g0 := own_bool HOd.out hlq
                      have gf := HOd.out.fr q
                      have HOS := Lib.hid (show RL.Own (wd.setCell ⟨g, q, none⟩ (.bool true)) g (.slice (some ⟨g, 0, none⟩) n n) (goneO l (P.filter fun p => !decide (p.1 = q)) (i + 1)) from by rw [goneO_undo (open_fit HPi.out) HG2.out rfl (by omega) HGO.out]; exact own_bool_set HOd.out hlq true)
                      have HBS := Lib.hid (show Below w.heap.size w (wd.setCell ⟨g, q, none⟩ (.bool true)) from HBd.out.setCell (by have := HG.out; show _ ≤ g; omega) _)
                      have HPS := Lib.hid (show openO (l.take (i + 1)) = some (P.filter fun p => !decide (p.1 = q)) from by
                        rw [openO_step HPi.out HG2.out]
                        exact step_found (open_fit HPi.out) (by have := HL.out.len; omega) rfl (by omega) HGO.out fun j h1 h2 => HNk.out j (by omega) h2)
                      clear hlq
                      go_wp2_with fail
                      exact ⟨⟨i + 1, _, rfl, hlt, HPS, HOS, HBS⟩, by simp [intOf] <;> omega⟩
                    · have e3 : (y3 != wneg b) = true := by simp [p3]
                      have HN2 := Lib.hid (HNX.out (HNG.out (.inr (.inr (.inr (.inr p3))))))
                      clear HNG HYG HNX p1 p2 p3
                      go_quiet (fail)
                      go_wp2_with fail
                      exact ⟨⟨(q : Int) - 1, rfl, by omega, by omega, HN2, Lib.hid (HOk.out.below (below_drewN (Below.refl _ _) _)), Lib.hid (below_drewN HBk.out _)⟩, by simp [intOf] <;> omega⟩
                  · have e2 : (x3 != c) = true := by simp [p2]
                    have HN2 := Lib.hid (HNX.out (HNG.out (.inr (.inr (.inr (.inl p2))))))
                    clear HNG HYG HNX p1 p2
                    go_quiet (fail)
                    go_wp2_with fail
                    exact ⟨⟨(q : Int) - 1, rfl, by omega, by omega, HN2, Lib.hid (HOk.out.below (below_drewN (Below.refl _ _) _)), Lib.hid (below_drewN HBk.out _)⟩, by simp [intOf] <;> omega⟩
                · have e1 : (t3 != t) = true := by simp [p1]
                  have HN2 := Lib.hid (HNX.out (HNG.out (.inr (.inr (.inl p1)))))
                  clear HNG HYG HNX p1
                  go_quiet (fail)
                  go_wp2_with fail
                  exact ⟨⟨(q : Int) - 1, rfl, by omega, by omega, HN2, Lib.hid (HOk.out.below (below_drewN (Below.refl _ _) _)), Lib.hid (below_drewN HBk.out _)⟩, by simp [intOf] <;> omega⟩
    · have hd4 : decide ((i : Int) < (n : Int)) = false := decide_eq_false (by omega)
      have hd5 : decide (i < n) = false := decide_eq_false (by omega)
      have hin : i = n := by omega
      subst hin
      have HP2 := Lib.hid (show openO l = some P from by have h := HPi.out; rwa [List.take_of_length_le (by have := HL.out.len; omega)] at h)
      go_wp2_with fail
      go_ret2
      exact ⟨HBi.out, .inr ⟨P, g, HP2.out, rfl, by have h := HOi.out; have := HG.out; subst this; exact h⟩⟩
end Go.Proofs.Ytpphhhalmccnbaa
