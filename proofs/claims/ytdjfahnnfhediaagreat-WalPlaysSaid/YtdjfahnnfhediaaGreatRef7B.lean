/-
  The document's sectors: of a ring's places from one on.
-/
import Derived.Test.YtdjfahnnfhediaaGreatRef7A
import Derived.Test.YtdjfahnnfhediaaGreatRecs
import Derived.Test.YtdjfahnnfhediaaGreatRefFrs
import Derived.Deep.CutRange
namespace Go.Proofs.YtdjfahnnfhediaaGreat
set_option maxRecDepth 100000
open Go.RowKit

/-- a call answers slices of bytes in new memory, and no error -/
def RSecOut (w : World) (ls : List (List UInt8)) (e : Ending) (w' : World) : Prop :=
  ∃ A n c, e = .returned (.tuple #[.slice A n c, .int .i64 0]) ∧ n = ls.length ∧ LsN w' w.heap.size A ls ∧ n ≤ c ∧ Below w.heap.size w w'

theorem Bx.grown {w w' : World} {g : Nat} {r : Rg} {t : TypeId} {row : Option Nat} (h : Bx w g r t) (hg : w.grownBy w' row) (hr : ∀ k, row = some k → g + 1 ≤ k) : Bx w' g r t :=
  (hg.block g h.lt (fun e => by have := hr g e.symm; omega)).trans h

theorem has_ring {D : Dv} {F : Int} {n : Nat} (hF : 0 ≤ F) (hfit : F + (n : Int) ≤ D.n) (hn : 1 ≤ n) (p : Int) : D.has (F + p % (n : Int)) = true := by
  have h4 := Int.emod_nonneg p (b := (n : Int)) (by omega)
  have h5 := Int.emod_lt_of_pos p (b := (n : Int)) (by omega)
  unfold Dv.has
  rw [decide_eq_true (by omega), decide_eq_true (by omega)]
  rfl

theorem from_step {ls : List (List UInt8)} {K k : Nat} {x : List UInt8} (h : K ≤ k) (hx : ls[k]? = some x) : (ls.take (k + 1)).drop K = (ls.take k).drop K ++ [x] := by
  have hi : k < ls.length := (List.getElem?_eq_some_iff.1 hx).1
  rw [List.take_add_one, hx, List.drop_append_of_le_length (by rw [List.length_take]; omega)]
  rfl

set_option maxHeartbeats 2000000 in
theorem refsectors_any {w : World} {y a b c n : Nat} {F H T : Int} {D : Dv} (hd : IsRef w y a b c D) (hg : D.gone = false) (hF : 0 ≤ F ∧ F ≤ 1048576) (hfit : F + (n : Int) ≤ D.n) (hn : 1 ≤ n ∧ n ≤ 4096) (hH : 0 ≤ H ∧ H ≤ 1099511627776) {at_ : Int} (K : Nat) (hat : at_ = H + (K : Int)) (hK : K ≤ n) :
    Calls Tryz.prog 45 #[ptr y, rgV ⟨F, n, H, T⟩, .int .i64 at_] w (RSecOut w (from_ (ringL D ⟨F, n, H, T⟩) H at_)) := by
  obtain ⟨i0, hi, hz0, hz1, hz2⟩ := info_parts sl_facts
  have HI := Lib.hid (show _ ∧ _ ∧ _ ∧ _ from ⟨hi, hz0, hz1, hz2⟩)
  clear hi hz0 hz1 hz2
  have HLEN : Hid ((ringL D ⟨F, n, H, T⟩).length = n) := by show _ = _; rw [length_ringL]; rfl
  have HGET : Hid (∀ k : Nat, k < n → (ringL D ⟨F, n, H, T⟩)[k]? = some (D.read (F + (H + (k : Int)) % (n : Int)))) := fun k hk => ringL_get D ⟨F, n, H, T⟩ k (by show k < (n : Int).toNat; omega)
  have HFR : Hid (from_ (ringL D ⟨F, n, H, T⟩) H at_ = (ringL D ⟨F, n, H, T⟩).drop K) := by show _ = _; unfold from_; rw [show (at_ - H).toNat = K by omega]
  have HRD : Hid (∀ V, Below w.heap.size w V → ∀ p : Int, Calls Tryz.prog 66 #[ptr y, .int .i64 (F + p % (n : Int))] V (RRead V (D.read (F + p % (n : Int))) 0)) := fun V hV p => by
    have h := drefread_any (hd.below hV) (F + p % (n : Int))
    have he : D.readE (F + p % (n : Int)) = 0 := by unfold Dv.readE; rw [if_neg (by rw [hg]; exact Bool.false_ne_true), if_pos (has_ring hF.1 hfit hn.1 p)]
    rwa [he] at h
  rw [HFR.out]
  generalize ringL D ⟨F, n, H, T⟩ = ls at *
  have HX := Lib.hid (Bx.new w ⟨F, n, H, T⟩ 69)
  have HB := Lib.hid (below_new w (.cells (rgC ⟨F, n, H, T⟩) 69))
  obtain ⟨hF0, hF1⟩ := hF
  obtain ⟨hn0, hn1⟩ := hn
  obtain ⟨hH0, hH1⟩ := hH
  subst hat
  have hyl : Hid (y < w.heap.size) := hd.lt.1
  clear hd hg hfit HFR
  go_enter Tryz.func45, Tryz.ntmps45
  go_wp2_with fail
  go_loopw [8, 9] (fun v u wr => ∃ (k : Nat) (m : Nat) (A' : Option Addr) (c' : Nat), u = .int .i64 (H + (k : Int)) ∧ v = .slice A' m c' ∧ K ≤ k ∧ k ≤ n ∧ m + K = k ∧ Hid (Rw wr (w.heap.size + 1) (.slice A' m c') ((ls.take k).drop K)) ∧ Hid (Below w.heap.size w wr) ∧ Hid (Bx wr w.heap.size ⟨F, n, H, T⟩ 69)) (fun _ u _ => n - (intOf u - H).toNat)
  case atStart => exact ⟨K, 0, none, 0, rfl, rfl, Nat.le_refl _, hK, by omega, by rw [List.drop_eq_nil_of_le (by rw [List.length_take]; omega)]; exact Rw.nil _ _, HB, HX⟩
  case round =>
    obtain ⟨k, m, A', c', rfl, rfl, hk0, hk1, hm, HR, HBW, HXW⟩ := hrel
    have x0 := HXW.out.c0
    have x1 := HXW.out.c1
    have x2 := HXW.out.c2
    try simp only at x0 x1 x2
    rcases Nat.lt_or_ge k n with hlt | hge
    · have hdj : decide (H + (k : Int) < H + (n : Int)) = true := decide_eq_true (by omega)
      have HST := Lib.hid (from_step hk0 (HGET.out k hlt))
      have HML : Hid (((ls.take k).drop K).length = m) := by show _ = _; rw [List.length_drop, List.length_take, HLEN.out]; omega
      have hpos : 0 ≤ H + (k : Int) := by omega
      have hpos2 : 0 < (n : Int) := by omega
      have HRP := Lib.hid (fun V hV => HRD.out V hV (H + (k : Int)))
      have hem : 0 ≤ (H + (k : Int)) % (n : Int) ∧ (H + (k : Int)) % (n : Int) < (n : Int) := ⟨Int.emod_nonneg _ (by omega), Int.emod_lt_of_pos _ (by omega)⟩
      have hn00 : ¬ n = 0 := by omega
      have hmod : (H + (k : Int)).tmod (n : Int) = (H + (k : Int)) % (n : Int) := Int.tmod_eq_emod_of_nonneg hpos
      have hw2 : IntKind.i64.wrap (F + (H + (k : Int)) % (n : Int)) = F + (H + (k : Int)) % (n : Int) := by rw [IntKind.wrap_i64]; omega
      have HSZ : Hid (w.heap.size + 1 ≤ wr.heap.size) := HXW.out.lt
      have v0 : ∀ V, Since wr V → V.cell? ⟨w.heap.size, 0, none⟩ = some (.int .i64 F) := fun V hV => (HXW.out.below hV).c0
      have v1 : ∀ V, Since wr V → V.cell? ⟨w.heap.size, 1, none⟩ = some (.int .i64 (n : Int)) := fun V hV => (HXW.out.below hV).c1
      go_wp2_with fail
      clear x0 x1 x2
      generalize hs : D.read (F + (H + (k : Int)) % (n : Int)) = s at HRP HST
      clear hs
      refine wp_region_since (by kernel_rfl) ?_
      have hS : Since wr (World.drew wr) := (Below.refl _ _).drew
      refine wpAnyH_take (i := 0) (oi := ⟨some 23, _, _, _, _, _⟩) (v := ?_) rfl (by kernel_rfl) (by kernel_rfl) (by kernel_rfl) (fun _ _ _ h => h) (Or.inl ⟨by rfl, ?_⟩) hS ?_
      rotate_left
      · intro W hW; go_simp; with_reducible rfl
      try simp only [Act.put, List.setIfInBounds_toArray, List.set_cons_zero, List.set_cons_succ]
      refine wpAnyH_take (i := 1) (oi := ⟨some 24, _, _, _, _, _⟩) (v := ?_) rfl (by kernel_rfl) (by kernel_rfl) (by kernel_rfl) (fun _ _ _ h => h) (Or.inl ⟨by rfl, ?_⟩) hS ?_
      rotate_left
      · intro W hW; go_simp; with_reducible rfl
      try simp only [Act.put, List.setIfInBounds_toArray, List.set_cons_zero, List.set_cons_succ]
      refine wpAnyH_take (i := 2) (oi := ⟨some 25, _, _, _, _, _⟩) (v := ?_) rfl (by kernel_rfl) (by kernel_rfl) (by kernel_rfl) (fun _ _ _ h => h) (Or.inl ⟨by rfl, ?_⟩) hS ?_
      rotate_left
      · intro W hW; go_simp; with_reducible rfl
      try simp only [Act.put, List.setIfInBounds_toArray, List.set_cons_zero, List.set_cons_succ]
      refine wpAnyH_take (i := 3) (oi := ⟨some 26, _, _, _, _, _⟩) (v := ?_) rfl (by kernel_rfl) (by kernel_rfl) (by kernel_rfl) (fun _ _ _ h => h) (Or.inl ⟨by rfl, ?_⟩) hS ?_
      rotate_left
      · intro W hW; go_simp; with_reducible rfl
      try simp only [Act.put, List.setIfInBounds_toArray, List.set_cons_zero, List.set_cons_succ]
      refine wpAnyH_take (i := 4) (oi := ⟨some 27, _, _, _, _, _⟩) (v := ?_) rfl (by kernel_rfl) (by kernel_rfl) (by kernel_rfl) (fun _ _ _ h => h) (Or.inl ⟨by rfl, ?_⟩) hS ?_
      rotate_left
      · intro W hW; go_simp; with_reducible rfl
      try simp only [Act.put, List.setIfInBounds_toArray, List.set_cons_zero, List.set_cons_succ]
      refine wpAnyH_take (i := 5) (oi := ⟨some 28, _, _, _, _, _⟩) (v := ?_) rfl (by kernel_rfl) (by kernel_rfl) (by kernel_rfl) (fun _ _ _ h => h) (Or.inl ⟨by rfl, ?_⟩) hS ?_
      rotate_left
      · intro W hW; go_simp; with_reducible rfl
      try simp only [Act.put, List.setIfInBounds_toArray, List.set_cons_zero, List.set_cons_succ]
      refine wpAnyH_take (i := 6) (oi := ⟨some 29, _, _, _, _, _⟩) (v := ?_) rfl (by kernel_rfl) (by kernel_rfl) (by kernel_rfl) (fun _ _ _ h => h) (Or.inl ⟨by rfl, ?_⟩) hS ?_
      rotate_left
      · intro W hW; go_simp; with_reducible rfl
      try simp only [Act.put, List.setIfInBounds_toArray, List.set_cons_zero, List.set_cons_succ]
      refine wpAnyH_take (i := 7) (oi := ⟨some 30, _, _, _, _, _⟩) (v := ?_) rfl (by kernel_rfl) (by kernel_rfl) (by kernel_rfl) (fun _ _ _ h => h) (Or.inl ⟨by rfl, ?_⟩) hS ?_
      rotate_left
      · intro W hW; go_simp; with_reducible rfl
      try simp only [Act.put, List.setIfInBounds_toArray, List.set_cons_zero, List.set_cons_succ]
      refine wpAnyH_ready (rs := [8]) (by kernel_rfl) (by simp) ?_
      refine AllReadyH.cons (o := ⟨some 31, _, _, _, _, _⟩) rfl (fun Kr hKr => ?_) AllReadyH.nil
      -- operation 8: a call
      go_simp
      refine (HRP.out _ (HBW.out.trans (Below.mono hS (Nat.le_of_succ_le HSZ.out)))).mono ?_
      rintro e V2 ⟨A2, n2, c2, rfl, hln, hrd, hx2, hcap, hnew⟩
      show Kr _ _
      refine hKr.out _ _ ?_ (fun _ => ?_)
      · exact since_trans hS hx2
      clear hKr Kr
      replace hS : Since wr V2 := since_trans hS hx2
      have HL2 : Hid (Lies V2 A2 c2 n2 s) := Lib.hid ⟨hrd, hln, hcap⟩
      have HN2 : Hid (∀ a, A2 = some a → wr.heap.size ≤ a.block) := fun a ha => hnew a ha
      clear hln hrd hx2 hcap hnew
      try simp only [Act.put, List.setIfInBounds_toArray, List.set_cons_zero, List.set_cons_succ]
      refine wpAnyH_take (i := 9) (oi := ⟨some 22, _, _, _, _, _⟩) (v := ?_) rfl (by kernel_rfl) (by kernel_rfl) (by kernel_rfl) (fun _ _ _ h => h) (Or.inl ⟨by rfl, ?_⟩) hS ?_
      rotate_left
      · intro W hW; go_simp; with_reducible rfl
      try simp only [Act.put, List.setIfInBounds_toArray, List.set_cons_zero, List.set_cons_succ]
      refine wpAnyH_take (i := 10) (oi := ⟨some 32, _, _, _, _, _⟩) (v := ?_) rfl (by kernel_rfl) (by kernel_rfl) (by kernel_rfl) (fun _ _ _ h => h) (Or.inl ⟨by rfl, ?_⟩) hS ?_
      rotate_left
      · intro W hW; go_simp; with_reducible rfl
      try simp only [Act.put, List.setIfInBounds_toArray, List.set_cons_zero, List.set_cons_succ]
      refine wpAnyH_take (i := 11) (oi := ⟨some 33, _, _, _, _, _⟩) (v := ?_) rfl (by kernel_rfl) (by kernel_rfl) (by kernel_rfl) (fun _ _ _ h => h) (Or.inl ⟨by rfl, ?_⟩) hS ?_
      rotate_left
      · intro W hW; go_simp; with_reducible rfl
      try simp only [Act.put, List.setIfInBounds_toArray, List.set_cons_zero, List.set_cons_succ]
      refine wpAnyH_take (i := 12) (oi := ⟨some 10, _, _, _, _, _⟩) (v := ?_) rfl (by kernel_rfl) (by kernel_rfl) (by kernel_rfl) (fun _ _ _ h => h) (Or.inl ⟨by rfl, ?_⟩) hS ?_
      rotate_left
      · intro W hW; go_simp; with_reducible rfl
      try simp only [Act.put, List.setIfInBounds_toArray, List.set_cons_zero, List.set_cons_succ]
      refine wpAnyH_take (i := 13) (oi := ⟨some 11, _, _, _, _, _⟩) (v := ?_) rfl (by kernel_rfl) (by kernel_rfl) (by kernel_rfl) (fun _ _ _ h => h) (Or.inl ⟨by rfl, ?_⟩) hS ?_
      rotate_left
      · intro W hW; go_simp; with_reducible rfl
      try simp only [Act.put, List.setIfInBounds_toArray, List.set_cons_zero, List.set_cons_succ]
      refine wpAnyH_done (by kernel_rfl) ?_ _
      have HR2 := Lib.hid (HR.out.below hS)
      have HB2 : Hid (Below w.heap.size w V2) := HBW.out.trans (Below.mono hS (Nat.le_of_succ_le HSZ.out))
      have HX2 := Lib.hid (HXW.out.below hS)
      have HFA : Hid (Far A2 s (Value.slice A' m c').ownBlock ∧ Up (w.heap.size + 1) A2 s) := by
        refine ⟨.inr fun a ha e => ?_, .inr fun a ha => ?_⟩
        · have h1 := HN2.out a ha
          have h2 := (HR.out.lt _ e.symm).2
          omega
        · exact Nat.le_trans HSZ.out (HN2.out a ha)
      clear hS v0 v1 hw2 hem
      have hb3 := below_new V2 (.cells #[.slice A2 n2 c2] 41)
      have HR3 := Lib.hid (HR2.out.below hb3)
      have HX3 := Lib.hid (HX2.out.below hb3)
      have HLS : Hid (Ls (V2.alloc (.cells #[.slice A2 n2 c2] 41)) (some ⟨V2.heap.size, 0, none⟩) [s]) := Lib.hid (ls_one HL2.out _ _ rfl)
      have HFR := Lib.hid (far_one (w := V2) (n := n2) (c := c2) (t := 41) HFA.out)
      have hbl2 : w.heap.size + 1 ≤ V2.heap.size := HX2.out.lt
      obtain ⟨hi', hz0, hz1, hz2⟩ := HI.out
      clear hb3
      go_wp2_with (at_builtin; refine wpList_append_rw rfl (.tmp 37) (.tmp 39) _ rfl (w.heap.size + 1) i0 Tryz.underlying79 hi' hz0 hz1 hz2 (.slice A' m c') _ rfl HR3.out _ _ 1 _ rfl HLS.out rfl HFR.out (by rw [HML.out]; omega) (Nat.le_trans hbl2 (by simp)) ?_; intro v3 w3 hR3 hg3 hat3; have HR4 := Lib.hid hR3; have HG3 := Lib.hid hg3; clear hR3 hg3 hat3; obtain ⟨A4, c4, hv4, _, _⟩ := HR4.out.form; have HLN : Hid (((ls.take k).drop K ++ [s]).length = m + 1) := (by show _ = _; rw [List.length_append, HML.out]; rfl); rw [HLN.out] at hv4; subst hv4)
      refine ⟨⟨k + 1, m + 1, A4, c4, by go_num, rfl, by omega, by omega, by omega, by rw [HST.out]; exact HR4, Lib.hid ((below_two HB2.out (below_new _ _)).grown HG3.out (by simp; omega) (fun j hj => Nat.le_of_succ_le (HR3.out.lt j hj).1)), Lib.hid (Bx.grown HX3.out HG3.out (fun j hj => (HR3.out.lt j hj).1))⟩, by simp [intOf]; omega⟩
    · obtain rfl : k = n := by omega
      have hdj : decide (H + (k : Int) < H + (k : Int)) = false := decide_eq_false (by omega)
      have hr := HR.out
      rw [List.take_of_length_le (by rw [HLEN.out]; exact Nat.le_refl _)] at hr
      have hml : (ls.drop K).length = m := by rw [List.length_drop, HLEN.out]; omega
      obtain ⟨A4, c4, hv4, hls4, hc4⟩ := hr.form
      rw [hml] at hv4 hc4
      injection hv4 with e1 e2 e3
      subst e1 e3
      have HN4 := Lib.hid (hr.lsn.le (Nat.le_succ _))
      have HML := Lib.hid hml
      clear hr hml hls4
      go_wp2_with fail
      go_ret2
      exact ⟨_, _, _, rfl, HML.out.symm, HN4.out, hc4, HBW.out⟩

end Go.Proofs.YtdjfahnnfhediaaGreat

namespace Go.Proofs.YtdjfahnnfhediaaGreat
set_option maxRecDepth 100000
open Go.RowKit Crc Wm

theorem IsRlog.tail {w : World} {x y : Nat} {G : Lg} (h : IsRlog w x y G) (t : Int) : IsRlog (w.setCell ⟨x, 4, none⟩ (.int .i64 t)) x y { G with R := ⟨G.R.F, G.R.S, G.R.H, t⟩ } := heap_setCell_same _ _ _ _ _ _ h

/-- the document's Open has answered a log, and its records -/
def ROpenOut (w : World) (y : Nat) (D : Dv) (F S H E : Int) (e : Ending) (w' : World) : Prop :=
  ∃ x rs t A n c, e = .returned (.tuple #[ptr x, .slice A n c, .int .i64 0]) ∧ n = rs.length ∧ n ≤ 4096 ∧ n ≤ c ∧ RsN w' (x + 1) A rs ∧ Fnd (ringL D ⟨F, S, H, H⟩) H E rs t ∧ IsRlog w' x y ⟨⟨F, S, H, t⟩, E, t, false⟩ ∧ Below w.heap.size w w' ∧ w.heap.size ≤ x

theorem refopen_no {w : World} {y a b c : Nat} {D : Dv} (hd : IsRef w y a b c D) (F S H E : Int) (ho : openE D F S H E ≠ 0) : Calls Tryz.prog 15 #[ptr y, .int .i64 F, .int .i64 S, .int .i64 H, .int .i64 E] w fun e w' => e = .returned (.tuple #[.pointer none, .slice none 0 0, .int .i64 (openE D F S H E)]) ∧ Below w.heap.size w w' := by
  have c3 := hd.c3
  have c0 := hd.c0
  have htop := hd.ok.top
  cases hgn : D.gone with
  | true =>
    have hE : openE D F S H E = 11 := by unfold openE; rw [if_pos hgn]
    rw [hE]
    rw [hgn] at c3
    clear hd ho hgn hE c0 htop
    go_enter Tryz.func15, Tryz.ntmps15
    go_wp2_with fail
    go_ret3
    exact ⟨rfl, Below.refl _ _⟩
  | false =>
    rw [hgn] at c3
    have hno : ¬ (0 ≤ F ∧ 1 ≤ S ∧ F + S ≤ D.n ∧ 0 ≤ H ∧ H ≤ 1099511627776 ∧ 1 ≤ E ∧ E ≤ 4294967295) := by
      intro h
      unfold openE at ho
      rw [hgn, if_neg Bool.false_ne_true, if_pos h] at ho
      exact ho rfl
    have hE : openE D F S H E = 1 := by unfold openE; rw [hgn, if_neg Bool.false_ne_true, if_neg hno]
    rw [hE]
    clear hd ho hgn hE
    generalize D.n = n at *
    by_cases h1 : F < 0
    · have d1 : decide (F < 0) = true := decide_eq_true h1
      clear hno h1
      go_enter Tryz.func15, Tryz.ntmps15
      go_wp2_with fail
      go_ret3
      exact ⟨rfl, Below.refl _ _⟩
    have d1 : decide (F < 0) = false := decide_eq_false h1
    by_cases h2 : S < 1
    · have d2 : decide (S < 1) = true := decide_eq_true h2
      clear hno h1 h2
      go_enter Tryz.func15, Tryz.ntmps15
      go_wp2_with fail
      go_ret3
      exact ⟨rfl, Below.refl _ _⟩
    have d2 : decide (S < 1) = false := decide_eq_false h2
    by_cases h3 : (n : Int) < S
    · have d3 : decide ((n : Int) < S) = true := decide_eq_true h3
      clear hno h1 h2 h3
      go_enter Tryz.func15, Tryz.ntmps15
      go_wp2_with fail
      go_ret3
      exact ⟨rfl, Below.refl _ _⟩
    have d3 : decide ((n : Int) < S) = false := decide_eq_false h3
    have hwr : IntKind.i64.wrap ((n : Int) - S) = (n : Int) - S := by rw [IntKind.wrap_i64]; omega
    by_cases h4 : (n : Int) - S < F
    · have d4 : decide ((n : Int) - S < F) = true := decide_eq_true h4
      clear hno h1 h2 h3 h4
      go_enter Tryz.func15, Tryz.ntmps15
      go_wp2_with fail
      go_ret3
      exact ⟨rfl, Below.refl _ _⟩
    have d4 : decide ((n : Int) - S < F) = false := decide_eq_false h4
    by_cases h5 : H < 0
    · have d5 : decide (H < 0) = true := decide_eq_true h5
      clear hno h1 h2 h3 h4 h5
      go_enter Tryz.func15, Tryz.ntmps15
      go_wp2_with fail
      go_ret3
      exact ⟨rfl, Below.refl _ _⟩
    have d5 : decide (H < 0) = false := decide_eq_false h5
    by_cases h6 : 1099511627776 < H
    · have d6 : decide (1099511627776 < H) = true := decide_eq_true h6
      clear hno h1 h2 h3 h4 h5 h6
      go_enter Tryz.func15, Tryz.ntmps15
      go_wp2_with fail
      go_ret3
      exact ⟨rfl, Below.refl _ _⟩
    have d6 : decide (1099511627776 < H) = false := decide_eq_false h6
    by_cases h7 : E < 1
    · have d7 : decide (E < 1) = true := decide_eq_true h7
      clear hno h1 h2 h3 h4 h5 h6 h7
      go_enter Tryz.func15, Tryz.ntmps15
      go_wp2_with fail
      go_ret3
      exact ⟨rfl, Below.refl _ _⟩
    have d7 : decide (E < 1) = false := decide_eq_false h7
    have d8 : decide (4294967295 < E) = true := decide_eq_true (by omega)
    clear hno h1 h2 h3 h4 h5 h6 h7
    go_enter Tryz.func15, Tryz.ntmps15
    go_wp2_with fail
    go_ret3
    exact ⟨rfl, Below.refl _ _⟩

theorem rfnd_end {w wr : World} {x y : Nat} {F S H E : Int} {D : Dv} {A : Option Addr} {m c : Nat} {rs : List (Int × List UInt8)} {last at_ : Int} (hs : Rs 92 wr (x + 1) (.slice A m c) rs) (hm : rs.length = m) (hb : Below w.heap.size w wr) (hx : w.heap.size ≤ x)
    (hr : Run (ringL D ⟨F, S, H, H⟩) H E 0 H rs last at_) (hc : counts (ringL D ⟨F, S, H, H⟩) H E last at_ = false) (hl : IsRlog wr x y ⟨⟨F, S, H, H⟩, E, 0, false⟩) (h4 : m ≤ 4096) : ∀ W, Below wr.heap.size wr W → ROpenOut w y D F S H E (.returned (.tuple #[ptr x, .slice A m c, .int .i64 0])) ((W.setCell ⟨x, 4, none⟩ (.int .i64 at_)).setCell ⟨x, 6, none⟩ (.int .i64 at_)) := by
  intro W hW
  have hb2 : Below w.heap.size w W := hb.trans (Below.mono hW hb.size)
  have hs2 := (hs.below hW).turn (((Turn.refl (· = x) W).setCell ⟨x, 4, none⟩ (.int .i64 at_) (.inl rfl)).setCell ⟨x, 6, none⟩ (.int .i64 at_) (.inl rfl)) (fun k hk => by omega)
  obtain ⟨A', c', e, hn, hcc⟩ := hs2.form
  injection e with e1 e2 e3
  subst e1 e3
  exact ⟨x, rs, at_, A, m, c, rfl, hm.symm, h4, by omega, hn, ⟨last, hr, hc⟩, ((hl.below hW).tail at_).safed at_, (hb2.setCell (p := ⟨x, 4, none⟩) hx _).setCell (p := ⟨x, 6, none⟩) hx _, hx⟩

end Go.Proofs.YtdjfahnnfhediaaGreat

namespace Go.Proofs.YtdjfahnnfhediaaGreat
set_option maxRecDepth 100000
open Go.RowKit Crc Wm

set_option maxHeartbeats 2000000 in
theorem refopen_yes {w : World} {y a b c : Nat} {D : Dv} (hd : IsRef w y a b c D) (F S H E : Int) (ho : openE D F S H E = 0) : Calls Tryz.prog 15 #[ptr y, .int .i64 F, .int .i64 S, .int .i64 H, .int .i64 E] w (ROpenOut w y D F S H E) := by
  have hgn : D.gone = false := by
    cases hgn : D.gone with
    | false => rfl
    | true => unfold openE at ho; rw [if_pos hgn] at ho; exact absurd ho (by decide)
  have hon : 0 ≤ F ∧ 1 ≤ S ∧ F + S ≤ D.n ∧ 0 ≤ H ∧ H ≤ 1099511627776 ∧ 1 ≤ E ∧ E ≤ 4294967295 := by
    unfold openE at ho
    rw [hgn, if_neg Bool.false_ne_true] at ho
    split at ho
    · next h => exact h
    · exact absurd ho (by decide)
  have htop := hd.ok.top
  obtain ⟨i0, hi, hz0, hz1, hz2⟩ := info_parts refrec_facts
  have HI := Lib.hid (show _ ∧ _ ∧ _ ∧ _ from ⟨hi, hz0, hz1, hz2⟩)
  clear hi hz0 hz1 hz2
  obtain ⟨n, hn⟩ : ∃ n : Nat, S = (n : Int) := ⟨S.toNat, by omega⟩
  subst hn
  obtain ⟨hF0, hS1, hfit, hH0, hH1, hE0, hE1⟩ := hon
  have hnb : 1 ≤ n ∧ n ≤ 4096 := by omega
  have hFb : 0 ≤ F ∧ F ≤ 4096 := by omega
  have HLEN : Hid ((ringL D ⟨F, n, H, H⟩).length = n) := by show _ = _; rw [length_ringL]; rfl
  have HSM := Lib.hid (ring_len hd.ok ⟨F, n, H, H⟩)
  have HSEC : Hid (∀ V, Below w.heap.size w V → ∀ (K : Nat) (at_ : Int), at_ = H + (K : Int) → K ≤ n → Calls Tryz.prog 45 #[ptr y, rgV ⟨F, n, H, H⟩, .int .i64 at_] V (RSecOut V (from_ (ringL D ⟨F, n, H, H⟩) H at_))) :=
    fun V hV K at_ hat hK => refsectors_any (hd.below hV) hgn ⟨hF0, by omega⟩ hfit hnb ⟨hH0, hH1⟩ K hat hK
  have HEND : Hid (∀ (wr : World) (A : Option Addr) (m c' : Nat) (rs : List (Int × List UInt8)) (last at_ : Int), Rs 92 wr (w.heap.size + 1) (.slice A m c') rs → rs.length = m → Below w.heap.size w wr → Run (ringL D ⟨F, n, H, H⟩) H E 0 H rs last at_ → IsRlog wr w.heap.size y ⟨⟨F, n, H, H⟩, E, 0, false⟩ → m ≤ 4096 → counts (ringL D ⟨F, n, H, H⟩) H E last at_ = false → ∀ W, Below wr.heap.size wr W →
      ROpenOut w y D F n H E (.returned (.tuple #[ptr w.heap.size, .slice A m c', .int .i64 0])) ((W.setCell ⟨w.heap.size, 4, none⟩ (.int .i64 at_)).setCell ⟨w.heap.size, 6, none⟩ (.int .i64 at_))) :=
    fun wr A m c' rs last at_ h1 h2 h3 h4 h5 h6 h7 => rfnd_end h1 h2 h3 (Nat.le_refl _) h4 h7 h5 h6
  have c3 := hd.c3
  have c0 := hd.c0
  rw [hgn] at c3
  have hyl := hd.lt.1
  have HX : Hid (IsRlog (w.alloc (.cells #[ptr y, .int .i64 F, .int .i64 (n : Int), .int .i64 H, .int .i64 H, .int .i64 E, .int .i64 0, .bool false] 71)) w.heap.size y ⟨⟨F, n, H, H⟩, E, 0, false⟩) := heap_alloc_new w _
  have HB : Hid (Below w.heap.size w (w.alloc (.cells #[ptr y, .int .i64 F, .int .i64 (n : Int), .int .i64 H, .int .i64 H, .int .i64 E, .int .i64 0, .bool false] 71))) := below_new w _
  have hGOAL : Hid (∀ e W, ROpenOut w y D F n H E e W → ROpenOut w y D F n H E e W) := fun _ _ h => h
  generalize ringL D ⟨F, n, H, H⟩ = ls at *
  generalize hRO : ROpenOut w y D F n H E = RO at *
  generalize D.n = dn at *
  clear hd ho hgn hGOAL hRO
  have d1 : decide (F < 0) = false := decide_eq_false (by omega)
  have d2 : decide ((n : Int) < 1) = false := decide_eq_false (by omega)
  have d3 : decide ((dn : Int) < (n : Int)) = false := decide_eq_false (by omega)
  have d3' : decide (dn < n) = false := decide_eq_false (by omega)
  have hwr : IntKind.i64.wrap ((dn : Int) - (n : Int)) = (dn : Int) - (n : Int) := by rw [IntKind.wrap_i64]; omega
  have d4 : decide ((dn : Int) - (n : Int) < F) = false := decide_eq_false (by omega)
  have d5 : decide (H < 0) = false := decide_eq_false (by omega)
  have d6 : decide (1099511627776 < H) = false := decide_eq_false (by omega)
  have d7 : decide (E < 1) = false := decide_eq_false (by omega)
  have d8 : decide (4294967295 < E) = false := decide_eq_false (by omega)
  go_enter Tryz.func15, Tryz.ntmps15
  go_wp2_with fail
  clear d1 d2 d3 d3' d4 d5 d6 d7 d8 hwr c0 c3
  go_loopg [15, 16, 17] n (fun k v u l wr => ∃ (K : Nat) (last : Int) (rs : List (Int × List UInt8)) (A' : Option Addr) (m c' : Nat), v = .slice A' m c' ∧ u = .int .i64 (H + (K : Int)) ∧ l = .int .i64 last ∧ K ≤ n ∧ k + K = n ∧ Hid (rs.length = m) ∧ Hid (Rs 92 wr (w.heap.size + 1) (.slice A' m c') rs) ∧ Hid (Run ls H E 0 H rs last (H + (K : Int))) ∧ Hid (IsRlog wr w.heap.size y ⟨⟨F, n, H, H⟩, E, 0, false⟩) ∧ Hid (Below w.heap.size w wr))
  case atStart => exact ⟨0, 0, [], none, 0, 0, rfl, by simp, rfl, Nat.zero_le _, rfl, rfl, Rs.nil _ _ _, ⟨rfl, by simp⟩, HX, HB⟩
  case round =>
    obtain ⟨K, last, rs, A', m, c', rfl, rfl, rfl, hK, hgk, HM, HRS, HRUN, HLOG, HBW⟩ := hrel
    have hin := HRUN.out.in_ (Int.le_refl _) (by omega) hH1
    rw [HLEN.out, HM.out] at hin
    have hm4 : m ≤ n := by omega
    have hat0 : H + (K : Int) ≤ 1099511627776 := hin.2.2
    clear hin
    obtain ⟨at_, hat⟩ : ∃ at_, H + (K : Int) = at_ := ⟨_, rfl⟩
    rw [hat] at HRUN
    have hb2 : 0 ≤ at_ ∧ at_ ≤ 1099511627776 ∧ H ≤ at_ := by omega
    have hKat : (at_ - H).toNat = K := by omega
    have HFL : Hid ((from_ ls H at_).length = n - K) := by show _ = _; unfold from_; rw [List.length_drop, HLEN.out, hKat]
    have HFS : Hid (∀ x ∈ from_ ls H at_, x.length ≤ 1000000) := fun x hx => HSM.out x (List.mem_of_mem_drop hx)
    have HCI := Lib.hid (fun h => counts_in (ls := ls) (H := H) (ep := E) (last := last) (at_ := at_) h hb2.2.2 (by rw [HLEN.out]; omega))
    rw [HLEN.out] at HCI
    have HCN : Hid (counts ls H E last at_ = (decide (gatE (from_ ls H at_) at_ = 0) && (decide (last ≤ gatEp (from_ ls H at_) at_) && (decide (gatEp (from_ ls H at_) at_ < E) && decide (at_ + gatC (from_ ls H at_) at_ ≤ 1099511627776))))) := rfl
    have HGC : Hid (gatE (from_ ls H at_) at_ = 0 → 1 ≤ gatC (from_ ls H at_) at_ ∧ gatC (from_ ls H at_) at_ ≤ ((n - K : Nat) : Int) ∧ gatC (from_ ls H at_) at_ ≤ 1024 ∧ 0 ≤ gatEp (from_ ls H at_) at_ ∧ gatEp (from_ ls H at_) at_ ≤ 4294967295) := fun h => by
      obtain ⟨g1, g2, g3, _, _, g5, g6, _⟩ := gat_cnt h
      rw [HFL.out] at g2
      exact ⟨g1, g2, g3, by rw [g5]; exact g6.1, by rw [g5]; exact g6.2⟩
    have HSN := Lib.hid (fun h => HRUN.out.snoc h)
    have HENDR := Lib.hid (fun hc => HEND.out wr A' m c' rs last at_ HRS.out HM.out HBW.out HRUN.out HLOG.out (by omega) hc)
    have HSE := Lib.hid (HSEC.out wr HBW.out K at_ hat.symm hK)
    have HGA := Lib.hid (fun (A2 : Option Addr) (c2 m2 : Nat) (V : World) (hm2 : (from_ ls H at_).length = m2) (h : Ls V A2 (from_ ls H at_)) => refgather_any A2 c2 m2 (from_ ls H at_) hm2 (by have := HFL.out; omega) HFS at_ (by omega) (by omega) V h)
    have x1 := HLOG.out.c1
    have x2 := HLOG.out.c2
    have x3 := HLOG.out.c3
    have x4 := HLOG.out.c4
    try simp only at x1 x2 x3 x4
    generalize hgE : gatE (from_ ls H at_) at_ = gE at *
    generalize hgB : gatB (from_ ls H at_) at_ = gB at *
    generalize hgP : gatEp (from_ ls H at_) at_ = gP at *
    generalize hgC : gatC (from_ ls H at_) at_ = gC at *
    clear hgE hgB hgP hgC
    go_wp2_with fail
    refine HSE.out.mono ?_
    rintro e w2 ⟨A2, n2, c2, rfl, hn2, hls2, hnc2, hb22⟩
    have HG := Lib.hid (HGA.out A2 c2 n2 w2 hn2.symm hls2.ls)
    have HB2 := Lib.hid hb22
    have hwr2 : wr.heap.size ≤ w2.heap.size := hb22.size
    have hne0 : ((0 : Int) != 0) = false := rfl
    clear hn2 hls2 hnc2 hb22 HSE HGA x1 x2 x3 x4
    go_wp2_with fail
    refine HG.out.mono ?_
    rintro e w3 ⟨A3, n3, c3, rfl, ho3, hb3⟩
    have HO3 := Lib.hid ho3
    have HB3 := Lib.hid (below_two HB2.out hb3)
    have HL3 := Lib.hid (HLOG.out.below HB3.out)
    have f4 := HL3.out.fr 4
    have f6 := HL3.out.fr 6
    have x4 := HL3.out.c4
    have x6 := HL3.out.c6
    try simp only at x4 x6
    clear ho3 hb3 HG HB2
    by_cases hE0 : gE = 0
    case neg =>
      have HC0 : Hid (counts ls H E last at_ = false) := by show _ = _; rw [HCN.out, decide_eq_false hE0]; rfl
      have HE3 := Lib.hid (HENDR.out HC0.out _ HB3.out)
      have hne : (gE != 0) = true := by rw [bne_iff_ne]; exact hE0
      clear HCN HGC HSN HENDR HCI hE0
      go_wp2_with fail
      go_ret3
      exact HE3.out
    have hne : (gE != 0) = false := by rw [hE0]; rfl
    obtain ⟨g1, g2, g3, g4, g5⟩ := HGC.out hE0
    obtain ⟨C, hC⟩ := Int.eq_ofNat_of_zero_le (by omega : 0 ≤ gC)
    subst hC
    by_cases h2 : E ≤ gP
    · have HC0 : Hid (counts ls H E last at_ = false) := by show _ = _; rw [HCN.out, decide_eq_false (show ¬ gP < E by omega), Bool.false_and, Bool.and_false, Bool.and_false]
      have HE3 := Lib.hid (HENDR.out HC0.out _ HB3.out)
      have hd' : decide (E ≤ gP) = true := decide_eq_true h2
      clear HCN HGC HSN HENDR HCI hE0 h2
      go_wp2_with fail
      go_ret3
      exact HE3.out
    have hd2' : decide (E ≤ gP) = false := decide_eq_false h2
    by_cases h1 : gP < last
    · have HC0 : Hid (counts ls H E last at_ = false) := by show _ = _; rw [HCN.out, decide_eq_false (show ¬ last ≤ gP by omega), Bool.false_and, Bool.and_false]
      have HE3 := Lib.hid (HENDR.out HC0.out _ HB3.out)
      have hd : decide (gP < last) = true := decide_eq_true h1
      clear HCN HGC HSN HENDR HCI hE0 h1 h2
      go_wp2_with fail
      go_ret3
      exact HE3.out
    have hd1 : decide (gP < last) = false := decide_eq_false h1
    by_cases h3 : 1099511627776 < at_ + (C : Int)
    · have HC0 : Hid (counts ls H E last at_ = false) := by show _ = _; rw [HCN.out, decide_eq_false (show ¬ at_ + (C : Int) ≤ 1099511627776 by omega), Bool.and_false, Bool.and_false, Bool.and_false]
      have HE3 := Lib.hid (HENDR.out HC0.out _ HB3.out)
      have hd3 : decide (1099511627776 < at_ + (C : Int)) = true := decide_eq_true h3
      clear HCN HGC HSN HENDR HCI hE0 h1 h2 h3
      go_wp2_with fail
      go_ret3
      exact HE3.out
    have hd3 : decide (1099511627776 < at_ + (C : Int)) = false := decide_eq_false h3
    have hcnt : counts ls H E last at_ = true := by rw [HCN.out, decide_eq_true hE0, decide_eq_true (show last ≤ gP by omega), decide_eq_true (show gP < E by omega), decide_eq_true (show at_ + (C : Int) ≤ 1099511627776 by omega)]; rfl
    have hci := HCI.out hcnt
    have HRN := Lib.hid (HSN.out hcnt)
    clear HCN HGC HSN HCI hE0 h1 h2 h3 HENDR hcnt f4 f6 x4 x6
    have HBN := Lib.hid (below_new w3 (.cells #[.int .i64 at_, .slice A3 n3 c3] 92))
    have HR6 := Lib.hid ((HRS.out.below HB3.out).below HBN.out)
    have HLN := Lib.hid (HO3.out.lies.up HBN.out)
    have hw1r : w.heap.size + 1 ≤ wr.heap.size := HLOG.out.lt
    have hwr3 : wr.heap.size ≤ w3.heap.size := HB3.out.size
    have HUN : Hid (Up (w.heap.size + 1) A3 gB) := .inr fun a ha => by have := (HO3.out.block a ha).1; omega
    have HFN : Hid (Far A3 gB (Value.slice A' m c').ownBlock) := .inr fun a ha e => by
      have h1 := (HO3.out.block a ha).1
      have h2 := (HRS.out.lt _ e.symm).2
      omega
    obtain ⟨hi', hz0, hz1, hz2⟩ := HI.out
    go_wp2_with (at_builtin; refine wpList_append_rec rfl (.tmp 116) (.tmp 120) _ rfl (w.heap.size + 1) i0 Tryz.underlying36 hi' hz0 hz1 hz2 (.slice A' m c') rs rfl HR6.out m HM.out w3.heap.size at_ A3 n3 c3 gB rfl (two_cells _ _ _ _ _ rfl) HLN.out HFN.out HUN.out (by omega) (by simp; omega) ?_; intro v7 w7 hr7 hg7; have HR7 := Lib.hid hr7; have HG7 := Lib.hid hg7; clear hr7 hg7; obtain ⟨A7, c7, hv7, _, _⟩ := HR7.out.form; have HM7 : Hid ((rs ++ [(at_, gB)]).length = m + 1) := (by show _ = _; rw [List.length_append, HM.out]; rfl); rw [HM7.out] at hv7; subst hv7)
    have HB7 : Hid (Below w.heap.size w w7) := (((HBW.out.trans (Below.mono HB3.out (by omega))).trans (Below.mono HBN.out (by omega))).grown HG7.out (by simp; omega) (fun j hj => Nat.le_of_succ_le (HR6.out.lt j hj).1))
    have HL7 : Hid (IsRlog w7 w.heap.size y ⟨⟨F, n, H, H⟩, E, 0, false⟩) := by
      have h1 := HL3.out.below HBN.out
      refine (HG7.out.block w.heap.size h1.lt (fun e => ?_)).trans h1
      have := (HR6.out.lt _ e.symm).1
      omega
    go_roundg (gk - C)
    case measure => omega
    case rel => exact ⟨K + C, gP, rs ++ [(at_, gB)], A7, m + 1, c7, rfl, by rw [show H + ((K + C : Nat) : Int) = at_ + (C : Int) by omega], rfl, by omega, by omega, HM7, HR7, by have := HRN.out; rw [show H + ((K + C : Nat) : Int) = at_ + (C : Int) by omega]; exact this, HL7, HB7⟩

end Go.Proofs.YtdjfahnnfhediaaGreat
