/-
  Records as the document's, and whether records are the same: of records that are the same.
-/
import Derived.Test.YtdjfahnnfhediaaGreatRecs
import Derived.Test.YtdjfahnnfhediaaGreatDevA
namespace Go.Proofs.YtdjfahnnfhediaaGreat
set_option maxRecDepth 100000
open Go.RowKit

theorem wp_append_ {P : Program} {o : Oper} {a : Act} {w w' : World} {K : Act → World → Prop} {Q : Exit → Act → World → Prop} (s x : Operand) (t : TypeId) (ho : o.op = .call { callee := .builtin .append, args := #[s, x], argTypes := #[t, t] }) {y z v : Value} (hs : a.eval s = y) (hx : a.eval x = z)
    (hrun : (Builtin.append_ #[t, t] o.type #[y, z]).run P w = .ok v w') (h : K (a.put o.dst v) w') : o.wp P a w K Q := by
  unfold Oper.wp
  simp [execOp, ho, resolve, invoke, builtin, hs, hx, hrun, Result.andThen]
  exact h

/-- a row of records that 'theirs' makes: the row itself is new -/
structure TMid (B : Nat) (w wr : World) (v : Value) (rs : List (Int × List UInt8)) : Prop where
  recs : Rs 92 wr B v rs
  new : ∀ k, v.ownBlock = some k → w.heap.size ≤ k
  bel : Below w.heap.size w wr

def TheirsOut (B : Nat) (w : World) (rs : List (Int × List UInt8)) (e : Ending) (w' : World) : Prop := ∃ A n c, e = .returned (.slice A n c) ∧ n = rs.length ∧ n ≤ c ∧ RsN w' B A rs ∧ Below w.heap.size w w'

set_option maxHeartbeats 2000000 in
theorem theirs_any (B : Nat) (w : World) (A : Option Addr) (n c : Nat) (rs : List (Int × List UInt8)) (hn : n = rs.length) (hn4 : n ≤ 5000) (hr : RsN w B A rs) (hB : B ≤ w.heap.size) : Calls Tryz.prog 30 #[.slice A n c] w (TheirsOut B w rs) := by
  obtain ⟨i0, hi, hz0, hz1, hz2⟩ := info_parts refrec_facts
  have HI := Lib.hid (show _ ∧ _ ∧ _ ∧ _ from ⟨hi, hz0, hz1, hz2⟩)
  clear hi hz0 hz1 hz2
  have HLEN := Lib.hid hn
  have HR := Lib.hid hr
  clear hn hr
  go_enter Tryz.func30, Tryz.ntmps30
  go_wp2_with fail
  go_loopw [3, 4] (fun v u wr => ∃ (i : Nat) (A' : Option Addr) (c' : Nat), u = .int .i64 (i : Int) ∧ v = .slice A' i c' ∧ i ≤ n ∧ Hid (TMid B w wr (.slice A' i c') (rs.take i))) (fun _ u _ => n - (intOf u).toNat)
  case atStart => exact ⟨0, none, 0, rfl, rfl, Nat.zero_le _, Lib.hid (TMid.mk (Rs.nil _ _ _) (fun k h => by cases h) (Below.refl _ _))⟩
  case round =>
    obtain ⟨i, A', c', rfl, rfl, hi, HM⟩ := hrel
    rcases Nat.lt_or_ge i n with hlt | hge
    · rcases HR.out with h0 | ⟨b, e, hb, hp⟩
      · have := HLEN.out; rw [h0] at this; simp at this; omega
      subst e
      have hil : i < rs.length := by rw [← HLEN.out]; exact hlt
      obtain ⟨r, hr⟩ : ∃ r, rs[i]? = some r := ⟨_, List.getElem?_eq_getElem hil⟩
      obtain ⟨k0, Ax, nx, cx, k1, hl, hu⟩ := hp i r hr
      have HTK : Hid (rs.take (i + 1) = rs.take i ++ [r]) := by show _ = _; rw [List.take_add_one, hr]; rfl
      have HTL : Hid ((rs.take i).length = i) := by show _ = _; rw [List.length_take]; omega
      have HLX := Lib.hid hl
      have HUX := Lib.hid hu
      have hwl : w.heap.size ≤ wr.heap.size := HM.out.bel.size
      have HBT : Hid (∀ V, Turn (fun k => w.heap.size ≤ k) wr V → Below w.heap.size w V) := fun V hV => HM.out.bel.trans (hV.below (fun k hk => hk) hwl)
      have v0 : ∀ V, Turn (fun k => w.heap.size ≤ k) wr V → V.cell? ⟨b, i * 2, none⟩ = some (.int .i64 r.1) := fun V hV => ((HBT.out V hV).cell (p := ⟨b, i * 2, none⟩) hb.2).trans k0
      have v1 : ∀ V, Turn (fun k => w.heap.size ≤ k) wr V → V.cell? ⟨b, i * 2 + 1, none⟩ = some (.slice Ax nx cx) := fun V hV => ((HBT.out V hV).cell (p := ⟨b, i * 2 + 1, none⟩) hb.2).trans k1
      have hdj : decide ((i : Int) < (n : Int)) = true := decide_eq_true (by omega)
      have hdj2 : decide (i < n) = true := decide_eq_true hlt
      have hi2 : (i : Int) < (n : Int) := by omega
      have HBL : Hid (b < w.heap.size) := hb.2
      clear hp hr k0 k1 hl hu hb hil
      obtain ⟨rx, ry⟩ := r
      simp only at v0
      replace HLX : Hid (Lies w Ax cx nx ry) := HLX
      replace HUX : Hid (Up B Ax ry) := HUX
      go_upto_region 5 with fail
      refine wp_region_turn (X := (fun k => w.heap.size ≤ k)) (by kernel_rfl) ?_
      have hS : Turn (fun k => w.heap.size ≤ k) wr (World.drew wr) := (Turn.refl _ _).drew
      refine wpAnyH_take (i := 0) (oi := ⟨some 11, _, _, _, _, _⟩) (v := ?_) rfl (by kernel_rfl) (by kernel_rfl) (by kernel_rfl) (fun _ _ _ h => h) (Or.inl ⟨by rfl, ?_⟩) hS ?_
      rotate_left
      · intro W hW; go_simp; with_reducible rfl
      try simp only [Act.put, List.setIfInBounds_toArray, List.set_cons_zero, List.set_cons_succ]
      refine wpAnyH_take (i := 1) (oi := ⟨some 12, _, _, _, _, _⟩) (v := ?_) rfl (by kernel_rfl) (by kernel_rfl) (by kernel_rfl) (fun _ _ _ h => h) (Or.inl ⟨by rfl, ?_⟩) hS ?_
      rotate_left
      · intro W hW; go_simp; with_reducible rfl
      try simp only [Act.put, List.setIfInBounds_toArray, List.set_cons_zero, List.set_cons_succ]
      refine wpAnyH_take (i := 2) (oi := ⟨some 13, _, _, _, _, _⟩) (v := ?_) rfl (by kernel_rfl) (by kernel_rfl) (by kernel_rfl) (fun _ _ _ h => h) (Or.inl ⟨by rfl, ?_⟩) hS ?_
      rotate_left
      · intro W hW; go_simp; with_reducible rfl
      try simp only [Act.put, List.setIfInBounds_toArray, List.set_cons_zero, List.set_cons_succ]
      refine wpAnyH_take (i := 3) (oi := ⟨some 14, _, _, _, _, _⟩) (v := ?_) rfl (by kernel_rfl) (by kernel_rfl) (by kernel_rfl) (fun _ _ _ h => h) (Or.inl ⟨by rfl, ?_⟩) hS ?_
      rotate_left
      · intro W hW; go_simp; with_reducible rfl
      try simp only [Act.put, List.setIfInBounds_toArray, List.set_cons_zero, List.set_cons_succ]
      refine wpAnyH_take (i := 4) (oi := ⟨some 15, _, _, _, _, _⟩) (v := ?_) rfl (by kernel_rfl) (by kernel_rfl) (by kernel_rfl) (fun _ _ _ h => h) (Or.inl ⟨by rfl, ?_⟩) hS ?_
      rotate_left
      · intro W hW; go_simp; with_reducible rfl
      try simp only [Act.put, List.setIfInBounds_toArray, List.set_cons_zero, List.set_cons_succ]
      refine wpAnyH_take (i := 5) (oi := ⟨some 16, _, _, _, _, _⟩) (v := ?_) rfl (by kernel_rfl) (by kernel_rfl) (by kernel_rfl) (fun _ _ _ h => h) (Or.inl ⟨by rfl, ?_⟩) hS ?_
      rotate_left
      · intro W hW; go_simp; with_reducible rfl
      try simp only [Act.put, List.setIfInBounds_toArray, List.set_cons_zero, List.set_cons_succ]
      refine wpAnyH_take (i := 6) (oi := ⟨some 17, _, _, _, _, _⟩) (v := ?_) rfl (by kernel_rfl) (by kernel_rfl) (by kernel_rfl) (fun _ _ _ h => h) (Or.inl ⟨by rfl, ?_⟩) hS ?_
      rotate_left
      · intro W hW; go_simp; with_reducible rfl
      try simp only [Act.put, List.setIfInBounds_toArray, List.set_cons_zero, List.set_cons_succ]
      refine wpAnyH_take (i := 7) (oi := ⟨some 18, _, _, _, _, _⟩) (v := ?_) rfl (by kernel_rfl) (by kernel_rfl) (by kernel_rfl) (fun _ _ _ h => h) (Or.inl ⟨by rfl, ?_⟩) hS ?_
      rotate_left
      · intro W hW; go_simp; with_reducible rfl
      try simp only [Act.put, List.setIfInBounds_toArray, List.set_cons_zero, List.set_cons_succ]
      refine wpAnyH_take (i := 8) (oi := ⟨some 19, _, _, _, _, _⟩) (v := ?_) rfl (by kernel_rfl) (by kernel_rfl) (by kernel_rfl) (fun _ _ _ h => h) (Or.inl ⟨by rfl, ?_⟩) hS ?_
      rotate_left
      · intro W hW; go_simp; with_reducible rfl
      try simp only [Act.put, List.setIfInBounds_toArray, List.set_cons_zero, List.set_cons_succ]
      refine wpAnyH_take (i := 9) (oi := ⟨some 20, _, _, _, _, _⟩) (v := ?_) rfl (by kernel_rfl) (by kernel_rfl) (by kernel_rfl) (fun _ _ _ h => h) (Or.inl ⟨by rfl, ?_⟩) hS ?_
      rotate_left
      · intro W hW; go_simp; with_reducible rfl
      try simp only [Act.put, List.setIfInBounds_toArray, List.set_cons_zero, List.set_cons_succ]
      refine wpAnyH_take (i := 10) (oi := ⟨some 21, _, _, _, _, _⟩) (v := ?_) rfl (by kernel_rfl) (by kernel_rfl) (by kernel_rfl) (fun _ _ _ h => h) (Or.inl ⟨by rfl, ?_⟩) hS ?_
      rotate_left
      · intro W hW; go_simp; with_reducible rfl
      try simp only [Act.put, List.setIfInBounds_toArray, List.set_cons_zero, List.set_cons_succ]
      refine wpAnyH_take (i := 11) (oi := ⟨some 22, _, _, _, _, _⟩) (v := ?_) rfl (by kernel_rfl) (by kernel_rfl) (by kernel_rfl) (fun _ _ _ h => h) (Or.inl ⟨by rfl, ?_⟩) hS ?_
      rotate_left
      · intro W hW; go_simp; with_reducible rfl
      try simp only [Act.put, List.setIfInBounds_toArray, List.set_cons_zero, List.set_cons_succ]
      refine wpAnyH_ready (rs := [12]) (by kernel_rfl) (by simp) ?_
      refine AllReadyH.cons (o := ⟨some 23, _, _, _, _, _⟩) rfl (fun Kr hKr => ?_) AllReadyH.nil
      -- operation 12: a step
      go_simp
      show Kr _ _
      refine hKr.out _ _ ?_ (fun _ => ?_)
      · exact hS.alloc _
      clear hKr Kr
      replace hS : Turn (fun k => w.heap.size ≤ k) wr (wr.drew.alloc (.cells #[.int .i64 rx, .slice Ax nx cx] 92)) := hS.alloc _
      have HBD : Hid (Below wr.heap.size wr (wr.drew.alloc (.cells #[.int .i64 rx, .slice Ax nx cx] 92))) := below_two ((Below.refl wr.heap.size wr).drew) (below_new _ _)
      obtain ⟨hi', hz0, hz1, hz2⟩ := HI.out
      have HRN := Lib.hid (HM.out.recs.below HBD.out)
      have HLN := Lib.hid ((HLX.out.up HM.out.bel).up HBD.out)
      have HFN : Hid (Far Ax ry (Value.slice A' i c').ownBlock) := by rcases HLX.out.lt with h | h; exact .inl h; exact .inr fun a ha e => by have h1 := h a ha; have h2 := HM.out.new _ e.symm; omega
      obtain ⟨v5, w5, hrun, hrs5, hg5, hat5⟩ := run_append_rec (P := Tryz.prog) 36 36 B i0 Tryz.underlying36 hi' hz0 hz1 hz2 (.slice A' i c') (rs.take i) HRN.out i HTL.out wr.heap.size rx Ax nx cx ry (two_cells wr.drew _ _ _ _ (by simp)) HLN.out HFN.out HUX.out (by omega) (by simp; omega)
      have HRUN := Lib.hid hrun
      have HRS5 := Lib.hid hrs5
      have HG5 := Lib.hid hg5
      have HAT5 := Lib.hid hat5
      clear hrun hrs5 hg5 hat5 hi' hz0 hz1 hz2
      try simp only [Act.put, List.setIfInBounds_toArray, List.set_cons_zero, List.set_cons_succ]
      refine wpAnyH_ready (rs := [13]) (by kernel_rfl) (by simp) ?_
      refine AllReadyH.cons (o := ⟨some 24, _, _, _, _, _⟩) rfl (fun Kr hKr => ?_) AllReadyH.nil
      -- operation 13: a step
      rw [if_pos (by kernel_rfl)]
      refine wp_append_ _ _ 36 rfl rfl rfl HRUN.out ?_
      show Kr _ _
      refine hKr.out _ _ ?_ (fun _ => ?_)
      · exact hS.grown HG5.out (fun j hj => .inl (HM.out.new j hj))
      clear hKr Kr
      replace hS : Turn (fun k => w.heap.size ≤ k) wr w5 := hS.grown HG5.out (fun j hj => .inl (HM.out.new j hj))
      try simp only [Act.put, List.setIfInBounds_toArray, List.set_cons_zero, List.set_cons_succ]
      refine wpAnyH_take (i := 14) (oi := ⟨some 3, _, _, _, _, _⟩) (v := ?_) rfl (by kernel_rfl) (by kernel_rfl) (by kernel_rfl) (fun _ _ _ h => h) (Or.inl ⟨by rfl, ?_⟩) hS ?_
      rotate_left
      · intro W hW; go_simp; with_reducible rfl
      try simp only [Act.put, List.setIfInBounds_toArray, List.set_cons_zero, List.set_cons_succ]
      refine wpAnyH_done (by kernel_rfl) ?_ _
      obtain ⟨A6, c6, hv6, _, _⟩ := HRS5.out.form
      have HTL6 : Hid ((rs.take i ++ [(rx, ry)]).length = i + 1) := by show _ = _; rw [List.length_append, HTL.out]; rfl
      rw [HTL6.out] at hv6
      subst hv6
      have HM6 : Hid (TMid B w w5 (.slice A6 (i + 1) c6) (rs.take (i + 1))) := by
        rw [HTK.out]
        refine ⟨HRS5.out, fun k hk => ?_, HBT.out _ hS⟩
        rcases HAT5.out with h | h
        · exact HM.out.new k (by rw [← h]; exact hk)
        · rw [hk] at h
          injection h with h
          rw [h]
          simp
          omega
      clear hS v0 v1
      go_wp2_with fail
      refine ⟨⟨i + 1, A6, c6, by go_num, rfl, by omega, HM6⟩, by simp [intOf]; omega⟩
    · obtain rfl : i = n := by omega
      have hdj : decide ((i : Int) < (i : Int)) = false := decide_eq_false (by omega)
      have hdj2 : decide (i < i) = false := decide_eq_false (by omega)
      have hm := HM.out
      rw [List.take_of_length_le (by rw [← HLEN.out]; exact Nat.le_refl _)] at hm
      obtain ⟨A6, c6, hv6, hn6, hc6⟩ := hm.recs.form
      have hrl : rs.length = i := HLEN.out.symm
      rw [hrl] at hv6 hc6
      injection hv6 with e1 e2 e3
      subst e1 e3
      have HN6 := Lib.hid hn6
      have HB6 := Lib.hid hm.bel
      clear hm hn6
      go_wp2_with fail
      go_ret
      exact ⟨_, _, _, rfl, HLEN.out, hc6, HN6.out, HB6.out⟩

set_option maxHeartbeats 2000000 in
/-- records that are the same -/
theorem same_any (B B' : Nat) (w : World) (A A' : Option Addr) (n c c' : Nat) (rs : List (Int × List UInt8)) (hn : n = rs.length) (hn4 : n ≤ 5000) (hr : RsN w B A rs) (hr' : RsN w B' A' rs) : Calls Tryz.prog 29 #[.slice A n c, .slice A' n c'] w fun e w' => e = .returned (.bool true) ∧ Below w.heap.size w w' := by
  have HLEN := Lib.hid hn
  have HR := Lib.hid hr
  have HR' := Lib.hid hr'
  have hne0 : ((n : Int) != (n : Int)) = false := by simp
  clear hn hr hr'
  go_enter Tryz.func29, Tryz.ntmps29
  go_wp2_with fail
  go_loopw [5] (fun u wr => ∃ i : Nat, u = .int .i64 (i : Int) ∧ i ≤ n ∧ Hid (Below w.heap.size w wr)) (fun u _ => n - (intOf u).toNat)
  case atStart => exact ⟨0, rfl, Nat.zero_le _, Below.refl _ _⟩
  case round =>
    obtain ⟨i, rfl, hi, HB⟩ := hrel
    rcases Nat.lt_or_ge i n with hlt | hge
    · rcases HR.out with h0 | ⟨b, e, hb, hp⟩
      · have := HLEN.out; rw [h0] at this; simp at this; omega
      rcases HR'.out with h0 | ⟨b', e', hb', hp'⟩
      · have := HLEN.out; rw [h0] at this; simp at this; omega
      subst e e'
      have hil : i < rs.length := by rw [← HLEN.out]; exact hlt
      obtain ⟨r, hr⟩ : ∃ r, rs[i]? = some r := ⟨_, List.getElem?_eq_getElem hil⟩
      obtain ⟨k0, Ax, nx, cx, k1, hl, _⟩ := hp i r hr
      obtain ⟨k0', Ax', nx', cx', k1', hl', _⟩ := hp' i r hr
      obtain ⟨rx, ry⟩ := r
      simp only at k0 k0' hl hl'
      have v0 : ∀ V, Since wr V → V.cell? ⟨b, i * 2, none⟩ = some (.int .i64 rx) := fun V hV => ((HB.out.trans (Below.mono hV HB.out.size)).cell (p := ⟨b, i * 2, none⟩) hb.2).trans k0
      have v1 : ∀ V, Since wr V → V.cell? ⟨b, i * 2 + 1, none⟩ = some (.slice Ax nx cx) := fun V hV => ((HB.out.trans (Below.mono hV HB.out.size)).cell (p := ⟨b, i * 2 + 1, none⟩) hb.2).trans k1
      have v0' : ∀ V, Since wr V → V.cell? ⟨b', i * 2, none⟩ = some (.int .i64 rx) := fun V hV => ((HB.out.trans (Below.mono hV HB.out.size)).cell (p := ⟨b', i * 2, none⟩) hb'.2).trans k0'
      have v1' : ∀ V, Since wr V → V.cell? ⟨b', i * 2 + 1, none⟩ = some (.slice Ax' nx' cx') := fun V hV => ((HB.out.trans (Below.mono hV HB.out.size)).cell (p := ⟨b', i * 2 + 1, none⟩) hb'.2).trans k1'
      have w1 : ∀ V, Since wr V → (convert 41 9 (.slice Ax nx cx)).run Tryz.prog V = .ok (.string ⟨ry.toArray⟩) V := fun V hV => (hl.up (HB.out.trans (Below.mono hV HB.out.size))).conv
      have w1' : ∀ V, Since wr V → (convert 41 9 (.slice Ax' nx' cx')).run Tryz.prog V = .ok (.string ⟨ry.toArray⟩) V := fun V hV => (hl'.up (HB.out.trans (Below.mono hV HB.out.size))).conv
      have hne1 : (rx != rx) = false := by simp
      have hdj : decide ((i : Int) < (n : Int)) = true := decide_eq_true (by omega)
      have hdj2 : decide (i < n) = true := decide_eq_true hlt
      have hi2 : (i : Int) < (n : Int) := by omega
      clear hp hp' hr k0 k1 k0' k1' hl hl' hb hb' hil
      go_upto_region 6 with fail
      refine wp_region_since (by kernel_rfl) ?_
      have hS : Since wr (World.drew wr) := (Below.refl _ _).drew
      refine wpAnyH_take (i := 0) (oi := ⟨some 17, _, _, _, _, _⟩) (v := ?_) rfl (by kernel_rfl) (by kernel_rfl) (by kernel_rfl) (fun _ _ _ h => h) (Or.inl ⟨by rfl, ?_⟩) hS ?_
      rotate_left
      · intro W hW; go_simp; with_reducible rfl
      try simp only [Act.put, List.setIfInBounds_toArray, List.set_cons_zero, List.set_cons_succ]
      refine wpAnyH_take (i := 1) (oi := ⟨some 18, _, _, _, _, _⟩) (v := ?_) rfl (by kernel_rfl) (by kernel_rfl) (by kernel_rfl) (fun _ _ _ h => h) (Or.inl ⟨by rfl, ?_⟩) hS ?_
      rotate_left
      · intro W hW; go_simp; with_reducible rfl
      try simp only [Act.put, List.setIfInBounds_toArray, List.set_cons_zero, List.set_cons_succ]
      refine wpAnyH_take (i := 2) (oi := ⟨some 19, _, _, _, _, _⟩) (v := ?_) rfl (by kernel_rfl) (by kernel_rfl) (by kernel_rfl) (fun _ _ _ h => h) (Or.inl ⟨by rfl, ?_⟩) hS ?_
      rotate_left
      · intro W hW; go_simp; with_reducible rfl
      try simp only [Act.put, List.setIfInBounds_toArray, List.set_cons_zero, List.set_cons_succ]
      refine wpAnyH_take (i := 3) (oi := ⟨some 20, _, _, _, _, _⟩) (v := ?_) rfl (by kernel_rfl) (by kernel_rfl) (by kernel_rfl) (fun _ _ _ h => h) (Or.inl ⟨by rfl, ?_⟩) hS ?_
      rotate_left
      · intro W hW; go_simp; with_reducible rfl
      try simp only [Act.put, List.setIfInBounds_toArray, List.set_cons_zero, List.set_cons_succ]
      refine wpAnyH_take (i := 4) (oi := ⟨some 21, _, _, _, _, _⟩) (v := ?_) rfl (by kernel_rfl) (by kernel_rfl) (by kernel_rfl) (fun _ _ _ h => h) (Or.inl ⟨by rfl, ?_⟩) hS ?_
      rotate_left
      · intro W hW; go_simp; with_reducible rfl
      try simp only [Act.put, List.setIfInBounds_toArray, List.set_cons_zero, List.set_cons_succ]
      refine wpAnyH_take (i := 5) (oi := ⟨some 22, _, _, _, _, _⟩) (v := ?_) rfl (by kernel_rfl) (by kernel_rfl) (by kernel_rfl) (fun _ _ _ h => h) (Or.inl ⟨by rfl, ?_⟩) hS ?_
      rotate_left
      · intro W hW; go_simp; with_reducible rfl
      try simp only [Act.put, List.setIfInBounds_toArray, List.set_cons_zero, List.set_cons_succ]
      refine wpAnyH_take (i := 6) (oi := ⟨some 23, _, _, _, _, _⟩) (v := ?_) rfl (by kernel_rfl) (by kernel_rfl) (by kernel_rfl) (fun _ _ _ h => h) (Or.inl ⟨by rfl, ?_⟩) hS ?_
      rotate_left
      · intro W hW; go_simp; with_reducible rfl
      try simp only [Act.put, List.setIfInBounds_toArray, List.set_cons_zero, List.set_cons_succ]
      refine wpAnyH_take (i := 7) (oi := ⟨some 24, _, _, _, _, _⟩) (v := ?_) rfl (by kernel_rfl) (by kernel_rfl) (by kernel_rfl) (fun _ _ _ h => h) (Or.inl ⟨by rfl, ?_⟩) hS ?_
      rotate_left
      · intro W hW; go_simp; with_reducible rfl
      try simp only [Act.put, List.setIfInBounds_toArray, List.set_cons_zero, List.set_cons_succ]
      refine wpAnyH_take (i := 8) (oi := ⟨some 25, _, _, _, _, _⟩) (v := ?_) rfl (by kernel_rfl) (by kernel_rfl) (by kernel_rfl) (fun _ _ _ h => h) (Or.inl ⟨by rfl, ?_⟩) hS ?_
      rotate_left
      · intro W hW; go_simp; with_reducible rfl
      try simp only [Act.put, List.setIfInBounds_toArray, List.set_cons_zero, List.set_cons_succ]
      refine wpAnyH_take (i := 9) (oi := ⟨some 26, _, _, _, _, _⟩) (v := ?_) rfl (by kernel_rfl) (by kernel_rfl) (by kernel_rfl) (fun _ _ _ h => h) (Or.inl ⟨by rfl, ?_⟩) hS ?_
      rotate_left
      · intro W hW; go_simp; with_reducible rfl
      try simp only [Act.put, List.setIfInBounds_toArray, List.set_cons_zero, List.set_cons_succ]
      refine wpAnyH_take (i := 10) (oi := ⟨some 27, _, _, _, _, _⟩) (v := ?_) rfl (by kernel_rfl) (by kernel_rfl) (by kernel_rfl) (fun _ _ _ h => h) (Or.inl ⟨by rfl, ?_⟩) hS ?_
      rotate_left
      · intro W hW; go_simp; with_reducible rfl
      try simp only [Act.put, List.setIfInBounds_toArray, List.set_cons_zero, List.set_cons_succ]
      refine wpAnyH_take (i := 11) (oi := ⟨some 28, _, _, _, _, _⟩) (v := ?_) rfl (by kernel_rfl) (by kernel_rfl) (by kernel_rfl) (fun _ _ _ h => h) (Or.inl ⟨by rfl, ?_⟩) hS ?_
      rotate_left
      · intro W hW; go_simp; with_reducible rfl
      try simp only [Act.put, List.setIfInBounds_toArray, List.set_cons_zero, List.set_cons_succ]
      refine wpAnyH_take (i := 12) (oi := ⟨some 29, _, _, _, _, _⟩) (v := ?_) rfl (by kernel_rfl) (by kernel_rfl) (by kernel_rfl) (fun _ _ _ h => h) (Or.inl ⟨by rfl, ?_⟩) hS ?_
      rotate_left
      · intro W hW; go_simp; with_reducible rfl
      try simp only [Act.put, List.setIfInBounds_toArray, List.set_cons_zero, List.set_cons_succ]
      refine wpAnyH_take (i := 13) (oi := ⟨some 30, _, _, _, _, _⟩) (v := ?_) rfl (by kernel_rfl) (by kernel_rfl) (by kernel_rfl) (fun _ _ _ h => h) (Or.inl ⟨by rfl, ?_⟩) hS ?_
      rotate_left
      · intro W hW; go_simp; with_reducible rfl
      try simp only [Act.put, List.setIfInBounds_toArray, List.set_cons_zero, List.set_cons_succ]
      refine wpAnyH_take (i := 14) (oi := ⟨some 31, _, _, _, _, _⟩) (v := ?_) rfl (by kernel_rfl) (by kernel_rfl) (by kernel_rfl) (fun _ _ _ h => h) (Or.inl ⟨by rfl, ?_⟩) hS ?_
      rotate_left
      · intro W hW; go_simp; with_reducible rfl
      try simp only [Act.put, List.setIfInBounds_toArray, List.set_cons_zero, List.set_cons_succ]
      refine wpAnyH_take (i := 15) (oi := ⟨some 32, _, _, _, _, _⟩) (v := ?_) rfl (by kernel_rfl) (by kernel_rfl) (by kernel_rfl) (fun _ _ _ h => h) (Or.inl ⟨by rfl, ?_⟩) hS ?_
      rotate_left
      · intro W hW; go_simp; with_reducible rfl
      try simp only [Act.put, List.setIfInBounds_toArray, List.set_cons_zero, List.set_cons_succ]
      refine wpAnyH_take (i := 16) (oi := ⟨some 33, _, _, _, _, _⟩) (v := ?_) rfl (by kernel_rfl) (by kernel_rfl) (by kernel_rfl) (fun _ _ _ h => h) (Or.inl ⟨by rfl, ?_⟩) hS ?_
      rotate_left
      · intro W hW; go_simp; with_reducible rfl
      try simp only [Act.put, List.setIfInBounds_toArray, List.set_cons_zero, List.set_cons_succ]
      refine wpAnyH_take (i := 17) (oi := ⟨some 34, _, _, _, _, _⟩) (v := ?_) rfl (by kernel_rfl) (by kernel_rfl) (by kernel_rfl) (fun _ _ _ h => h) (Or.inl ⟨by rfl, ?_⟩) hS ?_
      rotate_left
      · intro W hW; go_simp; with_reducible rfl
      try simp only [Act.put, List.setIfInBounds_toArray, List.set_cons_zero, List.set_cons_succ]
      refine wpAnyH_take (i := 18) (oi := ⟨some 35, _, _, _, _, _⟩) (v := ?_) rfl (by kernel_rfl) (by kernel_rfl) (by kernel_rfl) (fun _ _ _ h => h) (Or.inl ⟨by rfl, ?_⟩) hS ?_
      rotate_left
      · intro W hW; go_simp; with_reducible rfl
      try simp only [Act.put, List.setIfInBounds_toArray, List.set_cons_zero, List.set_cons_succ]
      refine wpAnyH_take (i := 19) (oi := ⟨some 36, _, _, _, _, _⟩) (v := ?_) rfl (by kernel_rfl) (by kernel_rfl) (by kernel_rfl) (fun _ _ _ h => h) (Or.inl ⟨by rfl, ?_⟩) hS ?_
      rotate_left
      · intro W hW; go_simp; with_reducible rfl
      try simp only [Act.put, List.setIfInBounds_toArray, List.set_cons_zero, List.set_cons_succ]
      refine wpAnyH_take (i := 20) (oi := ⟨some 37, _, _, _, _, _⟩) (v := ?_) rfl (by kernel_rfl) (by kernel_rfl) (by kernel_rfl) (fun _ _ _ h => h) (Or.inl ⟨by rfl, ?_⟩) hS ?_
      rotate_left
      · intro W hW; go_simp; with_reducible rfl
      try simp only [Act.put, List.setIfInBounds_toArray, List.set_cons_zero, List.set_cons_succ]
      refine wpAnyH_take (i := 21) (oi := ⟨some 38, _, _, _, _, _⟩) (v := ?_) rfl (by kernel_rfl) (by kernel_rfl) (by kernel_rfl) (fun _ _ _ h => h) (Or.inl ⟨by rfl, ?_⟩) hS ?_
      rotate_left
      · intro W hW; go_simp; with_reducible rfl
      try simp only [Act.put, List.setIfInBounds_toArray, List.set_cons_zero, List.set_cons_succ]
      refine wpAnyH_take (i := 22) (oi := ⟨some 39, _, _, _, _, _⟩) (v := ?_) rfl (by kernel_rfl) (by kernel_rfl) (by kernel_rfl) (fun _ _ _ h => h) (Or.inl ⟨by rfl, ?_⟩) hS ?_
      rotate_left
      · intro W hW; go_simp; with_reducible rfl
      try simp only [Act.put, List.setIfInBounds_toArray, List.set_cons_zero, List.set_cons_succ]
      refine wpAnyH_take (i := 23) (oi := ⟨some 40, _, _, _, _, _⟩) (v := ?_) rfl (by kernel_rfl) (by kernel_rfl) (by kernel_rfl) (fun _ _ _ h => h) (Or.inl ⟨by rfl, ?_⟩) hS ?_
      rotate_left
      · intro W hW; go_simp; with_reducible rfl
      try simp only [Act.put, List.setIfInBounds_toArray, List.set_cons_zero, List.set_cons_succ]
      refine wpAnyH_take (i := 24) (oi := ⟨some 41, _, _, _, _, _⟩) (v := ?_) rfl (by kernel_rfl) (by kernel_rfl) (by kernel_rfl) (fun _ _ _ h => h) (Or.inl ⟨by rfl, ?_⟩) hS ?_
      rotate_left
      · intro W hW; go_simp; with_reducible rfl
      try simp only [Act.put, List.setIfInBounds_toArray, List.set_cons_zero, List.set_cons_succ]
      refine wpAnyH_take (i := 25) (oi := ⟨some 42, _, _, _, _, _⟩) (v := ?_) rfl (by kernel_rfl) (by kernel_rfl) (by kernel_rfl) (fun _ _ _ h => h) (Or.inl ⟨by rfl, ?_⟩) hS ?_
      rotate_left
      · intro W hW; go_simp; with_reducible rfl
      try simp only [Act.put, List.setIfInBounds_toArray, List.set_cons_zero, List.set_cons_succ]
      refine wpAnyH_done (by kernel_rfl) ?_ _
      have HB2 : Hid (Below w.heap.size w wr.drew) := HB.out.trans (Below.mono hS HB.out.size)
      clear hS v0 v1 v0' v1' w1 w1' hne1
      go_wp2_with fail
      refine ⟨⟨i + 1, by go_num, by omega, HB2⟩, by simp [intOf]; omega⟩
    · obtain rfl : i = n := by omega
      have hdj : decide ((i : Int) < (i : Int)) = false := decide_eq_false (by omega)
      have hdj2 : decide (i < i) = false := decide_eq_false (by omega)
      go_wp2_with fail
      go_ret
      exact ⟨rfl, HB.out⟩

end Go.Proofs.YtdjfahnnfhediaaGreat
