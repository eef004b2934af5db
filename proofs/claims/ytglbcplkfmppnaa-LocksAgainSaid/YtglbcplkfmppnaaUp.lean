/-
  The way up, by a range over a function: its contract, for every loop body that keeps the tree and the maps.
-/
import Derived.Test.YtglbcplkfmppnaaTv
namespace Go.Proofs.Ytglbcplkfmppnaa
set_option maxRecDepth 100000
set_option linter.unusedVariables false
open Go.RowKit Go.Shelf
attribute [local go_sem] Oper.semAt_some

/-- what a round keeps: walks lie as they lay, and all that was there but blocks of S -/
structure Kp (S : Nat → Prop) (W W' : World) : Prop where
  walks : KeepsWalks W W'
  turn : Turn S W W'

theorem Kp.t {S : Nat → Prop} {a b c : World} (h : Kp S a b) (k : Kp S b c) : Kp S a c := ⟨h.walks.trans k.walks, h.turn.trans k.turn⟩
theorem Kp.b {S : Nat → Prop} {w : World} (hS : ∀ k, w.heap.size ≤ k → S k) (W : World) (l : Nat) (o o' : Obj) (hl : w.heap.size ≤ l) (h : W.heap[l]? = some o) (_ : o.isCells = false) (hw : o.isWalk = false) : Kp S W (W.putObj l o') :=
  ⟨KeepsWalks.putObj _ h hw, (Turn.refl S W).grown (grownBy_putObj' W l o') (fun j e => by cases e; exact .inl (hS l hl))⟩

theorem cell_al {W : World} {a : Addr} {v : Value} (o : Obj) (h : W.cell? a = some v) : (W.alloc o).cell? a = some v := cell_kept h (World.grownBy_alloc W o none) (fun r e => by cases e)
theorem cell_new (w : World) (cs : Array Value) (ty : TypeId) (j : Nat) : (w.alloc (.cells cs ty)).cell? ⟨w.heap.size, j, none⟩ = cs[j]? := cell_of_row _ _ _ _ _ _ (heap_alloc_new w _)
theorem frozen_new (w : World) (cs : Array Value) (ty : TypeId) (j : Nat) : (w.alloc (.cells cs ty)).frozen? ⟨w.heap.size, j, none⟩ = false := by
  have h := heap_alloc_new w (.cells cs ty)
  unfold World.frozen?
  simp only [h]
  simp
/-- an ID's number, of n -/
abbrev Id (n : Nat) := Fin n

theorem wfN {z : Int} (h0 : -1 ≤ z) (h1 : z ≤ 1000) : (Lit.int .i64 z).wf = true := by
  simp only [Lit.wf, Bool.and_eq_true, decide_eq_true_eq]
  exact ⟨show (-9223372036854775808 : Int) ≤ z by omega, show z ≤ (9223372036854775807 : Int) by omega⟩

theorem way_step {T : Tr} (hG : Good T) {i : Nat} (hi : i < T.l.length) : T.way (i : Int) = i :: T.way (T.tx i).p := by
  rw [Tr.way_nat hi]
  have hp := hG.par i hi
  by_cases h0 : 0 ≤ (T.tx i).p
  · obtain ⟨j, hj⟩ : ∃ j : Nat, (T.tx i).p = j := ⟨(T.tx i).p.toNat, by omega⟩
    rw [wayN_up (f := T.par) (j := j) hj (by omega), hj, Tr.way_nat (by omega)]
  · rw [wayN_top (f := T.par) (show (T.tx i).p < 0 by omega), Tr.way_none (by omega)]

theorem way_len {T : Tr} (hG : Good T) (i : Int) : (T.way i).length ≤ 8 := by
  unfold Tr.way
  split
  · next h => exact hG.deep _ (by omega)
  · simp

theorem way_prefix {pre : List Nat} {i : Nat} {l : List Nat} : (pre ++ [i]) <+: pre ++ i :: l := ⟨l, by simp⟩

open Go.Maps in
set_option maxHeartbeats 4000000 in
theorem up1_in (n : Nat) (hn : 2 ≤ n) (l Bi Bt : Nat) (S : Nat → Prop) (A : Option Addr) (T : Tr) (N cap : Nat) (c i : Int) (hN : T.l.length = N) (hG : Good T) (J Jx : List (Id N) → World → Prop)
    (hA : ∀ b o, A = some ⟨b, o, none⟩ → T.l = [] ∨ ¬ S b) (hSt : ¬ S Bt)
    (W : World) (hJ : AbidesFrom W.heap.size J)
    (hY : ∀ pre x W1, J pre W1 → pre.length < 9 → YieldAt Fence.wide (n - 1) Try.prog l #[.int .i64 ((x : Id N).val : Int)] W1 fun e W' =>
      (e = .returned (.bool true) ∧ J (pre ++ [x]) W' ∧ Kp S W1 W') ∨ (e = .returned (.bool false) ∧ Jx (pre ++ [x]) W'))
    (ci : W.cell? ⟨Bi, 0, none⟩ = some (.int .i64 i)) (ct0 : W.cell? ⟨Bt, 0, none⟩ = some (.slice A N cap)) (ct1 : W.cell? ⟨Bt, 1, none⟩ = some (.int .i64 c)) (hT : TxAt W A T.l) (h0 : J [] W) :
    CallsIn Fence.wide n Try.prog 40 #[.func (.yield l) #[] #[], .pointer (some ⟨Bi, 0, none⟩), .pointer (some ⟨Bt, 0, none⟩)] W fun e W' => (∃ v, e = .returned v) ∧
      ((∃ xs : List (Id N), xs.map (·.val) = T.way i ∧ J xs W') ∨ (∃ pre : List (Id N), pre.map (·.val) <+: T.way i ∧ Jx pre W')) := by
  have hmm := @run_makeMap Try.prog
  have HG := Lib.hid hG
  have HY := Lib.hid hY
  have HT := Lib.hid hT
  have HJ := Lib.hid hJ
  have HN := Lib.hid hN
  have H0 := Lib.hid h0
  have hn64 : N ≤ 64 := by have := hG.n; omega
  clear hG hY hT hJ hN h0
  refine callsIn_of_wp Try.func40 rfl trivial ?_ rfl
  simp only [Try.ntmps40, List.size_toArray, List.length_cons, List.length_nil, Nat.reduceAdd, Nat.reduceSub, Array.replicate_succ, Array.replicate_zero, List.push_toArray, List.append_toArray, List.nil_append, List.cons_append]
  have hc := cell_al (.map #[] 0) ci
  have hc0 := cell_al (.map #[] 0) ct0
  have hc1 := cell_al (.map #[] 0) ct1
  gi_wp2
  have hM0 := World.ownsMap_made W Try.prog 3 (unitElem (H := Unit))
  have HW := Lib.hid (below_new W (.map #[] 0))
  obtain ⟨Bm, hBm⟩ : ∃ Bm, W.heap.size = Bm := ⟨_, rfl⟩
  rw [hBm] at hM0
  have HM := Lib.hid hM0
  clear hM0
  have H1 := Lib.hid (World.grownBy_alloc W (.map #[] 0) none)
  have hBi : Bt < W.heap.size := block_lt_of_cell (a := ⟨Bt, 0, none⟩) ct0
  have HL := Lib.hid (show Bm < (W.alloc (.map #[] 0)).heap.size by simp; omega)
  have HT1 := Lib.hid (HT.out.below HW.out)
  have HAB := Lib.hid (show T.l = [] ∨ ∀ b o, A = some ⟨b, o, none⟩ → b < W.heap.size from by
    rcases HT.out with h | ⟨b, e, hb, _⟩
    · exact .inl h.2
    · exact .inr fun b' o' e' => by rw [e] at e'; injection e' with e'; injection e' with e1; omega)
  have HJ0 := Lib.hid (HJ.out [] _ _ none H0.out H1.out (fun r e => by cases e))
  rw [hBm] at hBi ⊢
  have HBM := Lib.hid hBm
  clear hBm
  generalize W.alloc (.map #[] 0) = W1 at *
  clear hc ci ct0 ct1 HT H0 HW H1
  gi_loopw [5] (fun p wr => ∃ (pre : List (Id N)) (z : Int) (D : DataW Unit), p = .int .i64 z ∧ Hid (pre.map (·.val) ++ T.way z = T.way i) ∧ Hid (J pre wr) ∧ Hid (wr.ownsMap Try.prog 3 unitElem Bm pre.length D) ∧
      Hid (∀ y : Int, y ≤ z → Maps.has D (.int .i64 y) = false) ∧ wr.cell? ⟨Bt, 0, none⟩ = some (.slice A N cap) ∧ wr.cell? ⟨Bt, 1, none⟩ = some (.int .i64 c) ∧ Hid (TxAt wr A T.l) ∧ Hid (Bm < wr.heap.size))
    (fun p _ => (intOf p + 1).toNat)
  case atStart => exact ⟨[], i, .map [], rfl, rfl, HJ0.out, HM.out, fun y _ => rfl, hc0, hc1, HT1.out, HL.out⟩
  case round =>
    obtain ⟨pre, z, D, rfl, hpre, hJp, hown, hD, kt0, kt1, hT2, hL2⟩ := hrel
    clear hc0 hc1 HT1 HJ0 HM HL
    have hk := known_any A N cap c z wr
    by_cases hin : 0 ≤ z ∧ z < (N : Int)
    · rw [decide_eq_true hin] at hk
      obtain ⟨x, rfl⟩ : ∃ x : Nat, z = x := ⟨z.toNat, by omega⟩
      have hx : x < N := by omega
      have hxl : x < T.l.length := by rw [HN.out]; exact hx
      obtain ⟨w1, hw1⟩ : ∃ w1, w1 = wr.alloc (.cells #[.slice A N cap, .int .i64 c] 26) := ⟨_, rfl⟩
      obtain ⟨w2, hw2⟩ : ∃ w2, w2 = w1.alloc (.cells #[] 75) := ⟨_, rfl⟩
      have g1 : wr.grownBy w1 none := by rw [hw1]; exact World.grownBy_alloc _ _ _
      have g2 : w1.grownBy w2 none := by rw [hw2]; exact World.grownBy_alloc _ _ _
      have hown1 := hown.out.kept g1 (by simp)
      have hown2 := hown1.kept g2 (by simp)
      have J1 := HJ.out pre _ _ none hJp.out g1 (fun r e => by cases e)
      have J2 := HJ.out pre _ _ none J1 g2 (fun r e => by cases e)
      have hway := way_step HG.out hxl
      have hlen : pre.length < 9 := by
        have h1 : (T.way i).length ≤ 8 := way_len HG.out i
        rw [← hpre.out] at h1
        simp at h1
        omega
      obtain ⟨fn, tmps, assign, body, hy, hR⟩ := HY.out pre ⟨x, hx⟩ w2 J2 hlen
      dsimp only at hy
      have hkey : keyOf Try.prog 3 (.int .i64 (x : Int)) = some (.int .i64 (x : Int)) := keyOf_int_mk Try.underlying3 (wfN (by omega) (by omega))
      have hDx := hD.out x (Int.le_refl _)
      have HK := Lib.hid hk
      clear hk hown hJp J1 J2 g1 g2 hown2
      have HO1 := Lib.hid hown1
      subst hw2
      have HW1 := Lib.hid hw1
      clear hown1 hw1
      gi_wp2_with fail
      refine ⟨trivial, fun _ => by omega, (callsIn_wide.2 HK.out).mono ?_⟩
      rintro e w1' ⟨rfl, hw⟩
      obtain rfl : w1' = w1 := by rw [HW1.out, hw]
      clear HK hw
      have hown1 := HO1.out
      gi_wp2_with (first | (gi_at_lookup; refine wpListIn_lookup_own_unit _ rfl _ _ 74 rfl 3 75 (int_keyed Try.underlying3) Try.underlying74 (Try.zeroValue75 _) Bm pre.length D rfl hown1 _ _ rfl hkey ?_; rw [hDx]; clear hown1) | fail)
      refine ⟨fun _ => by omega, hR.mono ?_⟩
      rintro e W3 (⟨rfl, hJ3, hk3⟩ | ⟨rfl, hJx3⟩)
      · have ht3 : Turn S wr W3 := ((Turn.ofBelow (by rw [HW1.out]; exact below_new wr _)).trans ((Turn.refl S w1').alloc _)).trans hk3.turn
        have hown3 : W3.ownsMap Try.prog 3 unitElem Bm pre.length D := by
          have h2 := HO1.out.alloc (.cells #[] 75)
          obtain ⟨es, cl, h1, h2⟩ := h2
          exact ⟨es, cl, hk3.walks.same _ _ h1 rfl, h2⟩
        have c0 := ht3.cell kt0 hSt
        have c1 := ht3.cell kt1 hSt
        have hT3 := hT2.out.turn ht3 hA
        obtain ⟨b, hAe, hb, p0, _, _, _⟩ := hT3.get hxl
        have hbm : b < Bm := by
          rcases HAB.out with h | h
          · rw [h] at hxl; simp at hxl
          · have h1 := h b 0 hAe
            have h2 := HBM.out
            omega
        subst hAe
        have hp := HG.out.par x hxl
        have HJ3 := Lib.hid hJ3
        have HT3 := Lib.hid hT3
        have hM3 : ∃ es cl, W3.heap[Bm]? = some (.map es cl) := by obtain ⟨es, cl, h1, _⟩ := hown3; exact ⟨es, cl, h1⟩
        have hsz3 : Bm < W3.heap.size := by obtain ⟨es, cl, h1⟩ := hM3; exact lt_of_block h1
        have HM3 := Lib.hid hM3
        have HS3 := Lib.hid hsz3
        clear hM3 hJ3 hT3 hk3 ht3 kt0 kt1 hT2 hsz3 hR hy HO1
        obtain ⟨z, hz2⟩ : ∃ z, z = (T.tx x).p := ⟨_, rfl⟩
        rw [← hz2] at p0 hp hway
        have HZ2 := Lib.hid hz2
        clear hz2
        gi_wp2_with (first | (gi_at_mapUpdate; refine wpListIn_mapUpdate_own _ rfl _ _ _ 74 rfl 3 75 (int_keyed Try.underlying3) Try.underlying74 unitElem Bm pre.length D rfl hown3 (by unfold maxLen; omega) _ _ _ rfl rfl hkey _ [] unitElem_mk ?_; intro w4 hown4 hg4; have q0 := (World.cell?_of_block (a := ⟨Bt, 0, none⟩) (hg4.block Bt (by have := HS3.out; omega) (by simp; omega))).trans c0; have q1 := (World.cell?_of_block (a := ⟨Bt, 1, none⟩) (hg4.block Bt (by have := HS3.out; omega) (by simp; omega))).trans c1; have q2 := (World.cell?_of_block (a := ⟨b, x * 4, none⟩) (hg4.block b (by omega) (by simp; omega))).trans p0; have HO4 := Lib.hid hown4; have HG4 := Lib.hid hg4; clear hown4 hg4 c0 c1 p0 hown3) | fail)
        go_roundw
        case rel =>
          refine ⟨pre ++ [⟨x, hx⟩], z, _, rfl, ?_, ?_, by have := HO4.out; simpa [Hid] using this, fun y hy => ?_, q0, q1, HT3.out.turn (S := fun k => k = Bm) ((Turn.refl _ W3).grown HG4.out (fun j e => by injection e with e; exact .inl e.symm)) (fun b' o' e => .inr fun h => by injection e with e; injection e with e1; omega), Nat.lt_of_lt_of_le HS3.out HG4.out.size⟩
          · have h1 : pre.map (·.val) ++ T.way x = T.way i := hpre.out
            rw [hway] at h1
            show List.map _ (pre ++ [_]) ++ _ = _
            rw [← h1]; simp
          · exact HJ.out _ _ _ _ HJ3.out HG4.out (fun r e => by injection e with e; subst e; obtain ⟨es, cl, h1⟩ := HM3.out; exact ⟨Nat.le_of_eq HBM.out, _, h1, rfl⟩)
          · rw [has_put_other (by intro e; injection e with _ e; omega)]
            exact hD.out y (by omega)
        case measure => simp [intOf]; omega
      · gi_wp2
        refine bodyPost_ret (results_none rfl _ _ _) rfl ?_
        refine ⟨⟨_, rfl⟩, .inr ⟨pre ++ [⟨x, hx⟩], ?_, hJx3⟩⟩
        have h1 : pre.map (·.val) ++ T.way x = T.way i := hpre.out
        rw [← h1, hway]
        simp
    · rw [decide_eq_false hin] at hk
      have HK := Lib.hid hk
      clear hk
      gi_wp2_with fail
      refine ⟨trivial, fun _ => by omega, (callsIn_wide.2 HK.out).mono ?_⟩
      rintro e w1 ⟨rfl, hw⟩
      have HW1 := Lib.hid hw
      clear hw
      gi_wp2
      go_end0
      refine ⟨⟨_, rfl⟩, .inl ⟨pre, ?_, HJ.out _ _ _ none hJp.out (by rw [HW1.out]; exact World.grownBy_alloc _ _ _) (fun r e => by cases e)⟩⟩
      have h1 : pre.map (·.val) ++ T.way z = T.way i := hpre.out
      rw [Tr.way_none (by rw [HN.out]; omega), List.append_nil] at h1
      exact h1

/-- **the function value that 'up' answers, as an iterator** -/
theorem up_stops (n : Nat) (hn : 2 ≤ n) (S : Nat → Prop) (A : Option Addr) (T : Tr) (N cap : Nat) (c i : Int) (hN : T.l.length = N) (hG : Good T) (w : World) (hT : TxAt w A T.l)
    (hA : ∀ b o, A = some ⟨b, o, none⟩ → T.l = [] ∨ ¬ S b) (hSt : ¬ S w.heap.size) :
    SeqStopsK Fence.wide n Try.prog 40 #[.pointer (some ⟨w.heap.size + 1, 0, none⟩), .pointer (some ⟨w.heap.size, 0, none⟩)] (fun x : Id N => #[Value.int .i64 (x.val : Int)]) (Kp S) (fun xs => xs.map (·.val) = T.way i) (fun pre => pre.map (·.val) <+: T.way i) 9
      ((w.alloc (.cells #[.slice A N cap, .int .i64 c] 26)).alloc (.cells #[.int .i64 i] 3)) := fun l J Jx W hW hJ _ hY h0 => by
  have k0 := cell_al (.cells #[.int .i64 i] 3) ((cell_new w #[.slice A N cap, .int .i64 c] 26 0).trans rfl)
  have k1 := cell_al (.cells #[.int .i64 i] 3) ((cell_new w #[.slice A N cap, .int .i64 c] 26 1).trans rfl)
  have k2 := (cell_new (w.alloc (.cells #[.slice A N cap, .int .i64 c] 26)) #[.int .i64 i] 3 0).trans rfl
  have hT2 : TxAt ((w.alloc (.cells #[.slice A N cap, .int .i64 c] 26)).alloc (.cells #[.int .i64 i] 3)) A T.l := (hT.below (below_new w _)).below (below_new _ _)
  refine up1_in n hn l (w.heap.size + 1) w.heap.size S A T N cap c i hN hG J Jx hA hSt W hJ hY ((hW.cell (p := ⟨w.heap.size + 1, 0, none⟩) (by simp)).trans ?_) ((hW.cell (p := ⟨w.heap.size, 0, none⟩) (by simp; omega)).trans k0) ((hW.cell (p := ⟨w.heap.size, 1, none⟩) (by simp; omega)).trans k1) (hT2.below hW) h0
  simp

end Go.Proofs.Ytglbcplkfmppnaa
