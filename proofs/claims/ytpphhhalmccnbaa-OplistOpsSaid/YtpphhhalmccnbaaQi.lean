/-
  slices.Backward of entries.
-/
import Derived.Test.YtpphhhalmccnbaaQh
import Derived.Test.YtpphhhalmccnbaaQs
namespace Go.Proofs.Ytpphhhalmccnbaa
set_option maxRecDepth 100000
set_option linter.unusedVariables false
set_option linter.unusedSimpArgs false
open Go.RowKit Go.Shelf
attribute [local go_sem] Oper.semAt_some

/-- the places from the last on, so many -/
def rv (L k : Nat) : List Nat := (List.range k).map fun j => L - 1 - j
theorem rv_succ (L k : Nat) : rv L (k + 1) = rv L k ++ [L - 1 - k] := by unfold rv; rw [List.range_succ, List.map_append]; rfl
theorem rv_len (L k : Nat) : (rv L k).length = k := by unfold rv; simp

set_option maxHeartbeats 4000000 in
theorem back1_in (K : World → World → Prop) (n : Nat) (hn : 2 ≤ n) (l Bb : Nat) (S : Nat → Prop) (A : Option Addr) (T : List En) (L c : Nat) (hL64 : L ≤ 1000) (J Jx : List (Fin L) → World → Prop)
    (hA : ∀ b o, A = some ⟨b, o, none⟩ → ¬ S b) (hSt : ¬ S Bb) (hK : ∀ a b, K a b → Turn S a b) (W : World)
    (hY : ∀ pre x W1, J pre W1 → pre.length < L → YieldAt Fence.wide (n - 1) Try.prog l #[.int .i64 ((x : Fin L).val : Int), etV (T.getD x.val enD)] W1 fun e W' =>
      (e = .returned (.bool true) ∧ J (pre ++ [x]) W' ∧ K W1 W') ∨ (e = .returned (.bool false) ∧ Jx (pre ++ [x]) W'))
    (ct : W.cell? ⟨Bb, 0, none⟩ = some (.slice A L c)) (hT : EsAt REo W A L T) (h0 : J [] W) :
    CallsIn Fence.wide n Try.prog 57 #[.func (.yield l) #[] #[], .pointer (some ⟨Bb, 0, none⟩)] W fun e W' => (∃ v, e = .returned v) ∧
      ((∃ xs : List (Fin L), xs.map (·.val) = rv L L ∧ J xs W') ∨ (∃ pre : List (Fin L), True ∧ Jx pre W')) := by
  have HY := Lib.hid hY
  have HT := Lib.hid hT
  have H0 := Lib.hid h0
  have HKK := Lib.hid hK
  have HA := Lib.hid hA
  clear hY hT h0 hK hA
  refine callsIn_of_wp Try.func57 rfl trivial ?_ rfl
  simp only [Try.ntmps57, List.size_toArray, List.length_cons, List.length_nil, Nat.reduceAdd, Nat.reduceSub, Array.replicate_succ, Array.replicate_zero, List.push_toArray, List.append_toArray, List.nil_append, List.cons_append]
  gi_wp2
  gi_loopw [3] (fun p wr => ∃ (pre : List (Fin L)) (j : Nat), p = .int .i64 ((j : Int) - 1) ∧ j + pre.length = L ∧ Hid (pre.map (·.val) = rv L pre.length) ∧ Hid (J pre wr) ∧ wr.cell? ⟨Bb, 0, none⟩ = some (.slice A L c) ∧ Hid (EsAt REo wr A L T))
    (fun p _ => (intOf p + 1).toNat)
  case atStart => exact ⟨[], L, rfl, by simp, rfl, H0, ct, HT⟩
  case round =>
    obtain ⟨pre, j, rfl, hj, hpre, hJp, kt, hT2⟩ := hrel
    clear ct HT H0
    rcases Nat.eq_zero_or_pos j with h | h
    · subst h
      have hdj : decide (((0 : Nat) : Int) - 1 ≥ 0) = false := by decide
      gi_wp2
      go_end0
      refine ⟨⟨_, rfl⟩, .inl ⟨pre, ?_, hJp.out⟩⟩
      have h1 := hpre.out
      rwa [show pre.length = L from by omega] at h1
    · obtain ⟨i, rfl⟩ : ∃ i, j = i + 1 := ⟨j - 1, by omega⟩
      have hi : i < L := by omega
      have hji : ((i + 1 : Nat) : Int) - 1 = (i : Int) := by omega
      rw [hji]
      have hdj : decide ((i : Int) ≥ 0) = true := decide_eq_true (by omega)
      obtain ⟨b, o, hAe, hb, hok, hget, c0, c1, c2, c3⟩ := hT2.out.eo hi
      obtain ⟨fn, tmps, assign, body, hy, hR⟩ := HY.out pre ⟨i, hi⟩ wr hJp.out (by omega)
      dsimp only at hy
      generalize T.getD i enD = e at *
      obtain ⟨t, cc, bb, u⟩ := e
      simp only at c0 c1 c2 c3 hy
      subst hAe
      have hlen : pre.length = L - 1 - i := by omega
      have HLN := Lib.hid hlen
      clear hb hji hlen hok hget
      gi_wp2_with fail
      refine ⟨fun _ => by omega, hR.mono ?_⟩
      rintro e W3 (⟨rfl, hJ3, hk3⟩ | ⟨rfl, hJx3⟩)
      · have ht3 := HKK.out _ _ hk3
        have k3 := ht3.cell kt hSt
        have hT3 := hT2.out.turn ht3 HA.out
        have HJ3 := Lib.hid hJ3
        have HT3 := Lib.hid hT3
        clear hJ3 hT3 hk3 ht3 kt hT2 hR hy c0 c1 c2 c3
        gi_wp2
        go_roundw
        case rel => exact ⟨pre ++ [⟨i, hi⟩], i, rfl, by simp; omega, by show List.map _ (pre ++ [_]) = _; rw [List.map_append, hpre.out, List.length_append, List.length_singleton, rv_succ]; congr 2; simp; have := HLN.out; omega, HJ3, k3, HT3⟩
        case measure => simp [intOf]
      · gi_wp2
        refine bodyPost_ret (results_none rfl _ _ _) rfl ?_
        exact ⟨⟨_, rfl⟩, .inr ⟨_, trivial, hJx3⟩⟩

theorem back_seq (K : World → World → Prop) (n : Nat) (hn : 2 ≤ n) (S : Nat → Prop) (A : Option Addr) (T : List En) (L c : Nat) (hL64 : L ≤ 1000) (w : World) (hT : EsAt REo w A L T)
    (hA : ∀ b o, A = some ⟨b, o, none⟩ → ¬ S b) (hSt : ¬ S w.heap.size) (hK : ∀ a b, K a b → Turn S a b) :
    SeqPr Fence.wide n Try.prog 57 #[.pointer (some ⟨w.heap.size, 0, none⟩)] (fun x : Fin L => #[Value.int .i64 (x.val : Int), etV (T.getD x.val enD)]) (fun _ _ => True) (fun _ _ _ => False) (fun _ => K) (fun xs => xs.map (·.val) = rv L L) L
      (w.alloc (.cells #[.slice A L c] 30)) := fun l J W _ _ hW _ hY h0 => by
  have k0 := (cell_new w #[.slice A L c] 30 0).trans rfl
  refine (back1_in K n hn l w.heap.size S A T L c hL64 J (fun _ _ => False) hA hSt hK W (fun pre x W1 h1 h2 => (hY pre x W1 h1 trivial h2).mono fun e W' h => .inl h) ((hW.cell (p := ⟨w.heap.size, 0, none⟩) (by simp)).trans k0) ((hT.below (below_new w _)).below hW) h0).mono ?_
  rintro e W' ⟨hv, h | ⟨pre, _, h⟩⟩
  · exact ⟨hv, h⟩
  · exact h.elim

theorem back_any (A : Option Addr) (L c : Nat) (w : World) : Calls Try.prog 39 #[.slice A L c] w fun e w' => e = .returned (.func (.func 57) #[] #[.pointer (some ⟨w.heap.size, 0, none⟩)]) ∧ w' = w.alloc (.cells #[.slice A L c] 30) := by
  go_enter Try.func39, Try.ntmps39
  go_wp2
  go_ret
  exact ⟨rfl, rfl⟩
end Go.Proofs.Ytpphhhalmccnbaa
