/-
  What is fixed stays fixed, what is lost stays lost, the top one stays: whatever is done.
-/
import Derived.Test.YtohnfjneghbceaaEq9
namespace Go.Proofs.Ytohnfjneghbceaa
set_option maxRecDepth 100000
set_option linter.unusedVariables false
open Go.RowKit Go.Shelf

theorem fixed_nat {T : Tr} {i : Nat} (hi : i < T.l.length) : T.fixed (i : Int) = true ↔ ∀ j ∈ wayN T.par i, (T.tx j).s = 2 := by
  unfold Tr.fixed
  rw [Tr.way_nat hi, decide_eq_true (show 0 ≤ (i : Int) ∧ (i : Int) < (T.l.length : Int) by omega), Bool.and_true, List.all_eq_true]
  simp
theorem lost_nat {T : Tr} {i : Nat} (hi : i < T.l.length) : T.lost (i : Int) = true ↔ ∃ j, j ∈ wayN T.par i ∧ (T.tx j).s = 3 := by
  unfold Tr.lost
  rw [Tr.way_nat hi, decide_eq_true (show 0 ≤ (i : Int) ∧ (i : Int) < (T.l.length : Int) by omega), Bool.not_true, Bool.or_false, List.any_eq_true]
  simp
theorem top_congr {T T' : Tr} {i : Nat} (hi : i < T.l.length) (hi' : i < T'.l.length) (hw : wayN T'.par i = wayN T.par i) (hp : ∀ x ∈ wayN T.par i, (T'.tx x).p = (T.tx x).p) : T'.top (i : Int) = T.top (i : Int) := by
  have h : ∀ l : List Nat, (∀ x ∈ l, (T'.tx x).p = (T.tx x).p) → l.find? (fun x => decide ((T'.tx x).p = -1)) = l.find? (fun x => decide ((T.tx x).p = -1)) := by
    intro l
    induction l with
    | nil => intro _; rfl
    | cons y l ih =>
      intro hl
      rw [List.find?_cons, List.find?_cons, hl y (by simp), ih (fun x hx => hl x (List.mem_cons_of_mem _ hx))]
  unfold Tr.top
  rw [Tr.way_nat hi, Tr.way_nat hi', hw, h _ hp]

structure Stays (T T' : Tr) : Prop where
  len : T.l.length ≤ T'.l.length
  fixed : ∀ k : Nat, k < T.l.length → T.fixed (k : Int) = true → T'.fixed (k : Int) = true
  lost : ∀ k : Nat, k < T.l.length → T.lost (k : Int) = true → T'.lost (k : Int) = true
  top : ∀ k : Nat, k < T.l.length → T'.top (k : Int) = T.top (k : Int)
theorem Stays.refl (T : Tr) : Stays T T := ⟨Nat.le_refl _, fun _ _ h => h, fun _ _ h => h, fun _ _ => rfl⟩
theorem stays_begun (T : Tr) (p : Int) : Stays T (T.begun p) := by
  have hl : ∀ k, k < T.l.length → k < (T.begun p).l.length := fun k hk => by rw [len_begun]; omega
  refine ⟨by rw [len_begun]; omega, fun k hk h => ?_, fun k hk h => ?_, fun k hk => ?_⟩
  · rw [fixed_nat (hl k hk), way_begun hk]
    intro j hj
    rw [tx_begun (way_lt hk hj)]
    exact (fixed_nat hk).1 h j hj
  · rw [lost_nat (hl k hk), way_begun hk]
    obtain ⟨j, hj, hs⟩ := (lost_nat hk).1 h
    exact ⟨j, hj, by rw [tx_begun (way_lt hk hj)]; exact hs⟩
  · exact top_congr hk (hl k hk) (way_begun hk) (fun x hx => by rw [tx_begun (way_lt hk hx)])
theorem stays_turned {T : Tr} {X : Nat → Prop} [DecidablePred X] {s : Int} (hf : ∀ k, k < T.l.length → (∀ j ∈ wayN T.par k, (T.tx j).s = 2) → ∀ j ∈ wayN T.par k, X j → s = 2) (hx : ∀ j, j < T.l.length → X j → (T.tx j).s ≠ 3) : Stays T (T.turned X s) := by
  have hl : ∀ k, k < T.l.length → k < (T.turned X s).l.length := fun k hk => by rw [len_turned]; exact hk
  refine ⟨by rw [len_turned]; exact Nat.le_refl _, fun k hk h => ?_, fun k hk h => ?_, fun k hk => ?_⟩
  · rw [fixed_nat (hl k hk), par_turned]
    intro j hj
    have hall := (fixed_nat hk).1 h
    by_cases hxj : X j
    · rw [(tx_in (way_lt hk hj) hxj).1]; exact hf k hk hall j hj hxj
    · rw [tx_out (way_lt hk hj) hxj]; exact hall j hj
  · rw [lost_nat (hl k hk), par_turned]
    obtain ⟨j, hj, hs⟩ := (lost_nat hk).1 h
    exact ⟨j, hj, by rw [tx_out (way_lt hk hj) (fun hxj => hx j (way_lt hk hj) hxj hs)]; exact hs⟩
  · exact top_congr hk (hl k hk) (by rw [par_turned]) (fun x _ => congrFun par_turned x)
theorem stays_done {T : Tr} {i : Nat} (m : MayDo T i) : Stays T (T.done i) :=
  stays_turned (fun _ _ _ _ _ _ => rfl) (fun j _ h => by rw [h, m.live]; decide)
theorem stays_undone {T : Tr} {i : Nat} (hs : (T.tx i).s = 1) : Stays T (T.undone i) :=
  stays_turned (fun k hk hall j hj hx => by
    have h1 := hall i (wayN_trans hj hx.1)
    rw [hs] at h1
    exact absurd h1 (by decide)) (fun j _ h => h.2)
theorem gone_mem {T : Tr} {i n x : Nat} (h : x ∈ T.gone i n) : x < n ∧ T.inn i x ∧ (T.tx x).s ≠ 3 := by
  unfold Tr.gone at h
  rw [List.mem_filter] at h
  have h1 := kin_mem h.1
  exact ⟨h1.1, h1.2, by simpa using h.2⟩
theorem lost_undone {T : Tr} {i x : Nat} (hx : x < T.l.length) (h : T.inn i x) : (T.undone i).lost (x : Int) = true := by
  rw [lost_nat (by unfold Tr.undone; rw [len_turned]; exact hx)]
  exact ⟨x, wayN_self _ _, undone_in hx h⟩

/-- a box of a tree's is no row of IDs -/
theorem IdAt.box {W V : World} {A A' : Option Addr} {l : List Nat} {g n k : Nat} {c : Int} (h : IdAt W A l) (hb : TB W g A' n k c) (hg : W.grownBy V (some g)) : IdAt V A l := by
  rcases h with h | ⟨b, e, hl, hc⟩
  · exact .inl h
  · refine .inr ⟨b, e, Nat.lt_of_lt_of_le hl hg.size, fun j x hx => ?_⟩
    have hne : b ≠ g := by
      intro hbg
      cases l with
      | nil => simp at hx
      | cons y l =>
        have h1 := hc 0 y rfl
        have h2 := hb.c0
        rw [← hbg, h1] at h2
        cases h2
    exact (World.cell?_of_block (a := ⟨b, j, none⟩) (hg.block b hl (fun e2 => by injection e2 with e2; exact hne e2))).trans (hc j x hx)

end Go.Proofs.Ytohnfjneghbceaa
