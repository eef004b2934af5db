/-
  A tree in memory: transactions in a row; what a call may turn; whether an ID is known; the function value that goes up.
-/
import Derived.RangeFuncNested
import Derived.RangeFuncBound
import Derived.RangeFuncCalls
import Derived.RangeFuncLeaves
import Derived.Shelf.Abstract
import Derived.Shelf.RegionOpen
import Derived.WalkKit
import Derived.OwnWalkIn
import Derived.TacticsInMore
import Derived.LoopNIn
import Derived.LoopIn
import Derived.Maps.OwnIn
import Derived.BigRegion
import Derived.Lib.Hide
import Derived.BigQuiet
import Derived.LoopTactic
import Derived.Deep.QuietTactic
import Derived.Deep.RegionHeld
import Derived.Test.YtohnfjneghbceaaTm
import Derived.Test.YtohnfjneghbceaaBase
namespace Go.Proofs.Ytohnfjneghbceaa
set_option maxRecDepth 100000
set_option linter.unusedVariables false
open Go.RowKit Go.Shelf

/-- what was there is as it was, but blocks of S -/
structure Turn (S : Nat → Prop) (w w' : World) : Prop where
  os : w'.os = w.os
  tape : w'.tape = w.tape
  output : w'.output = w.output
  size : w.heap.size ≤ w'.heap.size
  block : ∀ k, k < w.heap.size → ¬ S k → w'.heap[k]? = w.heap[k]?

section
variable {S S' : Nat → Prop} {w w' w'' : World}
theorem Turn.refl (S : Nat → Prop) (w : World) : Turn S w w := ⟨rfl, rfl, rfl, Nat.le_refl _, fun _ _ _ => rfl⟩
theorem Turn.trans (h : Turn S w w') (k : Turn S w' w'') : Turn S w w'' :=
  ⟨k.os.trans h.os, k.tape.trans h.tape, k.output.trans h.output, Nat.le_trans h.size k.size, fun i hi hs => (k.block i (Nat.lt_of_lt_of_le hi h.size) hs).trans (h.block i hi hs)⟩
theorem Turn.mono (h : Turn S w w') (hs : ∀ k, S k → S' k) : Turn S' w w' := ⟨h.os, h.tape, h.output, h.size, fun k hk hn => h.block k hk fun h' => hn (hs k h')⟩
theorem Turn.grown (h : Turn S w w') {row : Option Nat} (hg : w'.grownBy w'' row) (hr : ∀ j, row = some j → S j ∨ w.heap.size ≤ j) : Turn S w w'' :=
  ⟨hg.os.trans h.os, hg.tape.trans h.tape, hg.output.trans h.output, Nat.le_trans h.size hg.size, fun k hk hn =>
    (hg.block k (Nat.lt_of_lt_of_le hk h.size) (fun e => by rcases hr k e.symm with h1 | h1; exact hn h1; omega)).trans (h.block k hk hn)⟩
theorem Turn.alloc (h : Turn S w w') (o : Obj) : Turn S w (w'.alloc o) := h.grown (World.grownBy_alloc w' o none) (by simp)
theorem Turn.setCell (h : Turn S w w') (p : Addr) (v : Value) (hp : S p.block ∨ w.heap.size ≤ p.block) : Turn S w (w'.setCell p v) :=
  ⟨h.os, h.tape, h.output, by simpa [World.setCell] using h.size, fun k hk hn => by
    have hne : k ≠ p.block := fun e => by subst e; rcases hp with h1 | h1; exact hn h1; omega
    rw [Below.heap_setCell _ _ _ _ hne]
    exact h.block k hk hn⟩
theorem Turn.below (h : Turn S w w') {B : Nat} (hS : ∀ k, S k → B ≤ k) (hB : B ≤ w.heap.size) : Below B w w' :=
  ⟨h.os, h.tape, h.output, h.size, fun k hk => h.block k (by omega) fun h1 => by have := hS k h1; omega⟩
theorem Turn.ofBelow (h : Below w.heap.size w w') : Turn S w w' := ⟨h.os, h.tape, h.output, h.size, fun k hk _ => h.block k hk⟩
theorem Turn.cell {X : Nat → Prop} {w W : World} (h : Turn X w W) {a : Addr} {v : Value} (hc : w.cell? a = some v) (hx : ¬ X a.block) : W.cell? a = some v :=
  (World.cell?_of_block (h.block a.block (block_lt_of_cell hc) hx)).trans hc
end

/-- transactions lie in a row -/
def TxAt (W : World) (A : Option Addr) (l : List Tx) : Prop :=
  (A = none ∧ l = []) ∨ ∃ b, A = some ⟨b, 0, none⟩ ∧ b < W.heap.size ∧ ∀ i x, l[i]? = some x → W.cell? ⟨b, i * 4, none⟩ = some (.int .i64 x.p) ∧ W.cell? ⟨b, i * 4 + 1, none⟩ = some (.int .i64 x.s) ∧ W.cell? ⟨b, i * 4 + 2, none⟩ = some (.int .i64 x.b) ∧ W.cell? ⟨b, i * 4 + 3, none⟩ = some (.int .i64 x.e)

theorem TxAt.turn {S : Nat → Prop} {W V : World} {A : Option Addr} {l : List Tx} (h : TxAt W A l) (ht : Turn S W V) (hS : ∀ b o, A = some ⟨b, o, none⟩ → l = [] ∨ ¬ S b) : TxAt V A l := by
  rcases h with h | ⟨b, e, hb, hc⟩
  · exact .inl h
  · rcases hS b 0 e with h | hS
    · exact .inr ⟨b, e, Nat.lt_of_lt_of_le hb ht.size, fun i x hx => by rw [h] at hx; simp at hx⟩
    refine .inr ⟨b, e, Nat.lt_of_lt_of_le hb ht.size, fun i x hx => ?_⟩
    obtain ⟨h0, h1, h2, h3⟩ := hc i x hx
    exact ⟨ht.cell h0 hS, ht.cell h1 hS, ht.cell h2 hS, ht.cell h3 hS⟩
theorem TxAt.below {W V : World} {A : Option Addr} {l : List Tx} (h : TxAt W A l) (hb : Below W.heap.size W V) : TxAt V A l :=
  h.turn (S := fun _ => False) (Turn.ofBelow hb) (fun _ _ _ => .inr fun h => h)
theorem TxAt.lt {W : World} {A : Option Addr} {l : List Tx} (h : TxAt W A l) : ∀ b o, A = some ⟨b, o, none⟩ → l = [] ∨ b < W.heap.size := by
  intro b o e
  rcases h with h | ⟨b', e', hb, _⟩
  · exact .inl h.2
  · rw [e] at e'; injection e' with e'; injection e' with e1; exact .inr (by omega)
theorem TxAt.get {W : World} {A : Option Addr} {T : Tr} (h : TxAt W A T.l) {i : Nat} (hi : i < T.l.length) : ∃ b, A = some ⟨b, 0, none⟩ ∧ b < W.heap.size ∧ W.cell? ⟨b, i * 4, none⟩ = some (.int .i64 (T.tx i).p) ∧ W.cell? ⟨b, i * 4 + 1, none⟩ = some (.int .i64 (T.tx i).s) ∧
    W.cell? ⟨b, i * 4 + 2, none⟩ = some (.int .i64 (T.tx i).b) ∧ W.cell? ⟨b, i * 4 + 3, none⟩ = some (.int .i64 (T.tx i).e) := by
  rcases h with h | ⟨b, e, hb, hc⟩
  · rw [h.2] at hi; simp at hi
  · refine ⟨b, e, hb, hc i (T.tx i) ?_⟩
    unfold Tr.tx
    rw [List.getD_eq_getElem?_getD, List.getElem?_eq_getElem hi]; rfl

set_option maxHeartbeats 1000000 in
/-- is it an ID? -/
theorem known_any (A : Option Addr) (n cap : Nat) (c i : Int) (w : World) :
    Calls Try.prog 38 #[.agg #[.slice A n cap, .int .i64 c], .int .i64 i] w fun e w' => e = .returned (.bool (decide (0 ≤ i ∧ i < (n : Int)))) ∧ w' = w.alloc (.cells #[.slice A n cap, .int .i64 c] 26) := by
  by_cases h0 : 0 ≤ i
  · by_cases h1 : i < (n : Int)
    · rw [decide_eq_true ⟨h0, h1⟩]
      go_enter Try.func38, Try.ntmps38
      go_wp2
      go_ret
      exact ⟨rfl, rfl⟩
    · rw [decide_eq_false (by omega)]
      go_enter Try.func38, Try.ntmps38
      go_wp2
      go_ret
      exact ⟨rfl, rfl⟩
  · rw [decide_eq_false (by omega)]
    go_enter Try.func38, Try.ntmps38
    go_wp2
    go_ret
    exact ⟨rfl, rfl⟩

set_option maxHeartbeats 1000000 in
/-- the function value that goes up: the tree and the ID in boxes -/
theorem up_any (A : Option Addr) (n cap : Nat) (c i : Int) (w : World) :
    Calls Try.prog 37 #[.agg #[.slice A n cap, .int .i64 c], .int .i64 i] w fun e w' => e = .returned (.func (.func 62) #[] #[.pointer (some ⟨w.heap.size + 1, 0, none⟩), .pointer (some ⟨w.heap.size, 0, none⟩)]) ∧
      w' = (w.alloc (.cells #[.slice A n cap, .int .i64 c] 26)).alloc (.cells #[.int .i64 i] 3) := by
  have hmf : ∀ (fn : Fn) (first cap : Array Value) (w : World), (Instr.makeFunc fn first cap).run Try.prog w = .ok (.func fn first cap) w := fun _ _ _ _ => rfl
  go_enter Try.func37, Try.ntmps37
  go_wp2
  go_ret
  exact ⟨rfl, rfl⟩

end Go.Proofs.Ytohnfjneghbceaa
