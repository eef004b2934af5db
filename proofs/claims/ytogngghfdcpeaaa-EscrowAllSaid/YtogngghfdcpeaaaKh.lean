/-
  One who takes over pends: what it holds.
-/
import Derived.Test.YtogngghfdcpeaaaKg
namespace Go.Proofs.Ytogngghfdcpeaaa
set_option maxRecDepth 100000
set_option linter.unusedVariables false
set_option linter.unusedSimpArgs false
open Go.RowKit

/-- what turned, and then what turned: of the blocks that there were at first -/
theorem Turn.then {S S' : Nat → Prop} {w w' w'' : World} (h : Turn S w w') (k : Turn S' w' w'') (hs : ∀ q, q < w.heap.size → S' q → S q) : Turn S w w'' :=
  ⟨k.os.trans h.os, k.tape.trans h.tape, k.output.trans h.output, Nat.le_trans h.size k.size, fun i hi hn => (k.block i (Nat.lt_of_lt_of_le hi h.size) (fun e => hn (hs i hi e))).trans (h.block i hi hn)⟩
abbrev hrC (tx : Int) (cA : Option Addr) (n cc : Nat) (pv : Value) (rA : Option Addr) (rn rc : Nat) : Array Value := #[.int .i64 tx, .slice cA n cc, pv, .slice rA rn rc]
/-- an heir in block g: its counters below it, what it has so far above it, what is left elsewhere -/
structure Hr (W : World) (g B0 : Nat) (tx : Int) (cA : Option Addr) (n cc : Nat) (C : List Ct) (pv : Value) (X : List Pd) (rA : Option Addr) (rn rc : Nat) (R : List Pd) : Prop where
  bk : Bk W g (hrC tx cA n cc pv rA rn rc) 85
  c : RCo.Own W B0 (.slice cA n cc) C
  cl : C.length = n
  cg : ∀ q, (Value.slice cA n cc).ownBlock = some q → q < g
  past : RPo.Own W (g + 1) pv X
  rest : RPo.At W rA R
  rl : R.length = rn
  rk : rn ≤ rc
  rs : rc = 0 ∨ Sp rA
  rg : ∀ b o, rA = some ⟨b, o, none⟩ → b < g ∧ (Value.slice cA n cc).ownBlock ≠ some b
section
variable {W V : World} {g B0 : Nat} {tx : Int} {cA rA : Option Addr} {n cc rn rc : Nat} {C : List Ct} {pv : Value} {X R : List Pd}
theorem Hr.h0 (h : Hr W g B0 tx cA n cc C pv X rA rn rc R) : W.cell? ⟨g, 0, none⟩ = some (.int .i64 tx) := h.bk.c 0 _ rfl
theorem Hr.h1 (h : Hr W g B0 tx cA n cc C pv X rA rn rc R) : W.cell? ⟨g, 1, none⟩ = some (.slice cA n cc) := h.bk.c 1 _ rfl
theorem Hr.h2 (h : Hr W g B0 tx cA n cc C pv X rA rn rc R) : W.cell? ⟨g, 2, none⟩ = some pv := h.bk.c 2 _ rfl
theorem Hr.h3 (h : Hr W g B0 tx cA n cc C pv X rA rn rc R) : W.cell? ⟨g, 3, none⟩ = some (.slice rA rn rc) := h.bk.c 3 _ rfl
theorem Hr.below (h : Hr W g B0 tx cA n cc C pv X rA rn rc R) (hb : Below W.heap.size W V) : Hr V g B0 tx cA n cc C pv X rA rn rc R :=
  ⟨h.bk.below hb, h.c.below hb, h.cl, h.cg, h.past.below hb, h.rest.below hb, h.rl, h.rk, h.rs, h.rg⟩
/-- blocks that are none of it have turned -/
theorem Hr.turn {S : Nat → Prop} (h : Hr W g B0 tx cA n cc C pv X rA rn rc R) (ht : Turn S W V) (h1 : ¬ S g) (h2 : ∀ q, (Value.slice cA n cc).ownBlock = some q → ¬ S q) (h3 : ∀ q, pv.ownBlock = some q → ¬ S q) (h4 : ∀ b o, rA = some ⟨b, o, none⟩ → ¬ S b) : Hr V g B0 tx cA n cc C pv X rA rn rc R :=
  ⟨h.bk.turn ht h1, h.c.turn ht h2, h.cl, h.cg, h.past.turn ht h3, h.rest.turn ht (fun b o e => .inr (h4 b o e)), h.rl, h.rk, h.rs, h.rg⟩
/-- what it has, appended to and stored -/
theorem Hr.push (h : Hr W g B0 tx cA n cc C pv X rA rn rc R) {W4 : World} {pv4 : Value} {Y : List Pd} (ho : RPo.Own W4 (g + 1) pv4 Y) (hg : W.grownBy W4 pv.ownBlock) :
    Hr (W4.setCell ⟨g, 2, none⟩ pv4) g B0 tx cA n cc C pv4 Y rA rn rc R := by
  have hne : some g ≠ pv.ownBlock := fun e => by have := (h.past.lt g e.symm).1; omega
  have hT : Turn (fun q => q = g ∨ pv.ownBlock = some q) W (W4.setCell ⟨g, 2, none⟩ pv4) := ((Turn.refl _ _).grown hg (fun j e => .inl (.inr e))).setCell _ _ (.inl (.inl rfl))
  refine ⟨?_, h.c.turn hT ?_, h.cl, h.cg, ho.turn ((Turn.refl (fun q => q = g) W4).setCell _ _ (.inl rfl)) ?_, h.rest.turn hT ?_, h.rl, h.rk, h.rs, h.rg⟩
  · exact heap_setCell_same W4 g 2 _ _ pv4 (h.bk.far hg hne)
  · intro q e hs
    have := h.cg q e
    rcases hs with hs | hs
    · omega
    · have := (h.past.lt q hs).1; omega
  · intro q e hs
    have := (ho.lt q e).1
    omega
  · intro b o e
    refine .inr fun hs => ?_
    have := (h.rg b o e).1
    rcases hs with hs | hs
    · omega
    · have := (h.past.lt b hs).1; omega
/-- what is left, cut and stored -/
theorem Hr.cut (h : Hr W g B0 tx cA n cc C pv X rA rn rc R) {rA' : Option Addr} {rn' rc' : Nat} {R' : List Pd} (h1 : RPo.At W rA' R') (h2 : R'.length = rn') (h3 : rn' ≤ rc') (h4 : rc' = 0 ∨ Sp rA') (h5 : ∀ b o, rA' = some ⟨b, o, none⟩ → ∃ o', rA = some ⟨b, o', none⟩) :
    Hr (W.setCell ⟨g, 3, none⟩ (.slice rA' rn' rc')) g B0 tx cA n cc C pv X rA' rn' rc' R' := by
  have hT : Turn (fun q => q = g) W (W.setCell ⟨g, 3, none⟩ (.slice rA' rn' rc')) := (Turn.refl (fun q => q = g) W).setCell _ _ (.inl rfl)
  have hg : ∀ b o, rA' = some ⟨b, o, none⟩ → b < g ∧ (Value.slice cA n cc).ownBlock ≠ some b := fun b o e => by
    obtain ⟨o', e'⟩ := h5 b o e
    exact h.rg b o' e'
  refine ⟨heap_setCell_same W g 3 _ _ _ h.bk, h.c.turn hT (fun q e hs => by have := h.cg q e; omega), h.cl, h.cg, h.past.turn hT (fun q e hs => by have := (h.past.lt q e).1; omega), h1.turn hT (fun b o e => .inr fun hs => by have := (hg b o e).1; omega), h2, h3, h4, hg⟩
end
def putH (p : Pd) : List Pd → Pd
  | [] => p
  | y :: _ => if y.c = p.c ∧ y.x = p.x then ⟨p.c, p.x, w64 (p.u + y.u), w64 (p.d + y.d)⟩ else p
def putT (p : Pd) : List Pd → List Pd
  | [] => []
  | y :: r => if y.c = p.c ∧ y.x = p.x then r else y :: r
theorem putP_eq (p : Pd) (l : List Pd) : putP p l = putH p l :: putT p l := by
  cases l with
  | nil => rfl
  | cons y r =>
    by_cases h : y.c = p.c ∧ y.x = p.x
    · rw [putP_same h]; simp only [putH, putT]; rw [if_pos h, if_pos h]
    · rw [putP_new h]; simp only [putH, putT]; rw [if_neg h, if_neg h]
end Go.Proofs.Ytogngghfdcpeaaa
