/-
  Notes by their words: what may be, their bytes, what bytes tell, two as one. No program.
-/
import Derived.Test.YtjpnihmijnpjcaaSgn
namespace Go.Proofs.Ytjpnihmijnpjcaa
set_option maxRecDepth 100000
set_option linter.unusedVariables false
open Go.RowKit Wm

namespace Nn
noncomputable section
open Classical

/-- an image, an op, a note -/
structure Im where
  k : Int
  d : List UInt8
structure Od where
  c : Int
  b : Int
structure Nt where
  kind : Int
  seq : Int
  im : List Im
  op : List Od
def Nt.zero : Nt := ⟨0, 0, [], []⟩
def okI (n : Int) : Prop := -9223372036854775808 ≤ n ∧ n ≤ 9223372036854775807

/-- may a note be? -/
def Head (n : Nt) : Prop := (n.kind = 1 ∨ n.kind = 2) ∧ (0 ≤ n.seq ∧ n.seq ≤ 1099511627776) ∧ n.im.length ≤ 256 ∧ n.op.length ≤ 256 ∧ (n.kind = 2 → n.im.length + n.op.length = 0)
def imGood (l : List Im) (j : Nat) : Prop := ∀ x, l[j]? = some x → (0 ≤ x.k ∧ x.k ≤ 255) ∧ x.d.length = 32 ∧ ∀ i y, j = i + 1 → l[i]? = some y → y.k < x.k
def opGood (l : List Od) (j : Nat) : Prop := ∀ x, l[j]? = some x → 0 ≤ x.c ∧ x.c ≤ 63
def San (n : Nt) : Prop := Head n ∧ (∀ j, imGood n.im j) ∧ ∀ j, opGood n.op j
def sane (n : Nt) : Bool := decide (San n)

/-- a note's bytes -/
def imB (x : Im) : List UInt8 := UInt8.ofNat x.k.toNat :: x.d
def opB (o : Od) : List UInt8 := UInt8.ofNat o.c.toNat :: putB 8 (sgn o.b)
def ims (l : List Im) : List UInt8 := l.flatMap imB
def ops (l : List Od) : List UInt8 := l.flatMap opB
def encH (n : Nt) : List UInt8 := putB 1 n.kind.toNat ++ putB 6 n.seq.toNat ++ putB 2 n.im.length
def enc (n : Nt) : List UInt8 := encH n ++ ims n.im ++ putB 2 n.op.length ++ ops n.op
def encE (n : Nt) : Int := if San n then 0 else 1
def encB (n : Nt) : List UInt8 := if San n then enc n else []

/-- what bytes tell -/
def num (b : List UInt8) (i n : Nat) : Nat := valB ((b.drop i).take n)
def tIm (b : List UInt8) (i : Nat) : Im := ⟨(num b (9 + 33 * i) 1 : Nat), (b.drop (10 + 33 * i)).take 32⟩
def tOp (b : List UInt8) (p i : Nat) : Od := ⟨(num b (p + 9 * i) 1 : Nat), sgnI (num b (p + 9 * i + 1) 8 : Nat)⟩
def tIms (b : List UInt8) (m : Nat) : List Im := (List.range m).map (tIm b)
def tOps (b : List UInt8) (p q : Nat) : List Od := (List.range q).map (tOp b p)
def mOf (b : List UInt8) : Nat := num b 7 2
def qOf (b : List UInt8) : Nat := num b (9 + 33 * mOf b) 2
def tell (b : List UInt8) : Nt := ⟨(num b 0 1 : Nat), (num b 1 6 : Nat), tIms b (mOf b), tOps b (11 + 33 * mOf b) (qOf b)⟩
def decE (b : List UInt8) : Int :=
  if b.length < 9 then 2 else if 256 < mOf b then 3 else if b.length < 11 + 33 * mOf b then 2 else if 256 < qOf b then 3 else
  if b.length < 11 + 33 * mOf b + 9 * qOf b then 2 else if 11 + 33 * mOf b + 9 * qOf b < b.length ∨ ¬ San (tell b) then 3 else 0
def decN (b : List UInt8) : Nt := if decE b = 0 then tell b else Nt.zero

/-- two as one -/
def pick (l : List Im) (k : Nat) : Option Im := l.find? fun x => decide (x.k = (k : Int))
def both (a b : List Im) (k : Nat) : Option Im := match pick b k with | some x => some x | none => pick a k
def upTo (a b : List Im) (n : Nat) : List Im := (List.range n).filterMap (both a b)
def mer (a b : Nt) : Nt := ⟨1, b.seq, upTo a.im b.im 256, a.op ++ b.op⟩
def merE (a b : Nt) : Int := if San a ∧ San b ∧ a.kind = 1 ∧ b.kind = 1 then (if San (mer a b) then 0 else 13) else 1
def merN (a b : Nt) : Nt := if merE a b = 0 then mer a b else Nt.zero

def Few (n : Nt) (most : Nat) : Prop := n.im.length ≤ most ∧ n.op.length ≤ most ∧ ∀ (i : Nat) (x : Im), n.im[i]? = some x → x.d.length ≤ 50
def sameB (a b : Nt) : Bool := decide (a = b)

theorem num_lt (b : List UInt8) (i n : Nat) : num b i n < 256 ^ n := by
  refine Nat.lt_of_lt_of_le (valB_lt _) ?_
  have h : ((b.drop i).take n).length ≤ n := by rw [List.length_take]; omega
  exact Nat.pow_le_pow_right (by omega) h
theorem upTo_step (a b : List Im) (n : Nat) : upTo a b (n + 1) = upTo a b n ++ (both a b n).toList := by
  unfold upTo
  rw [List.range_succ, List.filterMap_append]
  cases h : both a b n with
  | none => simp [h]
  | some x => simp [h]
theorem upTo_len (a b : List Im) : ∀ n, (upTo a b n).length ≤ n
  | 0 => by simp [upTo]
  | n + 1 => by
    rw [upTo_step, List.length_append]
    have := upTo_len a b n
    cases both a b n <;> simp <;> omega
theorem tIms_step (b : List UInt8) (m : Nat) : tIms b (m + 1) = tIms b m ++ [tIm b m] := by unfold tIms; rw [List.range_succ, List.map_append]; rfl
theorem tOps_step (b : List UInt8) (p q : Nat) : tOps b p (q + 1) = tOps b p q ++ [tOp b p q] := by unfold tOps; rw [List.range_succ, List.map_append]; rfl
theorem length_imB (x : Im) : (imB x).length = 1 + x.d.length := by unfold imB; rw [List.length_cons]; omega
theorem length_opB (x : Od) : (opB x).length = 9 := by unfold opB; rw [List.length_cons, length_putB]
theorem length_ops : ∀ l : List Od, (ops l).length = 9 * l.length
  | [] => rfl
  | x :: l => by
    have := length_ops l
    unfold ops at this ⊢
    rw [List.flatMap_cons, List.length_append, length_opB, this, List.length_cons]
    omega
theorem ims_step (l : List Im) (x : Im) : ims (l ++ [x]) = ims l ++ imB x := by unfold ims; rw [List.flatMap_append]; simp
theorem ops_step (l : List Od) (x : Od) : ops (l ++ [x]) = ops l ++ opB x := by unfold ops; rw [List.flatMap_append]; simp
theorem take_step {α : Type} {l : List α} {j : Nat} {x : α} (h : l[j]? = some x) : l.take (j + 1) = l.take j ++ [x] := by rw [List.take_add_one, h]; rfl
theorem length_encH (n : Nt) : (encH n).length = 9 := by unfold encH; rw [List.length_append, List.length_append, length_putB, length_putB, length_putB]

end
end Nn
end Go.Proofs.Ytjpnihmijnpjcaa
