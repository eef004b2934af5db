/-
  Two rows of ints of the call's own, each in its own block.
-/
import Derived.Test.YtpphhhalmccnbaaFo
namespace Go.Proofs.Ytpphhhalmccnbaa
set_option maxRecDepth 100000
set_option linter.unusedVariables false
open Go.RowKit

theorem Turn.ofGrow {w w' : World} {r : Option Nat} (h : w.grownBy w' r) : Turn (fun k => r = some k) w w' := ⟨h.os, h.tape, h.output, h.size, fun k hk hn => h.block k hk (fun e => hn e.symm)⟩

structure LH (W : World) (B : Nat) (x y : Value) (p q : List Int) : Prop where
  ox : RI.Own W B x p
  oy : RI.Own W B y q
  ne : ∀ k, x.ownBlock = some k → y.ownBlock ≠ some k
section
variable {W V : World} {B : Nat} {x y z : Value} {p q r : List Int}
theorem LH.below (h : LH W B x y p q) (hb : Below W.heap.size W V) : LH V B x y p q := ⟨h.ox.below hb, h.oy.below hb, h.ne⟩
theorem LH.low (h : LH W B x y p q) (ho : RI.Own V B z r) (hg : W.grownBy V x.ownBlock) (ha : z.ownBlock = x.ownBlock ∨ z.ownBlock = some W.heap.size) : LH V B z y r q := by
  refine ⟨ho, h.oy.turn (Turn.ofGrow hg) (fun k hk hx => h.ne k hx hk), fun k hz hy => ?_⟩
  rcases ha with ha | ha
  · exact h.ne k (ha ▸ hz) hy
  · rw [hz] at ha
    injection ha with ha
    have := (h.oy.lt k hy).2
    omega
theorem LH.high (h : LH W B x y p q) (ho : RI.Own V B z r) (hg : W.grownBy V y.ownBlock) (ha : z.ownBlock = y.ownBlock ∨ z.ownBlock = some W.heap.size) : LH V B x z p r := by
  refine ⟨h.ox.turn (Turn.ofGrow hg) (fun k hk hx => h.ne k hk hx), ho, fun k hx hz => ?_⟩
  rcases ha with ha | ha
  · exact h.ne k hx (ha ▸ hz)
  · rw [hz] at ha
    injection ha with ha
    have := (h.ox.lt k hx).2
    omega
theorem one_at (w : World) (z : Int) : RI.At (w.alloc (.cells #[.int .i64 z] 3)) (some ⟨w.heap.size, 0, none⟩) [z] := Rk.At.new ri_ok w z 3
/-- a row of the call's own, as so many ints -/
theorem own_ls (h : RI.Own W B x p) (hok : ∀ z ∈ p, okI z) : ∃ A n c, x = .slice A n c ∧ n = p.length ∧ Ls W A n p := by
  obtain ⟨A, c, e, hc, hat, _⟩ := h.form ri_ok
  exact ⟨A, p.length, c, e, rfl, rfl, hok, hat⟩
end
end Go.Proofs.Ytpphhhalmccnbaa
