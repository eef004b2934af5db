/-
  The document's body of a piece that may be, and its Write, of any piece.
-/
import Derived.Test.YtdjfahnnfhediaaBodyA
namespace Go.Proofs.Ytdjfahnnfhediaa
set_option maxRecDepth 100000
open Go.RowKit Crc Wm

theorem Bp.grown {w w' : World} {g : Nat} {p : Pv} {t : TypeId} {row : Option Nat} (h : Bp w g p t) (hg : w.grownBy w' row) (hr : ∀ k, row = some k → g + 1 ≤ k) : Bp w' g p t :=
  (hg.block g h.lt (fun e => by have := hr g e.symm; omega)).trans h
theorem Owns.row {w : World} {B : Nat} {A : Option Addr} {c n : Nat} {l : List UInt8} (h : Owns w B A c n l) : ∀ k, (Value.slice A n c).ownBlock = some k → B ≤ k := fun k hk => by
  rcases A with _ | a
  · cases hk
  · have : k = a.block := by simpa [Value.ownBlock] using hk.symm
    subst this
    exact (h.block a rfl).1
/-- bytes are appended to those of the call's own; the piece's box stays -/
theorem app_one {w wr w2 : World} {B n m : Nat} {A : Option Addr} {cap : Nat} {l x : List UInt8} {v2 : Value} {o : Obj} {p : Pv} {t : TypeId} (ho : Owns wr (B + 1) A cap n l) (hb : Below B w wr) (hX : Bp wr B p t)
    (hown : w2.ownsRow (B + 1) 5 1 v2 (n + m) (byteVs l ++ byteVs x)) (hg : (wr.alloc o).grownBy w2 (Value.slice A n cap).ownBlock) : ∃ A' cap', v2 = .slice A' (n + m) cap' ∧ Owns w2 (B + 1) A' cap' (n + m) (l ++ x) ∧ Below B w w2 ∧ Bp w2 B p t := by
  rw [← byteVs_append] at hown
  obtain ⟨A', cap', rfl, h⟩ := own_form hown
  have hlt := hX.lt
  exact ⟨A', cap', rfl, h, (hb.alloc (by omega) o).grown hg (by simp; omega) (fun k hk => by have := ho.row k hk; omega), Bp.grown (hX.below (below_new wr o)) hg (fun k hk => ho.row k hk)⟩
theorem app_two {w wr w2 : World} {B n m : Nat} {A : Option Addr} {cap : Nat} {l x : List UInt8} {v2 : Value} {p : Pv} {t : TypeId} (ho : Owns wr (B + 1) A cap n l) (hb : Below B w wr) (hX : Bp wr B p t)
    (hown : w2.ownsRow (B + 1) 5 1 v2 (n + m) (byteVs l ++ byteVs x)) (hg : wr.grownBy w2 (Value.slice A n cap).ownBlock) : ∃ A' cap', v2 = .slice A' (n + m) cap' ∧ Owns w2 (B + 1) A' cap' (n + m) (l ++ x) ∧ Below B w w2 ∧ Bp w2 B p t := by
  rw [← byteVs_append] at hown
  obtain ⟨A', cap', rfl, h⟩ := own_form hown
  have hlt := hX.lt
  exact ⟨A', cap', rfl, h, hb.grown hg (by omega) (fun k hk => by have := ho.row k hk; omega), Bp.grown hX hg (fun k hk => ho.row k hk)⟩

theorem zeroB_snoc (n : Nat) : zeroB (n + 1) = zeroB n ++ [0] := List.replicate_succ'

end Go.Proofs.Ytdjfahnnfhediaa
