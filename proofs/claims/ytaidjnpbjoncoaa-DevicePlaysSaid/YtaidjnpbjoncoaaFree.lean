/-
  A device that is not gone, and has no budget: what it does.
-/
import Derived.Test.YtaidjnpbjoncoaaMask
namespace Go.Proofs.Ytaidjnpbjoncoaa
open Go.RowKit

namespace Dv
structure Free (D : Dv) : Prop where
  gone : D.gone = false
  left : D.left = -1

variable {D : Dv}
theorem free_fresh (n : Nat) : (fresh n).Free := ⟨rfl, rfl⟩
theorem Free.more (h : D.Free) : D.more.Free := ⟨h.gone, by show max (D.left - 1) (-1) = _; rw [h.left]; rfl⟩
theorem Free.put (h : D.Free) (i : Nat) (s : List UInt8) : (D.put i s).Free := ⟨h.gone, h.left⟩
theorem has_of {i : Nat} (hi : i < D.n) : D.has (i : Int) = true := by
  unfold Dv.has
  rw [decide_eq_true (by omega), decide_eq_true (by omega)]
  rfl
theorem Free.writeE (h : D.Free) {i : Nat} (hi : i < D.n) {b : List UInt8} (hb : b.length ≤ 64) : D.writeE (i : Int) b = 0 := by
  unfold Dv.writeE
  rw [h.gone, if_neg Bool.false_ne_true, has_of hi, decide_eq_true hb, h.left]
  rfl
theorem Free.write (h : D.Free) {i : Nat} (hi : i < D.n) {b : List UInt8} (hb : b.length ≤ 64) : D.write (i : Int) b = D.more.put i (pad b) := by
  unfold Dv.write
  rw [h.gone, if_neg Bool.false_ne_true, has_of hi, decide_eq_true hb, h.left]
  rfl
theorem Free.wrote (h : D.Free) (at_ : Int) (b : List UInt8) : (D.write at_ b).Free := by
  unfold Dv.write
  rw [h.gone, if_neg Bool.false_ne_true, h.left]
  split
  · exact ⟨h.gone, h.more.left⟩
  · exact h
theorem Free.flushE (h : D.Free) : D.flushE = 0 := by
  unfold Dv.flushE
  rw [h.gone, h.left]
  rfl
theorem Free.flush (h : D.Free) : D.flush = D.more.settle := by
  unfold Dv.flush
  rw [h.gone, h.left]
  rfl
theorem Free.flushed (h : D.Free) : D.flush.Free := by rw [h.flush]; exact ⟨h.gone, h.more.left⟩
theorem free_crash (D : Dv) (keep : Nat → Bool) : (D.crash keep).Free := ⟨rfl, rfl⟩
theorem Free.read (h : D.Free) {i : Nat} (hi : i < D.n) : D.read (i : Int) = (D.late i).getD (D.laid i) := by
  unfold Dv.read
  rw [h.gone, if_neg Bool.false_ne_true, has_of hi]
  rfl
theorem Free.readE (h : D.Free) {i : Nat} (hi : i < D.n) : D.readE (i : Int) = 0 := by
  unfold Dv.readE
  rw [h.gone, if_neg Bool.false_ne_true, has_of hi]
  rfl
/-- nothing is cached: a crash turns nothing -/
theorem keys_none (h : ∀ i, D.late i = none) : D.keys = [] := by
  unfold Dv.keys
  rw [List.filter_eq_nil_iff]
  intro i _
  rw [h i]
  simp
theorem crash_none (h : ∀ i, D.late i = none) (keep : Nat → Bool) : (D.crash keep).laid = D.laid := by
  show lay D.late D.laid keep D.keys D.keys.length = _
  rw [keys_none h]
  rfl
end Dv

theorem below_drewN {B : Nat} {a w : World} (h : Below B a w) (q : Nat) : Below B a (w.drewN q) := ⟨h.os, h.tape, h.output, h.size, h.block⟩

/-- a slice of bytes that came in, byte by byte, in each world that is as it was below -/
theorem arg_byte {w : World} {a : Option Addr} {l : List UInt8} (hr : Rd w w.heap.size a l) {j : Nat} (hj : j < l.length) : ∃ b o, a = some ⟨b, o, none⟩ ∧ ∀ V, Below w.heap.size w V → V.cell? ⟨b, o + j, none⟩ = some (.int .u8 ((l[j]).toNat : Int)) := by
  obtain ⟨b, o, e, hb, hc⟩ := hr.cell hj
  exact ⟨b, o, e, fun V hV => (hV.cell (p := ⟨b, o + j, none⟩) hb).trans hc⟩

end Go.Proofs.Ytaidjnpbjoncoaa
