/-
  What each statement on grown transactions does first: the example, the bound, what is grown, the two variables.
-/
import Derived.Test.YtmhnjmfcenbogaaTp
import Derived.Test.YtmhnjmfcenbogaaGr
namespace Go.Proofs.Ytmhnjmfcenbogaa
set_option maxRecDepth 100000
set_option linter.unusedVariables false
set_option linter.unusedSimpArgs false
open Go.RowKit Go.Shelf

/-- what is grown, in two variables -/
structure Gz (W : World) (gx gt : Nat) (A : Option Addr) (n k : Nat) (c : Int) (T : Tr) (A1 : Option Addr) (n1 a1 : Nat) (B1 : Option Addr) (m1 b1 : Nat) (t : Vt) : Prop where
  x : TxAt W A T.l
  t : VtAt RVo W A1 n1 a1 B1 m1 b1 t
  bx : Bk W gx (txC2 A n k c) 26
  bt : Bk W gt (vtC A1 n1 a1 B1 m1 b1) 30
theorem Gz.below {W V : World} {gx gt n k n1 a1 m1 b1 : Nat} {A A1 B1 : Option Addr} {c : Int} {T : Tr} {t : Vt} (h : Gz W gx gt A n k c T A1 n1 a1 B1 m1 b1 t) (hb : Below W.heap.size W V) : Gz V gx gt A n k c T A1 n1 a1 B1 m1 b1 t := ⟨h.x.below hb, h.t.below hb, h.bx.below hb, h.bt.below hb⟩
section
variable {W : World} {gx gt n k n1 a1 m1 b1 : Nat} {A A1 B1 : Option Addr} {c : Int} {T : Tr} {t : Vt}
theorem Gz.x0 (h : Gz W gx gt A n k c T A1 n1 a1 B1 m1 b1 t) : W.cell? ⟨gx, 0, none⟩ = some (.slice A n k) := h.bx.c 0 _ rfl
theorem Gz.x1 (h : Gz W gx gt A n k c T A1 n1 a1 B1 m1 b1 t) : W.cell? ⟨gx, 1, none⟩ = some (.int .i64 c) := h.bx.c 1 _ rfl
theorem Gz.t0 (h : Gz W gx gt A n k c T A1 n1 a1 B1 m1 b1 t) : W.cell? ⟨gt, 0, none⟩ = some (.slice A1 n1 a1) := h.bt.v0
theorem Gz.t1 (h : Gz W gx gt A n k c T A1 n1 a1 B1 m1 b1 t) : W.cell? ⟨gt, 1, none⟩ = some (.slice B1 m1 b1) := h.bt.v1
theorem Gz.tn (h : Gz W gx gt A n k c T A1 n1 a1 B1 m1 b1 t) : t.B.length = n1 := by obtain ⟨ss, h⟩ := h.t.base; exact h.k
theorem Gz.tm (h : Gz W gx gt A n k c T A1 n1 a1 B1 m1 b1 t) : t.L.length = m1 := h.t.vk
end
/-- one of so many -/
theorem pick_of (u : Int) (n : Nat) (hn : 0 < n) : ∃ x y : Nat, bits .and .i64 u 65535 = (x : Int) ∧ y < n ∧ (x : Int) % (n : Int) = (y : Int) ∧ Int.tmod (x : Int) (n : Int) = (y : Int) := by
  obtain ⟨x, hx, hlow⟩ := low u 65535 16 (by decide) (by omega)
  refine ⟨x, x % n, hlow, Nat.mod_lt _ hn, by simp, ?_⟩
  rw [Int.tmod_eq_emod_of_nonneg (by omega)]; simp
theorem pick_block (u : Int) : ∃ k : Nat, k < 4 ∧ bits .and .i64 u 3 = (k : Int) := low u 3 2 (by decide) (by omega)
end Go.Proofs.Ytmhnjmfcenbogaa
