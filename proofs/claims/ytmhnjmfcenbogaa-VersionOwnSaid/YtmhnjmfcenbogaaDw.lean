/-
  VersionDeep: one in another one, some of them write; each reads the nearest above it; passed up, the block is what the lowest wrote.
-/
import Derived.Test.YtmhnjmfcenbogaaCc
import Derived.Test.YtmhnjmfcenbogaaRow14
namespace Go.Proofs.Ytmhnjmfcenbogaa
set_option maxRecDepth 100000
set_option linter.unusedVariables false
set_option linter.unusedSimpArgs false
open Go.RowKit

theorem and7 (n : Int) : bits .and .i64 n 7 = n % 8 := by
  show IntKind.i64.wrap ((BitVec.ofInt 64 n &&& BitVec.ofInt 64 7).toNat : Int) = _
  have h : ((BitVec.ofInt 64 n).toNat : Int) = n % ((2 : Nat) ^ 64 : Nat) := by
    rw [BitVec.toNat_ofInt]
    have : (0 : Int) ≤ n % ((2 : Nat) ^ 64 : Nat) := Int.emod_nonneg _ (by decide)
    rw [Int.toNat_of_nonneg this]
  rw [BitVec.toNat_and, show (BitVec.ofInt 64 7).toNat = 2 ^ 3 - 1 from rfl, Nat.and_two_pow_sub_one_eq_mod]
  rw [IntKind.wrap_i64]
  omega
theorem Bk.two {W : World} {g : Nat} {a b : Value} {t : TypeId} (h : Bk W g #[a, b] t) (x y : Value) : Bk ((W.setCell ⟨g, 0, none⟩ x).setCell ⟨g, 1, none⟩ y) g #[x, y] t := by
  have h1 : Bk (W.setCell ⟨g, 0, none⟩ x) g #[x, b] t := heap_setCell_same W g 0 #[a, b] t x h
  exact heap_setCell_same _ g 1 #[x, b] t y h1
theorem Turn.two {W : World} (g : Nat) (x y : Value) : Turn (fun q => q = g) W ((W.setCell ⟨g, 0, none⟩ x).setCell ⟨g, 1, none⟩ y) := ((Turn.refl (fun q => q = g) W).setCell ⟨g, 0, none⟩ x (.inl rfl)).setCell ⟨g, 1, none⟩ y (.inl rfl)
/-- a row whose elements begin with a cell that is none of a block's lies elsewhere -/
theorem row_out {α : Type} {R : Rk α} (hR : R.Ok) {W : World} {A : Option Addr} {l : List α} {g : Nat} {cs : Array Value} {t : TypeId} (h : R.At W A l) (hg : Bk W g cs t) (hcs : ∀ x ∈ l, ∀ j : Nat, ∃ k : Nat, k < R.m ∧ cs[j + k]? ≠ (R.enc x)[k]?) :
    ∀ q o, A = some ⟨q, o, none⟩ → l = [] ∨ ¬ q = g := by
  intro q o e
  cases l with
  | nil => exact .inl rfl
  | cons x l =>
    refine .inr fun hq => ?_
    obtain ⟨b, o', e', _, hc⟩ := h.get hR (i := 0) (x := x) rfl
    rw [e] at e'
    injection e' with e'
    injection e' with e1 e2
    obtain ⟨k, hk, hne⟩ := hcs x (by simp) o'
    have hu : ∃ u, (R.enc x)[k]? = some u := ⟨_, List.getElem?_eq_getElem (by rw [hR.len]; exact hk)⟩
    obtain ⟨u, hu⟩ := hu
    have h1 := hc k u hu
    rw [← e1, hq, Nat.zero_mul, Nat.zero_add] at h1
    have h2 : W.cell? ⟨g, o' + k, none⟩ = cs[o' + k]? := cell_of_row _ _ _ _ _ _ hg
    rw [h1] at h2
    rw [hu] at hne
    exact hne h2.symm
theorem txc_by {A : Option Addr} {n a : Nat} {c : Int} : ∀ (j : Nat) (z : UInt8), (txC2 A n a c)[j]? ≠ some (byV z) := by
  intro j z h
  rcases j with _ | _ | j
  · cases h
  · cases h
  · simp at h
theorem vtc_by {A B : Option Addr} {n a m b : Nat} : ∀ (j : Nat) (z : UInt8), (vtC A n a B m b)[j]? ≠ some (byV z) := by
  intro j z h
  rcases j with _ | _ | j
  · cases h
  · cases h
  · simp at h
/-- transactions' rows stay where a variable is stored to -/
theorem tx_put {W : World} {A A0 : Option Addr} {l : List Tx} {N0 k0 g : Nat} {c0 : Int} {ty : TypeId} (h : TxAt W A l) (hg : Bk W g (txC2 A0 N0 k0 c0) ty) (x y : Value) : TxAt ((W.setCell ⟨g, 0, none⟩ x).setCell ⟨g, 1, none⟩ y) A l := by
  refine h.turn (Turn.two g x y) (fun b o e => ?_)
  rcases h with ⟨_, h⟩ | ⟨b', e', hb, hc⟩
  · exact .inl h
  · cases l with
    | nil => exact .inl rfl
    | cons u l =>
      refine .inr fun hq => ?_
      rw [e'] at e; injection e with e; injection e with e1 e2
      have h1 := (hc 0 u rfl).1
      rw [Nat.zero_mul, e1, hq] at h1
      have h2 : W.cell? ⟨g, 0, none⟩ = some (.slice A0 N0 k0) := hg.c 0 _ rfl
      rw [h1] at h2
      cases h2
theorem tx_far {W : World} {A : Option Addr} {l : List Tx} {g : Nat} {A0 B0 : Option Addr} {n0 a0 m0 b0 : Nat} {ty : TypeId} (h : TxAt W A l) (hg : Bk W g (vtC A0 n0 a0 B0 m0 b0) ty) : ∀ b o, A = some ⟨b, o, none⟩ → l = [] ∨ ¬ b = g := by
  intro b o e
  rcases h with ⟨_, h⟩ | ⟨b', e', hb, hc⟩
  · exact .inl h
  · cases l with
    | nil => exact .inl rfl
    | cons u l =>
      refine .inr fun hq => ?_
      rw [e'] at e; injection e with e; injection e with e1 e2
      have h1 := (hc 0 u rfl).1
      rw [Nat.zero_mul, e1, hq] at h1
      have h2 : W.cell? ⟨g, 0, none⟩ = some (.slice A0 n0 a0) := hg.c 0 _ rfl
      rw [h1] at h2
      cases h2
theorem DatAt.one (w : World) (x : UInt8) : DatAt (w.alloc (.cells #[byV x] 5)) ⟨some ⟨w.heap.size, 0, none⟩, 1, 1⟩ [x] := ⟨rfl, Nat.le_refl _, .inr (.inr ⟨_, _, rfl⟩), Rk.At.new ry_ok w x 5⟩
theorem byte_num (i : Nat) (hi : i < 200) : ((UInt8.ofNat (i + 1)).toNat : Int) = (i : Int) + 1 := by
  simp
  omega
theorem deep0 : DeepF ⟨[zV], []⟩ 0 (padV [0]) := ⟨⟨by simp, by simp [zV], by simp, List.Pairwise.nil⟩, rfl, by simp, rfl⟩
theorem padV_head (x : UInt8) (l : List UInt8) : (padV (x :: l))[0]? = some x := rfl
end Go.Proofs.Ytmhnjmfcenbogaa
