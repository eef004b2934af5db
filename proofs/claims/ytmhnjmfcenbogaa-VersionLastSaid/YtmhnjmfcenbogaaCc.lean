/-
  What the program's calls of layer 14 are asked for, as words: each statement's walk takes them as they are.
-/
import Derived.Test.YtmhnjmfcenbogaaBl
import Derived.Test.YtmhnjmfcenbogaaTreeC
namespace Go.Proofs.Ytmhnjmfcenbogaa
set_option maxRecDepth 100000
set_option linter.unusedVariables false
open Go.RowKit

abbrev txC2 (A : Option Addr) (N a : Nat) (c : Int) : Array Value := #[.slice A N a, .int .i64 c]
/-- a table's rows begin in another block than g -/
def Away (A B : Option Addr) (g : Nat) : Prop := (∀ b o, A = some ⟨b, o, none⟩ → b ≠ g) ∧ ∀ b o, B = some ⟨b, o, none⟩ → b ≠ g
theorem VtAt.off {R : Rk Vr} {W V : World} {A B : Option Addr} {n a m b g : Nat} {t : Vt} {cs : Array Value} {ty : TypeId} (h : VtAt R W A n a B m b t) (hg : Bk W g cs ty) (hb : ∀ (j : Nat) (z : UInt8), cs[j]? ≠ some (byV z)) (ha : Away A B g) (hT : Turn (fun q => q = g) W V) : VtAt R V A n a B m b t := by
  obtain ⟨ss, h1⟩ := h.base
  obtain ⟨vs, h2⟩ := h.vers
  refine ⟨⟨ss, h1.k, h1.l, h1.at_.turn hT (fun b o e => .inr (ha.1 b o e)), fun i s d e1 e2 => ?_⟩, ⟨vs, h2.k, h2.l, h2.at_.turn hT (fun b o e => .inr (ha.2 b o e)), fun i r v e1 e2 => ?_⟩, h.na, h.sa, h.mb, h.sb⟩
  · have h3 := h1.d i s d e1 e2
    exact h3.turn hT (dat_off h3.at_ hg hb)
  · obtain ⟨q1, q2, h3⟩ := h2.d i r v e1 e2
    exact ⟨q1, q2, h3.turn hT (dat_off h3.at_ hg hb)⟩
/-- why may a transaction not ask for a block? -/
def askV (t : Vt) (T : Tr) (x k : Int) : Int := if k < 0 ∨ (t.B.length : Int) ≤ k ∨ x < 0 ∨ (T.l.length : Int) ≤ x then 6 else if (T.tx x.toNat).s ≠ 1 then 7 else 0
theorem askV_ok {t : Vt} {T : Tr} {x k : Int} (hk : 0 ≤ k ∧ k < (t.B.length : Int)) (hx : 0 ≤ x ∧ x < (T.l.length : Int)) (hs : (T.tx x.toNat).s = 1) : askV t T x k = 0 := by
  unfold askV
  rw [if_neg (by omega), if_neg (by rw [hs]; decide)]
theorem askV_live {t : Vt} {T : Tr} {x k : Int} (h : askV t T x k = 0) : (0 ≤ k ∧ k < (t.B.length : Int)) ∧ (0 ≤ x ∧ x < (T.l.length : Int)) ∧ (T.tx x.toNat).s = 1 := by
  unfold askV at h
  split at h
  · cases h
  · split at h
    · cases h
    · refine ⟨by omega, by omega, by omega⟩
def WriteOut (t : Vt) (T : Tr) (x k : Int) (d : List UInt8) (A0 B0 : Option Addr) (w : World) (e : Ending) (w' : World) : Prop :=
  Below w.heap.size w w' ∧ ((askV t T x k = 0 ∧ ∃ A n a B m b, (∀ g, (g < w.heap.size ∧ Away A0 B0 g) ∨ w'.heap.size ≤ g → Away A B g) ∧ e = .returned (.tuple #[vtV A n a B m b, .int .i64 0]) ∧ VtAt RVo w' A n a B m b ⟨t.B, putV ⟨k, x, padV d⟩ t.L⟩) ∨
    (askV t T x k ≠ 0 ∧ e = .returned (.tuple #[vtV none 0 0 none 0 0, .int .i64 (askV t T x k)])))
def WriteOk : Prop := ∀ (A B : Option Addr) (n a m b : Nat) (t : Vt) (D : Option Addr) (N d : Nat) (c : Int) (T : Tr) (x k : Int) (s : Sl) (l : List UInt8) (w : World),
  VtAt RVo w A n a B m b t → SanV t → t.L.length ≤ 1000 → TxAt w D T.l → Good T → T.c = c → c ≤ 900 → T.l.length = N → N ≤ d → okI x → okI k → DatAt w s l → l.length ≤ 32 →
    Calls Try.prog 10 #[vtV A n a B m b, .agg (txC2 D N d c), .int .i64 x, .int .i64 k, s.v] w (WriteOut t T x k l A B w)
def ReadOut (t : Vt) (T : Tr) (x k : Int) (w : World) (e : Ending) (w' : World) : Prop :=
  Below w.heap.size w w' ∧ ((askV t T x k = 0 ∧ ∃ A c, e = .returned (.tuple #[.slice A 32 c, .int .i64 0]) ∧ DatAt w' ⟨A, 32, c⟩ (readD t (T.way x) k)) ∨
    (askV t T x k ≠ 0 ∧ ∃ v, e = .returned (.tuple #[v, .int .i64 (askV t T x k)])))
def ReadOk : Prop := ∀ (A B : Option Addr) (n a m b : Nat) (t : Vt) (D : Option Addr) (N d : Nat) (c : Int) (T : Tr) (x k : Int) (w : World),
  VtAt RVo w A n a B m b t → SanV t → t.L.length ≤ 1000 → TxAt w D T.l → Good T → T.c = c → c ≤ 900 → T.l.length = N → okI x → okI k →
    Calls Try.prog 11 #[vtV A n a B m b, .agg (txC2 D N d c), .int .i64 x, .int .i64 k] w (ReadOut t T x k w)
def PassOut (t : Vt) (x par : Int) (A0 B0 : Option Addr) (w : World) (e : Ending) (w' : World) : Prop :=
  Below w.heap.size w w' ∧ ∃ A n a B m b, (∀ g, (g < w.heap.size ∧ Away A0 B0 g) ∨ w'.heap.size ≤ g → Away A B g) ∧ e = .returned (vtV A n a B m b) ∧ VtAt RVo w' A n a B m b (t.pass x par)
def PassOk : Prop := ∀ (A B : Option Addr) (n a m b : Nat) (t : Vt) (x par : Int) (w : World),
  VtAt RVo w A n a B m b t → SanV t → t.L.length ≤ 1000 → okI x → okI par → par ≤ 63 →
    Calls Try.prog 16 #[vtV A n a B m b, .int .i64 x, .int .i64 par] w (PassOut t x par A B w)

/-! ### one in another one -/
def deepT : Nat → Tr
  | 0 => ⟨[], 0⟩
  | i + 1 => (deepT i).begun ((i : Int) - 1)
theorem deep_len (i : Nat) : (deepT i).l.length = i := by
  induction i with
  | zero => rfl
  | succ i ih => show ((deepT i).begun _).l.length = _; rw [len_begun, ih]
theorem deep_c (i : Nat) : (deepT i).c = (i : Int) := by
  induction i with
  | zero => rfl
  | succ i ih => show (deepT i).c + 1 = _; rw [ih]; omega
theorem deep_new (i : Nat) : (deepT (i + 1)).tx i = ⟨(i : Int) - 1, 1, (i : Int) + 1, 0⟩ := by
  have h := tx_begun_new (T := deepT i) (p := (i : Int) - 1)
  rw [deep_len, deep_c] at h
  exact h
theorem deep_way (n : Nat) : ∀ j, j < n → wayN (deepT n).par j = down (j + 1) := by
  induction n with
  | zero => intro j hj; omega
  | succ n ih =>
    intro j hj
    rcases Nat.lt_or_ge j n with h | h
    · show wayN ((deepT n).begun _).par j = _
      rw [way_begun (by rw [deep_len]; exact h)]
      exact ih j h
    · obtain rfl : j = n := by omega
      have hp : (deepT (j + 1)).par j = (j : Int) - 1 := by unfold Tr.par; rw [deep_new]
      cases j with
      | zero => rw [wayN_top (by rw [hp]; decide)]; rfl
      | succ i =>
        rw [wayN_up (j := i) (by rw [hp]; omega) (by omega)]
        show (i + 1) :: wayN ((deepT (i + 1)).begun _).par i = _
        rw [way_begun (by rw [deep_len]; omega), ih i (by omega)]; rfl
theorem deep_at (i : Nat) : (deepT (i + 1)).way (i : Int) = down (i + 1) := by
  rw [Tr.way_nat (by rw [deep_len]; omega), deep_way _ _ (by omega)]
theorem down_len (i : Nat) : (down i).length = i := by
  induction i with
  | zero => rfl
  | succ i ih => show (down i).length + 1 = _; rw [ih]
theorem deep_may (i : Nat) (hi : i < 8) : MayBegin (deepT i) ((i : Int) - 1) := by
  cases i with
  | zero => exact ⟨.inl rfl, by decide, by simp [Tr.way]⟩
  | succ j =>
    have e : (((j + 1 : Nat) : Int) - 1) = (j : Int) := by omega
    rw [e]
    refine ⟨.inr ⟨j, rfl, by rw [deep_len]; omega, by rw [deep_new]⟩, by rw [deep_len]; omega, ?_⟩
    rw [deep_at, down_len]; omega
theorem deep_good (i : Nat) (hi : i ≤ 8) : Good (deepT i) := by
  induction i with
  | zero => exact good_nil
  | succ i ih => exact (ih (by omega)).begun (deep_may i (by omega))
end Go.Proofs.Ytmhnjmfcenbogaa
