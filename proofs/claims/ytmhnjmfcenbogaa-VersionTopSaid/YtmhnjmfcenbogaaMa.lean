/-
  Blocks and versions in rows, each with its bytes elsewhere; tables.
-/
import Derived.Test.YtmhnjmfcenbogaaVc
import Derived.Test.YtmhnjmfcenbogaaAp
namespace Go.Proofs.Ytmhnjmfcenbogaa
set_option maxRecDepth 100000
set_option linter.unusedVariables false
set_option linter.unusedSimpArgs false
open Go.RowKit

/-- a slice of bytes as a row has it -/
structure Sl where
  A : Option Addr
  n : Nat
  c : Nat
abbrev Sl.v (s : Sl) : Value := .slice s.A s.n s.c
structure Vr where
  b : Int
  x : Int
  s : Sl
abbrev byV (x : UInt8) : Value := .int .u8 (x.toNat : Int)
def RY : Rk UInt8 := ⟨5, 36, 1, 1, .int .u8 0, fun x => [byV x]⟩
def RB : Rk Sl := ⟨36, 27, 1, 24, .slice none 0 0, fun s => [s.v]⟩
def RVe (e s : TypeId) : Rk Vr := ⟨e, s, 3, 40, .agg #[.int .i64 0, .int .i64 0, .slice none 0 0], fun v => [.int .i64 v.b, .int .i64 v.x, v.s.v]⟩
abbrev RVo := RVe 74 28
abbrev RVr := RVe 90 52
theorem ry_ok : RY.Ok := ⟨by decide, by decide, fun _ => rfl, fun x v hv => by simp [RY] at hv; subst hv; rfl, Try.underlying36, by kernel_rfl, rfl⟩
theorem rb_ok : RB.Ok := ⟨by decide, by decide, fun _ => rfl, fun x v hv => by simp [RB] at hv; subst hv; rfl, Try.underlying27, by kernel_rfl, rfl⟩
theorem rv_oko : RVo.Ok := ⟨by decide, by decide, fun _ => rfl, fun x v hv => by simp [RVe] at hv; rcases hv with rfl | rfl | rfl <;> rfl, Try.underlying28, by kernel_rfl, rfl⟩
theorem rv_okr : RVr.Ok := ⟨by decide, by decide, fun _ => rfl, fun x v hv => by simp [RVe] at hv; rcases hv with rfl | rfl | rfl <;> rfl, Try.underlying52, by kernel_rfl, rfl⟩

/-- these bytes lie there -/
structure DatAt (W : World) (s : Sl) (d : List UInt8) : Prop where
  n : d.length = s.n
  c : s.n ≤ s.c
  sp : s.c = 0 ∨ Sp s.A
  at_ : RY.At W s.A d
section
variable {W V : World} {s : Sl} {d : List UInt8} {S : Nat → Prop}
theorem DatAt.below (h : DatAt W s d) (hb : Below W.heap.size W V) : DatAt V s d := ⟨h.n, h.c, h.sp, h.at_.below hb⟩
theorem DatAt.turn (h : DatAt W s d) (ht : Turn S W V) (hS : ∀ b o, s.A = some ⟨b, o, none⟩ → d = [] ∨ ¬ S b) : DatAt V s d := ⟨h.n, h.c, h.sp, h.at_.turn ht hS⟩
/-- bytes lie in no block that has no byte in it -/
theorem dat_off (h : RY.At W s.A d) {g : Nat} {cs : Array Value} {t : TypeId} (hg : Bk W g cs t) (hcs : ∀ (j : Nat) (z : UInt8), cs[j]? ≠ some (byV z)) : ∀ b o, s.A = some ⟨b, o, none⟩ → d = [] ∨ ¬ b = g := by
  intro b o e
  cases d with
  | nil => exact .inl rfl
  | cons x d =>
    refine .inr fun hq => ?_
    obtain ⟨b', o', e', _, hc⟩ := h.get ry_ok (i := 0) (x := x) rfl
    rw [e] at e'
    injection e' with e'
    injection e' with e1 e2
    have h1 := hc 0 _ rfl
    rw [← e1, hq] at h1
    have h2 : W.cell? ⟨g, o' + (0 * RY.m + 0), none⟩ = cs[o' + (0 * RY.m + 0)]? := cell_of_row _ _ _ _ _ _ hg
    rw [h1] at h2
    exact hcs _ _ h2.symm
/-- a byte's cell -/
theorem DatAt.get (h : DatAt W s d) {i : Nat} {x : UInt8} (hx : d[i]? = some x) : ∃ b o, s.A = some ⟨b, o, none⟩ ∧ b < W.heap.size ∧ W.cell? ⟨b, o + i, none⟩ = some (byV x) := by
  obtain ⟨b, o, e, hb, hc⟩ := h.at_.get ry_ok hx
  have h1 := hc 0 _ rfl
  exact ⟨b, o, e, hb, by simpa [RY] using h1⟩
end
/-- blocks in a row -/
structure BasAt (W : World) (A : Option Addr) (n : Nat) (D : List (List UInt8)) (ss : List Sl) : Prop where
  k : D.length = n
  l : ss.length = n
  at_ : RB.At W A ss
  d : ∀ (i : Nat) (s : Sl) (d : List UInt8), ss[i]? = some s → D[i]? = some d → DatAt W s d
/-- versions in a row, of either side -/
structure VrsAt (R : Rk Vr) (W : World) (A : Option Addr) (n : Nat) (L : List Vn) (vs : List Vr) : Prop where
  k : L.length = n
  l : vs.length = n
  at_ : R.At W A vs
  d : ∀ (i : Nat) (r : Vr) (v : Vn), vs[i]? = some r → L[i]? = some v → r.b = v.b ∧ r.x = v.x ∧ DatAt W r.s v.d
section
variable {W V : World} {A : Option Addr} {n : Nat} {D : List (List UInt8)} {ss : List Sl} {L : List Vn} {vs : List Vr} {R : Rk Vr}
theorem BasAt.below (h : BasAt W A n D ss) (hb : Below W.heap.size W V) : BasAt V A n D ss := ⟨h.k, h.l, h.at_.below hb, fun i s d h1 h2 => (h.d i s d h1 h2).below hb⟩
theorem VrsAt.below (h : VrsAt R W A n L vs) (hb : Below W.heap.size W V) : VrsAt R V A n L vs := ⟨h.k, h.l, h.at_.below hb, fun i r v h1 h2 => ⟨(h.d i r v h1 h2).1, (h.d i r v h1 h2).2.1, (h.d i r v h1 h2).2.2.below hb⟩⟩
theorem BasAt.get (h : BasAt W A n D ss) {i : Nat} (hi : i < n) : ∃ s d, ss[i]? = some s ∧ D[i]? = some d ∧ DatAt W s d := by
  have h1 : i < ss.length := by rw [h.l]; exact hi
  have h2 : i < D.length := by rw [h.k]; exact hi
  exact ⟨_, _, List.getElem?_eq_getElem h1, List.getElem?_eq_getElem h2, h.d i _ _ (List.getElem?_eq_getElem h1) (List.getElem?_eq_getElem h2)⟩
theorem VrsAt.get (h : VrsAt R W A n L vs) {i : Nat} (hi : i < n) : ∃ r v, vs[i]? = some r ∧ L[i]? = some v ∧ r.b = v.b ∧ r.x = v.x ∧ DatAt W r.s v.d := by
  have h1 : i < vs.length := by rw [h.l]; exact hi
  have h2 : i < L.length := by rw [h.k]; exact hi
  exact ⟨_, _, List.getElem?_eq_getElem h1, List.getElem?_eq_getElem h2, h.d i _ _ (List.getElem?_eq_getElem h1) (List.getElem?_eq_getElem h2)⟩
end
abbrev vtC (A : Option Addr) (n a : Nat) (B : Option Addr) (m b : Nat) : Array Value := #[.slice A n a, .slice B m b]
abbrev vtV (A : Option Addr) (n a : Nat) (B : Option Addr) (m b : Nat) : Value := .agg (vtC A n a B m b)
/-- a table's rows lie there -/
structure VtAt (R : Rk Vr) (W : World) (A : Option Addr) (n a : Nat) (B : Option Addr) (m b : Nat) (t : Vt) : Prop where
  base : ∃ ss, BasAt W A n t.B ss
  vers : ∃ vs, VrsAt R W B m t.L vs
  na : n ≤ a
  sa : a = 0 ∨ Sp A
  mb : m ≤ b
  sb : b = 0 ∨ Sp B
theorem VtAt.below {R : Rk Vr} {W V : World} {A B : Option Addr} {n a m b : Nat} {t : Vt} (h : VtAt R W A n a B m b t) (hb : Below W.heap.size W V) : VtAt R V A n a B m b t := by
  obtain ⟨ss, h1⟩ := h.base
  obtain ⟨vs, h2⟩ := h.vers
  exact ⟨⟨ss, h1.below hb⟩, ⟨vs, h2.below hb⟩, h.na, h.sa, h.mb, h.sb⟩
end Go.Proofs.Ytmhnjmfcenbogaa
