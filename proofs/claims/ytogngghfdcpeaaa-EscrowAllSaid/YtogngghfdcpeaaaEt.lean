/-
  Counters, pends and transactions in rows, the program's and the document's; tables.
-/
import Derived.Test.YtogngghfdcpeaaaEs
import Derived.Test.YtogngghfdcpeaaaAp
namespace Go.Proofs.Ytogngghfdcpeaaa
set_option maxRecDepth 100000
set_option linter.unusedVariables false
open Go.RowKit

def RC (e s : TypeId) : Rk Ct := ⟨e, s, 3, 24, .agg #[.int .i64 0, .int .i64 0, .int .i64 0], fun c => [.int .i64 c.lo, .int .i64 c.hi, .int .i64 c.v]⟩
def RP (e s : TypeId) : Rk Pd := ⟨e, s, 4, 32, .agg #[.int .i64 0, .int .i64 0, .int .i64 0, .int .i64 0], fun p => [.int .i64 p.c, .int .i64 p.x, .int .i64 p.u, .int .i64 p.d]⟩
def RT (e s : TypeId) : Rk Tx := ⟨e, s, 4, 32, .agg #[.int .i64 0, .int .i64 0, .int .i64 0, .int .i64 0], fun p => [.int .i64 p.p, .int .i64 p.s, .int .i64 p.b, .int .i64 p.e]⟩
abbrev RCr := RC 72 22
abbrev RCo := RC 67 31
abbrev RPr := RP 74 23
abbrev RPo := RP 75 32
abbrev RTr := RT 77 26
abbrev RTo := RT 78 36
theorem rc_okr : RCr.Ok := ⟨by decide, by decide, fun _ => rfl, fun x v hv => by simp [RC] at hv; rcases hv with rfl | rfl | rfl <;> rfl, Try.underlying22, by kernel_rfl, rfl⟩
theorem rc_oko : RCo.Ok := ⟨by decide, by decide, fun _ => rfl, fun x v hv => by simp [RC] at hv; rcases hv with rfl | rfl | rfl <;> rfl, Try.underlying31, by kernel_rfl, rfl⟩
theorem rp_okr : RPr.Ok := ⟨by decide, by decide, fun _ => rfl, fun x v hv => by simp [RP] at hv; rcases hv with rfl | rfl | rfl | rfl <;> rfl, Try.underlying23, by kernel_rfl, rfl⟩
theorem rp_oko : RPo.Ok := ⟨by decide, by decide, fun _ => rfl, fun x v hv => by simp [RP] at hv; rcases hv with rfl | rfl | rfl | rfl <;> rfl, Try.underlying32, by kernel_rfl, rfl⟩
theorem rt_okr : RTr.Ok := ⟨by decide, by decide, fun _ => rfl, fun x v hv => by simp [RT] at hv; rcases hv with rfl | rfl | rfl | rfl <;> rfl, Try.underlying26, by kernel_rfl, rfl⟩
theorem rt_oko : RTo.Ok := ⟨by decide, by decide, fun _ => rfl, fun x v hv => by simp [RT] at hv; rcases hv with rfl | rfl | rfl | rfl <;> rfl, Try.underlying36, by kernel_rfl, rfl⟩

/-- a table's rows lie there -/
structure TbAt (W : World) (A : Option Addr) (n : Nat) (B : Option Addr) (m : Nat) (t : Tb) : Prop where
  cl : t.C.length = n
  pl : t.P.length = m
  okC : ∀ c ∈ t.C, c.Ok
  okP : ∀ p ∈ t.P, p.Ok
  atC : RCr.At W A t.C
  atP : RPr.At W B t.P
section
variable {W V : World} {A B : Option Addr} {n m : Nat} {t : Tb}
theorem TbAt.below (h : TbAt W A n B m t) (hb : Below W.heap.size W V) : TbAt V A n B m t := ⟨h.cl, h.pl, h.okC, h.okP, h.atC.below hb, h.atP.below hb⟩
/-- a counter's cells -/
theorem TbAt.c (h : TbAt W A n B m t) {i : Nat} (hi : i < n) : ∃ b o, A = some ⟨b, o, none⟩ ∧ b < W.heap.size ∧ (t.C.getD i ctD).Ok ∧
    W.cell? ⟨b, o + i * 3, none⟩ = some (.int .i64 (t.C.getD i ctD).lo) ∧ W.cell? ⟨b, o + i * 3 + 1, none⟩ = some (.int .i64 (t.C.getD i ctD).hi) ∧ W.cell? ⟨b, o + i * 3 + 2, none⟩ = some (.int .i64 (t.C.getD i ctD).v) := by
  have hl : i < t.C.length := by rw [h.cl]; exact hi
  have hx : t.C[i]? = some (t.C.getD i ctD) := by rw [List.getD_eq_getElem?_getD, List.getElem?_eq_getElem hl]; rfl
  obtain ⟨b, o, e, hb, hc⟩ := h.atC.get rc_okr hx
  exact ⟨b, o, e, hb, h.okC _ (List.mem_of_getElem? hx), hc 0 _ rfl, hc 1 _ rfl, hc 2 _ rfl⟩
/-- a pend's cells -/
theorem TbAt.p (h : TbAt W A n B m t) {i : Nat} (hi : i < m) : ∃ b o, B = some ⟨b, o, none⟩ ∧ b < W.heap.size ∧ (t.P.getD i pdD).Ok ∧ t.P[i]? = some (t.P.getD i pdD) ∧
    W.cell? ⟨b, o + i * 4, none⟩ = some (.int .i64 (t.P.getD i pdD).c) ∧ W.cell? ⟨b, o + i * 4 + 1, none⟩ = some (.int .i64 (t.P.getD i pdD).x) ∧
    W.cell? ⟨b, o + i * 4 + 2, none⟩ = some (.int .i64 (t.P.getD i pdD).u) ∧ W.cell? ⟨b, o + i * 4 + 3, none⟩ = some (.int .i64 (t.P.getD i pdD).d) := by
  have hl : i < t.P.length := by rw [h.pl]; exact hi
  have hx : t.P[i]? = some (t.P.getD i pdD) := by rw [List.getD_eq_getElem?_getD, List.getElem?_eq_getElem hl]; rfl
  obtain ⟨b, o, e, hb, hc⟩ := h.atP.get rp_okr hx
  exact ⟨b, o, e, hb, h.okP _ (List.mem_of_getElem? hx), hx, hc 0 _ rfl, hc 1 _ rfl, hc 2 _ rfl, hc 3 _ rfl⟩
end
/-- a table as Go has it -/
abbrev tbC (A : Option Addr) (n a : Nat) (B : Option Addr) (m b : Nat) : Array Value := #[.slice A n a, .slice B m b]
abbrev tbV (A : Option Addr) (n a : Nat) (B : Option Addr) (m b : Nat) : Value := .agg (tbC A n a B m b)
section
variable {W : World} {g n a m b : Nat} {A B : Option Addr} {t : TypeId}
theorem Bk.t0 (h : Bk W g (tbC A n a B m b) t) : W.cell? ⟨g, 0, none⟩ = some (.slice A n a) := h.c 0 _ rfl
theorem Bk.t1 (h : Bk W g (tbC A n a B m b) t) : W.cell? ⟨g, 1, none⟩ = some (.slice B m b) := h.c 1 _ rfl
end
end Go.Proofs.Ytogngghfdcpeaaa
