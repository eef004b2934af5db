/-
  The library's functions that the program calls, laid at this program.
-/
import Derived.Shelf.SlicesE.Clone
import Derived.Shelf.SlicesG.Cmp
import Derived.Shelf.SlicesG.Turned
import Derived.Shelf.SlicesG.CompactI
import Derived.Shelf.SlicesE.IndexFunc
import Derived.Shelf.SlicesQ.IndexFunc
import Derived.Test.YtbokhhialfbjcaaProg
import Derived.Test.YtbokhhialfbjcaaRowsA
namespace Go.Proofs
open Go.Shelf
def Try.cloneW_ren : Go.Shelf.Ren := ⟨fun | 41 => 31 | n => n, fun | 22 => 26 | 23 => 39 | 4 => 4 | n => n, fun | n => n⟩
theorem Try.cloneW : Go.Proofs.SlLaysE0.n41 Try.prog Try.cloneW_ren := {
  mixed := by kernel_rfl
  f41 := ⟨Try.f31.name, by decide, Try.func31.trans (congrArg some (by kernel_rfl))⟩
  t4 := Try.underlying4
  a4 := Try.isAgg4
  z4 := Try.sizeOf4
  v4 := Try.zeroValue4
  t22 := Try.underlying26
  a22 := Try.isAgg26
  z22 := Try.sizeOf26
  v22 := Try.zeroValue26 }
def Try.cloneI_ren : Go.Shelf.Ren := ⟨fun | 41 => 47 | n => n, fun | 22 => 43 | 23 => 3 | 4 => 4 | n => n, fun | n => n⟩
theorem Try.cloneI : Go.Proofs.SlLaysE0.n41 Try.prog Try.cloneI_ren := {
  mixed := by kernel_rfl
  f41 := ⟨Try.f47.name, by decide, Try.func47.trans (congrArg some (by kernel_rfl))⟩
  t4 := Try.underlying4
  a4 := Try.isAgg4
  z4 := Try.sizeOf4
  v4 := Try.zeroValue4
  t22 := Try.underlying43
  a22 := Try.isAgg43
  z22 := Try.sizeOf43
  v22 := Try.zeroValue43 }
def Try.contI_ren : Go.Shelf.Ren := ⟨fun | 31 => 72 | 29 => 95 | n => n, fun | 22 => 43 | 23 => 3 | 4 => 4 | 3 => 3 | 0 => 0 | n => n, fun | n => n⟩
theorem Try.contI : Go.Proofs.SlLaysN.n31 Try.prog Try.contI_ren := {
  mixed := by kernel_rfl
  f29 := ⟨Try.f95.name, by decide, Try.func95.trans (congrArg some (by kernel_rfl))⟩
  f31 := ⟨Try.f72.name, by decide, Try.func72.trans (congrArg some (by kernel_rfl))⟩
  t0 := Try.underlying0
  a0 := Try.isAgg0
  z0 := Try.sizeOf0
  v0 := Try.zeroValue0
  t3 := Try.underlying3
  a3 := Try.isAgg3
  z3 := Try.sizeOf3
  v3 := Try.zeroValue3
  t4 := Try.underlying4
  a4 := Try.isAgg4
  z4 := Try.sizeOf4
  v4 := Try.zeroValue4
  t22 := Try.underlying43
  a22 := Try.isAgg43
  z22 := Try.sizeOf43
  v22 := Try.zeroValue43
  t23 := Try.underlying3
  a23 := Try.isAgg3
  z23 := Try.sizeOf3
  v23 := Try.zeroValue3 }
def Try.compI_ren : Go.Shelf.Ren := ⟨fun | 43 => 38 | n => n, fun | 22 => 43 | 23 => 3 | 3 => 3 | 4 => 4 | 0 => 0 | n => n, fun | n => n⟩
theorem Try.compI : Go.Proofs.SlLaysN.n43 Try.prog Try.compI_ren := {
  mixed := by kernel_rfl
  f43 := ⟨Try.f38.name, by decide, Try.func38.trans (congrArg some (by kernel_rfl))⟩
  t0 := Try.underlying0
  a0 := Try.isAgg0
  z0 := Try.sizeOf0
  v0 := Try.zeroValue0
  t3 := Try.underlying3
  a3 := Try.isAgg3
  z3 := Try.sizeOf3
  v3 := Try.zeroValue3
  t4 := Try.underlying4
  a4 := Try.isAgg4
  z4 := Try.sizeOf4
  v4 := Try.zeroValue4
  t22 := Try.underlying43
  a22 := Try.isAgg43
  z22 := Try.sizeOf43
  v22 := Try.zeroValue43
  t23 := Try.underlying3
  a23 := Try.isAgg3
  z23 := Try.sizeOf3
  v23 := Try.zeroValue3
  i23 := by kernel_rfl }
def Try.cfI_ren : Go.Shelf.Ren := ⟨fun | 8 => 73 | 6 => 96 | n => n, fun | 22 => 43 | 23 => 3 | 25 => 54 | 4 => 4 | 3 => 3 | 0 => 0 | n => n, fun | n => n⟩
theorem Try.cfI : Go.Proofs.SlLaysH.n8 Try.prog Try.cfI_ren := {
  mixed := by kernel_rfl
  f6 := ⟨Try.f96.name, by decide, Try.func96.trans (congrArg some (by kernel_rfl))⟩
  f8 := ⟨Try.f73.name, by decide, Try.func73.trans (congrArg some (by kernel_rfl))⟩
  t0 := Try.underlying0
  a0 := Try.isAgg0
  z0 := Try.sizeOf0
  v0 := Try.zeroValue0
  t3 := Try.underlying3
  a3 := Try.isAgg3
  z3 := Try.sizeOf3
  v3 := Try.zeroValue3
  t4 := Try.underlying4
  a4 := Try.isAgg4
  z4 := Try.sizeOf4
  v4 := Try.zeroValue4
  t22 := Try.underlying43
  a22 := Try.isAgg43
  z22 := Try.sizeOf43
  v22 := Try.zeroValue43
  a23 := Try.isAgg3
  z23 := Try.sizeOf3
  t25 := Try.underlying54
  a25 := Try.isAgg54
  z25 := Try.sizeOf54
  v25 := Try.zeroValue54 }
def Try.cfW_ren : Go.Shelf.Ren := ⟨fun | 8 => 57 | 6 => 66 | n => n, fun | 22 => 26 | 23 => 39 | 25 => 75 | 4 => 4 | 3 => 3 | 0 => 0 | n => n, fun | n => n⟩
theorem Try.cfW : Go.Proofs.SlLaysH0.n8 Try.prog Try.cfW_ren := {
  mixed := by kernel_rfl
  f6 := ⟨Try.f66.name, by decide, Try.func66.trans (congrArg some (by kernel_rfl))⟩
  f8 := ⟨Try.f57.name, by decide, Try.func57.trans (congrArg some (by kernel_rfl))⟩
  t0 := Try.underlying0
  a0 := Try.isAgg0
  z0 := Try.sizeOf0
  v0 := Try.zeroValue0
  t3 := Try.underlying3
  a3 := Try.isAgg3
  z3 := Try.sizeOf3
  v3 := Try.zeroValue3
  t4 := Try.underlying4
  a4 := Try.isAgg4
  z4 := Try.sizeOf4
  v4 := Try.zeroValue4
  t22 := Try.underlying26
  a22 := Try.isAgg26
  z22 := Try.sizeOf26
  v22 := Try.zeroValue26
  t25 := Try.underlying75
  a25 := Try.isAgg75
  z25 := Try.sizeOf75
  v25 := Try.zeroValue75 }
end Go.Proofs

namespace Go.Proofs.Ytbokhhialfbjcaa
set_option maxRecDepth 100000
set_option linter.unusedVariables false
open Go.RowKit Go.Shelf Go.Sort

instance : Inhabited Wn := ⟨Q0⟩
def hasL (Q : List Wn) (tx : Int) : Bool := Q.any fun w => decide ((w.x : Int) = tx)

theorem has1_any (tx : Int) (B : Nat) (w : World) (hB : B < w.heap.size) (hc : w.cell? ⟨B, 0, none⟩ = some (.int .i64 tx)) :
    PredBelow Try.prog 58 #[.pointer (some ⟨B, 0, none⟩)] (fun x => .agg (wnC x).toArray) (fun x => decide ((x.x : Int) = tx)) w := fun W x hb => by
  have hcW : W.cell? ⟨B, 0, none⟩ = some (.int .i64 tx) := (hb.cell (p := ⟨B, 0, none⟩) hB).trans hc
  have hBW : B < W.heap.size := Nat.lt_of_lt_of_le hB hb.size
  have hne : B ≠ W.heap.size := by omega
  show Calls Try.prog 58 #[.agg #[.int .i64 (x.x : Int), .int .i64 x.b, .int .i64 x.m], .pointer (some ⟨B, 0, none⟩)] W _
  go_enter Try.func58, Try.ntmps58
  go_wp2
  go_ret
  exact ⟨rfl, hb.alloc hb.size _⟩

theorem cfW_any (A : Option Addr) (Q : List Wn) (n k : Nat) (tx : Int) (B : Nat) (hN : Q.length = n) (hn : n ≤ 1000) (w : World) (hQ : RW.At w A Q) (hA : Q = [] ∨ ∃ b o, A = some ⟨b, o, none⟩) (hB : B < w.heap.size) (hc : w.cell? ⟨B, 0, none⟩ = some (.int .i64 tx)) :
    Calls Try.prog 57 #[.slice A n k, .func (.func 58) #[] #[.pointer (some ⟨B, 0, none⟩)]] w fun e w' => e = .returned (.bool (hasL Q tx)) ∧ Below w.heap.size w w' := by
  have eg : ∀ args w, (callFunc 58 args).run Try.prog w = .ok (.enter 58 args) w := enters_of Try.func58 (by kernel_rfl) rfl
  subst hN
  rcases hQ with rfl | ⟨b, o, rfl, hb, hcell⟩
  · go_enter Try.func57, Try.ntmps57
    go_wp2_with (go_in)
    go_loopw [8] (fun iv wr => iv = .int .i64 0 ∧ wr = w) (fun _ _ => 0)
    case atStart => exact ⟨rfl, rfl⟩
    obtain ⟨rfl, hwr⟩ := hrel
    replace hwr := hwr.symm
    subst hwr
    go_wp2
    go_ret
    exact ⟨rfl, Below.refl _ _⟩
  · have h := AnyQ.slices_ContainsFunc (P := Try.prog) (ρ := Try.cfW_ren) Try.cfW 3 Try.isAgg39 Try.sizeOf39 wnC (fun _ => rfl) (fun x => decide ((x.x : Int) = tx)) 58 #[.pointer (some ⟨B, 0, none⟩)] eg b o Q.length k Q w (has1_any tx B w hB hc) (Nat.le_refl _) (by omega) hb (fun j hj i v hi => by
      have hR : RW.At w (some ⟨b, o, none⟩) Q := .inr ⟨b, o, rfl, hb, hcell⟩
      obtain ⟨b', o', e, _, h2⟩ := hR.get rw_ok (List.getElem?_eq_getElem hj)
      injection e with e
      injection e with e1 e2
      subst e1; subst e2
      rw [Nat.add_assoc]
      refine h2 i v ?_
      rw [getElem!_pos Q j hj] at hi
      exact hi)
    rw [List.take_length] at h
    exact h
theorem has_any (A : Option Addr) (Q : List Wn) (n k : Nat) (tx : Int) (hN : Q.length = n) (hn : n ≤ 1000) (w : World) (hQ : RW.At w A Q) (hA : Q = [] ∨ ∃ b o, A = some ⟨b, o, none⟩) :
    Calls Try.prog 30 #[.slice A n k, .int .i64 tx] w fun e w' => e = .returned (.bool (hasL Q tx)) ∧ Below w.heap.size w w' := by
  have hb := below_new w (.cells #[.int .i64 tx] 3)
  have HC := Lib.hid (cfW_any A Q n k tx w.heap.size hN hn _ (hQ.below hb) hA (by simp) ((cell_new w _ _ 0).trans rfl))
  have HB := Lib.hid hb
  clear hQ hb hA hN
  go_enter Try.func30, Try.ntmps30
  go_wp2_with (first | (go_at_call 57; refine HC.out.mono ?_; rintro e w' ⟨rfl, hb2⟩; have HB2 := Lib.hid hb2; clear hb2) | fail)
  go_ret
  exact ⟨rfl, below_two HB.out HB2.out⟩
end Go.Proofs.Ytbokhhialfbjcaa
