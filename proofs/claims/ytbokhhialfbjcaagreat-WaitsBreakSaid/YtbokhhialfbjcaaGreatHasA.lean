/-
  The library's functions that the program calls, laid at this program.
-/
import Derived.Shelf.SlicesE.Clone
import Derived.Shelf.SlicesG.Cmp
import Derived.Shelf.SlicesG.Turned
import Derived.Shelf.SlicesG.CompactI
import Derived.Shelf.SlicesE.IndexFunc
import Derived.Shelf.SlicesQ.IndexFunc
import Derived.Test.YtbokhhialfbjcaaGreatProg
import Derived.Test.YtbokhhialfbjcaaGreatRowsA
namespace Go.Proofs
open Go.Shelf
def Tryz.cloneW_ren : Go.Shelf.Ren := ⟨fun | 41 => 38 | n => n, fun | 22 => 26 | 23 => 52 | 4 => 4 | n => n, fun | n => n⟩
theorem Tryz.cloneW : Go.Proofs.SlLaysE0.n41 Tryz.prog Tryz.cloneW_ren := {
  mixed := by kernel_rfl
  f41 := ⟨Tryz.f38.name, by decide, Tryz.func38.trans (congrArg some (by kernel_rfl))⟩
  t4 := Tryz.underlying4
  a4 := Tryz.isAgg4
  z4 := Tryz.sizeOf4
  v4 := Tryz.zeroValue4
  t22 := Tryz.underlying26
  a22 := Tryz.isAgg26
  z22 := Tryz.sizeOf26
  v22 := Tryz.zeroValue26 }
def Tryz.cloneI_ren : Go.Shelf.Ren := ⟨fun | 41 => 85 | n => n, fun | 22 => 37 | 23 => 3 | 4 => 4 | n => n, fun | n => n⟩
theorem Tryz.cloneI : Go.Proofs.SlLaysE0.n41 Tryz.prog Tryz.cloneI_ren := {
  mixed := by kernel_rfl
  f41 := ⟨Tryz.f85.name, by decide, Tryz.func85.trans (congrArg some (by kernel_rfl))⟩
  t4 := Tryz.underlying4
  a4 := Tryz.isAgg4
  z4 := Tryz.sizeOf4
  v4 := Tryz.zeroValue4
  t22 := Tryz.underlying37
  a22 := Tryz.isAgg37
  z22 := Tryz.sizeOf37
  v22 := Tryz.zeroValue37 }
def Tryz.contI_ren : Go.Shelf.Ren := ⟨fun | 31 => 101 | 29 => 104 | n => n, fun | 22 => 37 | 23 => 3 | 4 => 4 | 3 => 3 | 0 => 0 | n => n, fun | n => n⟩
theorem Tryz.contI : Go.Proofs.SlLaysN.n31 Tryz.prog Tryz.contI_ren := {
  mixed := by kernel_rfl
  f29 := ⟨Tryz.f104.name, by decide, Tryz.func104.trans (congrArg some (by kernel_rfl))⟩
  f31 := ⟨Tryz.f101.name, by decide, Tryz.func101.trans (congrArg some (by kernel_rfl))⟩
  t0 := Tryz.underlying0
  a0 := Tryz.isAgg0
  z0 := Tryz.sizeOf0
  v0 := Tryz.zeroValue0
  t3 := Tryz.underlying3
  a3 := Tryz.isAgg3
  z3 := Tryz.sizeOf3
  v3 := Tryz.zeroValue3
  t4 := Tryz.underlying4
  a4 := Tryz.isAgg4
  z4 := Tryz.sizeOf4
  v4 := Tryz.zeroValue4
  t22 := Tryz.underlying37
  a22 := Tryz.isAgg37
  z22 := Tryz.sizeOf37
  v22 := Tryz.zeroValue37
  t23 := Tryz.underlying3
  a23 := Tryz.isAgg3
  z23 := Tryz.sizeOf3
  v23 := Tryz.zeroValue3 }
def Tryz.compI_ren : Go.Shelf.Ren := ⟨fun | 43 => 23 | n => n, fun | 22 => 37 | 23 => 3 | 3 => 3 | 4 => 4 | 0 => 0 | n => n, fun | n => n⟩
theorem Tryz.compI : Go.Proofs.SlLaysN.n43 Tryz.prog Tryz.compI_ren := {
  mixed := by kernel_rfl
  f43 := ⟨Tryz.f23.name, by decide, Tryz.func23.trans (congrArg some (by kernel_rfl))⟩
  t0 := Tryz.underlying0
  a0 := Tryz.isAgg0
  z0 := Tryz.sizeOf0
  v0 := Tryz.zeroValue0
  t3 := Tryz.underlying3
  a3 := Tryz.isAgg3
  z3 := Tryz.sizeOf3
  v3 := Tryz.zeroValue3
  t4 := Tryz.underlying4
  a4 := Tryz.isAgg4
  z4 := Tryz.sizeOf4
  v4 := Tryz.zeroValue4
  t22 := Tryz.underlying37
  a22 := Tryz.isAgg37
  z22 := Tryz.sizeOf37
  v22 := Tryz.zeroValue37
  t23 := Tryz.underlying3
  a23 := Tryz.isAgg3
  z23 := Tryz.sizeOf3
  v23 := Tryz.zeroValue3
  i23 := by kernel_rfl }
def Tryz.cfI_ren : Go.Shelf.Ren := ⟨fun | 8 => 102 | 6 => 105 | n => n, fun | 22 => 37 | 23 => 3 | 25 => 42 | 4 => 4 | 3 => 3 | 0 => 0 | n => n, fun | n => n⟩
theorem Tryz.cfI : Go.Proofs.SlLaysH.n8 Tryz.prog Tryz.cfI_ren := {
  mixed := by kernel_rfl
  f6 := ⟨Tryz.f105.name, by decide, Tryz.func105.trans (congrArg some (by kernel_rfl))⟩
  f8 := ⟨Tryz.f102.name, by decide, Tryz.func102.trans (congrArg some (by kernel_rfl))⟩
  t0 := Tryz.underlying0
  a0 := Tryz.isAgg0
  z0 := Tryz.sizeOf0
  v0 := Tryz.zeroValue0
  t3 := Tryz.underlying3
  a3 := Tryz.isAgg3
  z3 := Tryz.sizeOf3
  v3 := Tryz.zeroValue3
  t4 := Tryz.underlying4
  a4 := Tryz.isAgg4
  z4 := Tryz.sizeOf4
  v4 := Tryz.zeroValue4
  t22 := Tryz.underlying37
  a22 := Tryz.isAgg37
  z22 := Tryz.sizeOf37
  v22 := Tryz.zeroValue37
  a23 := Tryz.isAgg3
  z23 := Tryz.sizeOf3
  t25 := Tryz.underlying42
  a25 := Tryz.isAgg42
  z25 := Tryz.sizeOf42
  v25 := Tryz.zeroValue42 }
def Tryz.cfW_ren : Go.Shelf.Ren := ⟨fun | 8 => 49 | 6 => 82 | n => n, fun | 22 => 26 | 23 => 52 | 25 => 67 | 4 => 4 | 3 => 3 | 0 => 0 | n => n, fun | n => n⟩
theorem Tryz.cfW : Go.Proofs.SlLaysH0.n8 Tryz.prog Tryz.cfW_ren := {
  mixed := by kernel_rfl
  f6 := ⟨Tryz.f82.name, by decide, Tryz.func82.trans (congrArg some (by kernel_rfl))⟩
  f8 := ⟨Tryz.f49.name, by decide, Tryz.func49.trans (congrArg some (by kernel_rfl))⟩
  t0 := Tryz.underlying0
  a0 := Tryz.isAgg0
  z0 := Tryz.sizeOf0
  v0 := Tryz.zeroValue0
  t3 := Tryz.underlying3
  a3 := Tryz.isAgg3
  z3 := Tryz.sizeOf3
  v3 := Tryz.zeroValue3
  t4 := Tryz.underlying4
  a4 := Tryz.isAgg4
  z4 := Tryz.sizeOf4
  v4 := Tryz.zeroValue4
  t22 := Tryz.underlying26
  a22 := Tryz.isAgg26
  z22 := Tryz.sizeOf26
  v22 := Tryz.zeroValue26
  t25 := Tryz.underlying67
  a25 := Tryz.isAgg67
  z25 := Tryz.sizeOf67
  v25 := Tryz.zeroValue67 }
end Go.Proofs

namespace Go.Proofs.YtbokhhialfbjcaaGreat
set_option maxRecDepth 100000
set_option linter.unusedVariables false
open Go.RowKit Go.Shelf Go.Sort

instance : Inhabited Wn := ⟨Q0⟩
def hasL (Q : List Wn) (tx : Int) : Bool := Q.any fun w => decide ((w.x : Int) = tx)

theorem has1_any (tx : Int) (B : Nat) (w : World) (hB : B < w.heap.size) (hc : w.cell? ⟨B, 0, none⟩ = some (.int .i64 tx)) :
    PredBelow Tryz.prog 50 #[.pointer (some ⟨B, 0, none⟩)] (fun x => .agg (wnC x).toArray) (fun x => decide ((x.x : Int) = tx)) w := fun W x hb => by
  have hcW : W.cell? ⟨B, 0, none⟩ = some (.int .i64 tx) := (hb.cell (p := ⟨B, 0, none⟩) hB).trans hc
  have hBW : B < W.heap.size := Nat.lt_of_lt_of_le hB hb.size
  have hne : B ≠ W.heap.size := by omega
  show Calls Tryz.prog 50 #[.agg #[.int .i64 (x.x : Int), .int .i64 x.b, .int .i64 x.m], .pointer (some ⟨B, 0, none⟩)] W _
  go_enter Tryz.func50, Tryz.ntmps50
  go_wp2
  go_ret
  exact ⟨rfl, hb.alloc hb.size _⟩

theorem cfW_any (A : Option Addr) (Q : List Wn) (n k : Nat) (tx : Int) (B : Nat) (hN : Q.length = n) (hn : n ≤ 1000) (w : World) (hQ : RW.At w A Q) (hA : Q = [] ∨ ∃ b o, A = some ⟨b, o, none⟩) (hB : B < w.heap.size) (hc : w.cell? ⟨B, 0, none⟩ = some (.int .i64 tx)) :
    Calls Tryz.prog 49 #[.slice A n k, .func (.func 50) #[] #[.pointer (some ⟨B, 0, none⟩)]] w fun e w' => e = .returned (.bool (hasL Q tx)) ∧ Below w.heap.size w w' := by
  have eg : ∀ args w, (callFunc 50 args).run Tryz.prog w = .ok (.enter 50 args) w := enters_of Tryz.func50 (by kernel_rfl) rfl
  subst hN
  rcases hQ with rfl | ⟨b, o, rfl, hb, hcell⟩
  · go_enter Tryz.func49, Tryz.ntmps49
    go_wp2_with (go_in)
    go_loopw [8] (fun iv wr => iv = .int .i64 0 ∧ wr = w) (fun _ _ => 0)
    case atStart => exact ⟨rfl, rfl⟩
    obtain ⟨rfl, hwr⟩ := hrel
    replace hwr := hwr.symm
    subst hwr
    go_wp2
    go_ret
    exact ⟨rfl, Below.refl _ _⟩
  · have h := AnyQ.slices_ContainsFunc (P := Tryz.prog) (ρ := Tryz.cfW_ren) Tryz.cfW 3 Tryz.isAgg52 Tryz.sizeOf52 wnC (fun _ => rfl) (fun x => decide ((x.x : Int) = tx)) 50 #[.pointer (some ⟨B, 0, none⟩)] eg b o Q.length k Q w (has1_any tx B w hB hc) (Nat.le_refl _) (by omega) hb (fun j hj i v hi => by
      have hR : RW.At w (some ⟨b, o, none⟩) Q := .inr ⟨b, o, rfl, hb, hcell⟩
      obtain ⟨b', o', e, _, h2⟩ := hR.get rw_ok (List.getElem?_eq_getElem hj)
      injection e with e
      injection e with e1 e2
      subst e1; subst e2
      rw [Nat.add_assoc]
      refine h2 i v ?_
      rw [getElem!_pos Q j hj] at hi
      exact hi)
    rw [List.take_length] at h
    exact h
theorem has_any (A : Option Addr) (Q : List Wn) (n k : Nat) (tx : Int) (hN : Q.length = n) (hn : n ≤ 1000) (w : World) (hQ : RW.At w A Q) (hA : Q = [] ∨ ∃ b o, A = some ⟨b, o, none⟩) :
    Calls Tryz.prog 25 #[.slice A n k, .int .i64 tx] w fun e w' => e = .returned (.bool (hasL Q tx)) ∧ Below w.heap.size w w' := by
  have hb := below_new w (.cells #[.int .i64 tx] 3)
  have HC := Lib.hid (cfW_any A Q n k tx w.heap.size hN hn _ (hQ.below hb) hA (by simp) ((cell_new w _ _ 0).trans rfl))
  have HB := Lib.hid hb
  clear hQ hb hA hN
  go_enter Tryz.func25, Tryz.ntmps25
  go_wp2_with (first | (go_at_call 49; refine HC.out.mono ?_; rintro e w' ⟨rfl, hb2⟩; have HB2 := Lib.hid hb2; clear hb2) | fail)
  go_ret
  exact ⟨rfl, below_two HB.out HB2.out⟩
end Go.Proofs.YtbokhhialfbjcaaGreat
