/-
  A map of the call's own, from IDs to rows: what it holds at each ID.
-/
import Derived.Test.YtohnfjneghbceaaSrt
import Derived.Maps.Own
import Derived.Maps.Views
namespace Go.Proofs.Ytohnfjneghbceaa
set_option maxRecDepth 100000
set_option linter.unusedVariables false
open Go.Maps Go.RowKit Go.Shelf

def nilId : Value := .slice none 0 0
/-- a value reads as itself -/
def Rv (v : Value) : Option (DataW Value × List MemPlace) := some (.held v, [])
theorem int_key : Keyed Try.prog 3 := int_keyed Try.underlying3
theorem id_key (p : Int) (h1 : -1 ≤ p) (h2 : p ≤ 64) : keyOf Try.prog 3 (.int .i64 p) = some (.int .i64 p) := keyOf_int_mk Try.underlying3 (by simp [Lit.wf, IntKind.bits, IntKind.signed, IntKind.min, IntKind.max]; omega)

/-- at p it holds V p -/
def MpAt (W : World) (b n : Nat) (V : Int → Value) : Prop :=
  ∃ D : DataW Value, W.ownsMap Try.prog 3 Rv b n D ∧ IsMap D ∧ ∀ p : Int, D.atKey (.int .i64 p) (.held nilId) = .held (V p)

theorem MpAt.made (W : World) : MpAt (W.alloc (.map #[] 0)) W.heap.size 0 (fun _ => nilId) :=
  ⟨.map [], World.ownsMap_made _ _ _ _, isMap_empty, fun p => rfl⟩
section
variable {W W' : World} {b n : Nat} {V : Int → Value}
theorem MpAt.lt (h : MpAt W b n V) : b < W.heap.size := by
  obtain ⟨D, ho, _⟩ := h
  exact ho.lt
theorem MpAt.turn {S : Nat → Prop} (h : MpAt W b n V) (ht : Turn S W W') (hS : ¬ S b) : MpAt W' b n V := by
  obtain ⟨D, ho, hm, ha⟩ := h
  have hlt := ho.lt
  obtain ⟨es, clock, hb, F, hs, hD⟩ := ho
  exact ⟨D, ⟨es, clock, (ht.block b hlt hS).trans hb, F, hs, hD⟩, hm, ha⟩
theorem MpAt.below (h : MpAt W b n V) (hb : Below W.heap.size W W') : MpAt W' b n V := h.turn (S := fun _ => False) (Turn.ofBelow hb) (fun h => h)
theorem MpAt.look (h : MpAt W b n V) (p : Int) (h1 : -1 ≤ p) (h2 : p ≤ 64) : (Instr.lookup 73 (.map (some b)) (.int .i64 p) false).run Try.prog W = .ok (V p) W := by
  obtain ⟨D, ho, hm, ha⟩ := h
  obtain ⟨v, ps, hrun, hv⟩ := ho.lookup (t := 73) (e := 28) int_key Try.underlying73 (z := nilId) (by rfl) (zd := .held nilId) (zp := []) rfl (id_key p h1 h2)
  rw [ha p] at hv
  unfold Rv at hv
  injection hv with hv
  injection hv with hv _
  injection hv with hv
  rw [hrun, hv]
theorem MpAt.upd (h : MpAt W b n V) (hn : n < 1000) (p : Int) (h1 : -1 ≤ p) (h2 : p ≤ 64) (val : Value) :
    ∃ W', (Instr.mapUpdate 73 (.map (some b)) (.int .i64 p) val).run Try.prog W = .ok () W' ∧ MpAt W' b (n + 1) (fun q => if q = p then val else V q) ∧ W.grownBy W' (some b) := by
  obtain ⟨D, ho, hm, ha⟩ := h
  obtain ⟨W', hrun, ho', hg⟩ := ho.update (t := 73) (e := 28) int_key Try.underlying73 (Nat.lt_of_lt_of_le hn (by decide)) (id_key p h1 h2) (val := val) (d := .held val) (ps := []) rfl
  refine ⟨W', hrun, ⟨_, ho', ?_, fun q => ?_⟩, hg⟩
  · obtain ⟨es, rfl⟩ := hm
    exact ⟨_, rfl⟩
  · by_cases hq : q = p
    · subst hq
      rw [atKey_put_same hm (by trivial)]
      simp
    · rw [atKey_put_other (fun e => hq (by injection e)), ha q]; simp [hq]
end
end Go.Proofs.Ytohnfjneghbceaa
