/-
  Open; a set of numbers in a map of the call's own.
-/
import Derived.Test.YtpphhhalmccnbaaQg
namespace Go.Proofs.Ytpphhhalmccnbaa
set_option maxRecDepth 100000
set_option linter.unusedVariables false
set_option linter.unusedSimpArgs false
open Go.RowKit Go.Maps

theorem pickO_congr {f g : En → Bool} (h : ∀ e, f e = g e) (P : List Pe) : pickO f P = pickO g P := by rw [show f = g from funext h]
/-- the function value of Open -/
theorem px_open (w : World) (g : Nat) (t : Int) (k : Bk w g #[.int .i64 t] 3) : Px w 42 g (fun x => decide (x = t)) := by
  refine ⟨enters_of Try.func42 (by kernel_rfl) rfl, fun V hV x hx => ?_⟩
  have k0 := (k.below hV).c 0 _ rfl
  go_enter Try.func42, Try.ntmps42
  go_wp2_with fail
  go_ret
  refine ⟨?_, Below.refl _ _⟩
  by_cases h : x = t <;> simp [h]
set_option maxHeartbeats 4000000 in
theorem open_any (A : Option Addr) (n a : Nat) (l : List En) (P : List Pe) (t : Int) (hP : openO l = some P) (hn : n ≤ 1000) (w : World) (hl : EsAt REo w A n l) :
    Calls Try.prog 20 #[liV A n a, .int .i64 t] w fun r w' => ∃ v, r = .returned v ∧ REo.Own w' w.heap.size v (openT P t) ∧ Below w.heap.size w w' := by
  have HX := Lib.hid ((Bk.new w (liC A n a) 32).al (.cells #[.int .i64 t] 3))
  have hk := Bk.new (w.alloc (.cells (liC A n a) 32)) #[.int .i64 t] 3
  rw [size_al] at hk
  have HB := Lib.hid (below_two (below_new w (.cells (liC A n a) 32)) (below_new _ (.cells #[.int .i64 t] 3)))
  have HO := Lib.hid (opened_any 42 (w.heap.size + 1) (fun x => decide (x = t)) A n a l P hP hn _ (hl.below HB.out) (px_open _ _ t hk))
  have x0 := HX.out.c 0 _ rfl
  clear hl hk
  go_enter Try.func20, Try.ntmps20
  go_wp2_with fail
  refine HO.out.mono ?_
  rintro r w2 ⟨v, rfl, ho, hb, _⟩
  have HOO := Lib.hid ho
  have HB2 := Lib.hid (HB.out.trans (hb.mono HB.out.size))
  clear ho hb
  go_wp2_with fail
  go_ret
  exact ⟨v, rfl, HOO.out.le (by simp; omega), HB2.out⟩

/-- a set of numbers -/
def Cs (W : World) (b n : Nat) (C : List Int) : Prop :=
  ∃ D : DataW Value, W.ownsMap Try.prog 3 unitElem b n D ∧ IsMap D ∧ ∀ x : Int, okI x → has D (.int .i64 x) = decide (x ∈ C)
theorem int_keyQ : Keyed Try.prog 3 := int_keyed Try.underlying3
theorem int_keyOf (x : Int) (h : okI x) : keyOf Try.prog 3 (.int .i64 x) = some (.int .i64 x) := keyOf_int_mk Try.underlying3 (by unfold okI at h; simp [Lit.wf, IntKind.bits, IntKind.signed, IntKind.min, IntKind.max]; omega)
theorem Cs.made (W : World) : Cs (W.alloc (.map #[] 0)) W.heap.size 0 [] := ⟨.map [], World.ownsMap_made _ _ _ _, ⟨_, rfl⟩, fun x _ => by simp [has_eq]⟩
section
variable {W W' : World} {b n : Nat} {C : List Int}
theorem Cs.turn {S : Nat → Prop} (h : Cs W b n C) (ht : Turn S W W') (hS : ¬ S b) : Cs W' b n C := by
  obtain ⟨D, ho, hm, ha⟩ := h
  have hlt := ho.lt
  obtain ⟨es, clock, hb, F, hs, hD⟩ := ho
  exact ⟨D, ⟨es, clock, (ht.block b hlt hS).trans hb, F, hs, hD⟩, hm, ha⟩
theorem Cs.below (h : Cs W b n C) (hb : Below W.heap.size W W') : Cs W' b n C := h.turn (S := fun _ => False) (Turn.ofBelow hb) (fun h => h)
theorem Cs.upd (h : Cs W b n C) (hn : n < 100000000) (x : Int) (hx : okI x) :
    ∃ W', (Instr.mapUpdate 82 (.map (some b)) (.int .i64 x) (.agg #[])).run Try.prog W = .ok () W' ∧ Cs W' b (n + 1) (C ++ [x]) ∧ W.grownBy W' (some b) := by
  obtain ⟨D, ho, hm, ha⟩ := h
  obtain ⟨W', hrun, ho', hg⟩ := ho.update (t := 82) (e := 83) int_keyQ Try.underlying82 (Nat.lt_of_lt_of_le hn (by decide)) (int_keyOf x hx) (val := .agg #[]) (d := .agg []) (ps := []) unitElem_mk
  refine ⟨W', hrun, ⟨_, ho', ?_, fun y hy => ?_⟩, hg⟩
  · obtain ⟨es, rfl⟩ := hm
    exact ⟨_, rfl⟩
  · by_cases e : y = x
    · subst e
      rw [has_put_same hm (by trivial)]; simp
    · rw [has_put_other (fun h => e (by injection h)), ha y hy]; simp [e]
theorem zero_unit (W : World) : (zeroValue 83).run Try.prog W = .ok (.agg #[]) W := by kernel_rfl
theorem Cs.look (h : Cs W b n C) (x : Int) (hx : okI x) : (Instr.lookup 82 (.map (some b)) (.int .i64 x) true).run Try.prog W = .ok (.tuple #[.agg #[], .bool (decide (x ∈ C))]) W := by
  obtain ⟨D, ho, hm, ha⟩ := h
  obtain ⟨v, ps, hrun, hv⟩ := ho.look_ok (t := 82) (e := 83) int_keyQ Try.underlying82 (zero_unit W) (zd := .agg []) (zp := []) unitElem_mk (int_keyOf x hx)
  obtain ⟨rfl, _⟩ := unitElem_inv hv
  rw [hrun, ha x hx]
theorem Cs.lt (h : Cs W b n C) : b < W.heap.size := by obtain ⟨D, ho, _⟩ := h; exact ho.lt
end
/-- the function value of Undo -/
theorem px_undo (w : World) (g b n : Nat) (C : List Int) (k : Bk w g #[.map (some b)] 82) (hc : Cs w b n C) : Px w 38 g (fun x => decide (x ∈ C)) := by
  refine ⟨enters_of Try.func38 (by kernel_rfl) rfl, fun V hV x hx => ?_⟩
  have k0 := (k.below hV).c 0 _ rfl
  have hlk := (hc.below hV).look x hx
  have HB := Lib.hid (below_new V (.cells #[] 83))
  go_enter Try.func38, Try.ntmps38
  go_wp2_with fail
  go_ret
  exact ⟨rfl, HB.out⟩
end Go.Proofs.Ytpphhhalmccnbaa
