/-
  An array of 256 slices of bytes; the images of two notes, block by block. Bytes cloned.
-/
import Derived.Test.YtjpnihmijnpjcaaQh
import Derived.Test.YtjpnihmijnpjcaaQb
import Derived.Test.YtjpnihmijnpjcaaNv
namespace Go.Proofs.Ytjpnihmijnpjcaa
set_option maxRecDepth 100000
set_option linter.unusedVariables false
set_option linter.unusedSimpArgs false
open Go.RowKit Wm Nn

/-- where a slice's bytes are -/
structure Sl where
  a : Option Addr
  n : Nat
  c : Nat
def slV (s : Sl) : Value := .slice s.a s.n s.c
def arrS (f : Nat → Sl) : Array Value := Array.ofFn (n := 256) fun i => slV (f i)
theorem size_arrS (f : Nat → Sl) : (arrS f).size = 256 := by simp [arrS]
theorem get_arrS (f : Nat → Sl) (i : Nat) (h : i < 256) : (arrS f)[i]? = some (slV (f i)) := by
  unfold arrS
  rw [Array.getElem?_ofFn, dif_pos h]
theorem arrS_set (f g : Nat → Sl) (k : Nat) (v : Sl) (h : ∀ i, i < 256 → g i = if i = k then v else f i) : (arrS f).setIfInBounds k (slV v) = arrS g := by
  apply Array.ext_getElem?
  intro i
  rw [Array.getElem?_setIfInBounds, size_arrS]
  rcases Nat.lt_or_ge i 256 with hi | hi
  · rw [get_arrS f i hi, get_arrS g i hi, h i hi]
    by_cases hk : k = i
    · subst hk; rw [if_pos rfl, if_pos hi, if_pos rfl]
    · rw [if_neg hk, if_neg (fun e => hk e.symm)]
  · rw [Array.getElem?_eq_none (by rw [size_arrS]; exact hi), Array.getElem?_eq_none (by rw [size_arrS]; exact hi)]
    by_cases hk : k = i
    · subst hk; rw [if_pos rfl, if_neg (by omega)]
    · rw [if_neg hk]
def sl0 : Sl := ⟨none, 0, 0⟩
theorem arrS_zero : ((Try.prog.info? 88).map (fun i => i.zero.map (·.cells))) = some (some (arrS fun _ => sl0)) := by kernel_rfl
theorem arrS_size : ((Try.prog.info? 88).map (·.size)) = some 256 := by kernel_rfl
theorem sl_size : ((Try.prog.info? 26).map (·.size)) = some 1 := by kernel_rfl
theorem run_index_sl (f : Nat → Sl) (j : Nat) (hj : j < 256) (w : World) : (Instr.index 88 (.agg (arrS f)) (.int .i64 (j : Int))).run Try.prog w = .ok (slV (f j)) w := by
  have hs : (sizeOf 26).run Try.prog w = .ok 1 w := by
    cases hq : Try.prog.info? 26 with
    | none => have := sl_size; rw [hq] at this; cases this
    | some i =>
      have h1 : Try.prog.cellsOf 26 = 1 := by kernel_rfl
      rw [run_sizeOf w hq, h1]
  have ha : (isAgg 26).run Try.prog w = .ok false w := by simp [isAgg, run_underlying Try.underlying26]
  have hlt : (0 : Int) ≤ (j : Int) ∧ (j : Int) < ((256 : Nat) : Int) := ⟨by omega, by omega⟩
  have hp : (part 26 (arrS f) (j * 1)).run Try.prog w = .ok (slV (f j)) w := by
    rw [Nat.mul_one]
    simp [part, ha, get_arrS f j hj]
  unfold Instr.index
  simp only [asIntOf, Sem.run_bind, Sem.run_pure, Result.andThen_ok, run_underlying Try.underlying88, Sem.run_ite]
  rw [if_pos hlt]
  simp only [Sem.run_bind, hs, Result.andThen_ok, Int.toNat_natCast, hp]
theorem wpList_index_sl {ops : Array Oper} {rest : List Oper} {o : Oper} {a : Act} {w : World} {Q : Exit → Act → World → Prop} (f : Nat → Sl) (j : Nat) (hj : j < 256) (A : Option Addr) (n c : Nat) (hf : f j = ⟨A, n, c⟩) (hgd : o.guard = none) (x y : Operand) (ho : o.op = .index 88 x y) (hx : a.eval x = .agg (arrS f)) (hy : a.eval y = .int .i64 (j : Int))
    (k : wpList Try.prog ops Q rest (a.put o.dst (.slice A n c)) w) : wpList Try.prog ops Q (o :: rest) a w := by
  refine wpList_plain hgd fun K hK => ?_
  have hr := run_index_sl f j hj w
  rw [hf] at hr
  unfold Oper.wp execOp
  simp only [ho, hx, hy, Sem.run_bind, Sem.run_pure, hr, Result.andThen_ok]
  exact hK _ _ k

theorem run_nil_eql (t e : TypeId) (A : Option Addr) (n a : Nat) (h : Try.prog.underlying t = some (.slice e)) (V : World) : (binOp .eql t (.slice A n a) (.slice none 0 0)).run Try.prog V = .ok (.bool A.isNone) V := by
  simp only [binOp]
  simp [run_equal_slice_nil V t e A n a h]
theorem lit8 (w : World) : Owns (w.alloc (.cells #[] 5)) w.heap.size (some ⟨w.heap.size, 0, none⟩) 0 0 [] :=
  World.ownsRow_lit w #[] 0 (Nat.le_refl _) (by simp [maxLen]) rfl
/-- bytes that lie somewhere, in new memory -/
theorem clone8_any (w : World) (ad : Addr) (n c : Nat) (l : List UInt8) (hr : Rd w w.heap.size (some ad) l) (hn : l.length = n) (hm : n ≤ 1000) :
    Calls Try.prog 48 #[.slice (some ad) n c] w (Made w n l) := by
  have HR := Lib.hid (hr.below (below_new w (.cells #[] 5)))
  have HN := Lib.hid hn
  have hnil := fun V => run_nil_eql 26 _ (some ad) n c Try.underlying26 V
  simp only [Option.isNone_some] at hnil
  obtain ⟨i, hi, hz, hs, hb⟩ : ∃ i, Try.prog.info? 5 = some i ∧ i.zero = some (.int .u8 0) ∧ i.size = 1 ∧ i.bytes = 1 := by
    obtain ⟨i, h1, h2, h3, h4⟩ := parts_of (e := 5) (z := some (.int .u8 0)) (s := 1) (b := 1) (by kernel_rfl)
    exact ⟨i, h1, h2, h3, h4⟩
  have HI := Lib.hid (And.intro hi (And.intro hz (And.intro hs hb)))
  clear hr hn hi hz hs hb
  go_enter Try.func48, Try.ntmps48
  go_wp2_with (first
    | (at_builtin; refine wpList_append_rd rfl (.tmp 5) (.tmp 6) 26 rfl w.heap.size i Try.underlying26 HI.out.1 HI.out.2.1 HI.out.2.2.1 HI.out.2.2.2 (.slice (some ⟨w.heap.size, 0, none⟩) 0 0) 0 [] rfl (lit8 w) w.heap.size (some ad) l n c rfl HR.out HN.out (by omega) (by simp) ?_; intro v7 w7 hx1 hg1 ha1; have HO7 := Lib.hid hx1; have HG7 := Lib.hid hg1; clear hx1 hg1 ha1)
    | fail)
  go_ret
  refine Made.of_own (n := 0 + n) (by have := HO7.out; rwa [List.nil_append] at this) (Below.grown (below_new w _) HG7.out (by simp) (fun q e => by have e2 : w.heap.size = q := Option.some.inj e; omega)) (by omega)

/-- what a block's bytes come to, and what both have -/
theorem both_scan {a b : List Im} (ha : ∀ j, imGood a j) (hb : ∀ j, imGood b j) (k : Nat) :
    (scan (k : Int) (a ++ b) [] = [] ∧ both a b k = none) ∨ ((scan (k : Int) (a ++ b) []).length = 32 ∧ both a b k = some ⟨(k : Int), scan (k : Int) (a ++ b) []⟩) := by
  have e : scan (k : Int) (a ++ b) [] = scan (k : Int) b (scan (k : Int) a []) := by unfold scan; rw [List.foldl_append]
  rw [e, scan_pick (up_of hb), scan_pick (up_of ha)]
  unfold both
  cases hb2 : pick b k with
  | some x =>
    have h1 := pick_key hb2
    have h2 := (good_mem hb x (pick_mem hb2)).2
    right
    refine ⟨h2, ?_⟩
    cases x
    simp only at h1
    subst h1
    rfl
  | none =>
    cases ha2 : pick a k with
    | some x =>
      have h1 := pick_key ha2
      have h2 := (good_mem ha x (pick_mem ha2)).2
      right
      refine ⟨h2, ?_⟩
      cases x
      simp only at h1
      subst h1
      rfl
    | none => left; exact ⟨rfl, rfl⟩
end Go.Proofs.Ytjpnihmijnpjcaa
