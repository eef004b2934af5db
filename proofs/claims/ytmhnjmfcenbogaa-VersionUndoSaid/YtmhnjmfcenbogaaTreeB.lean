/-
  The library's functions that the program calls, laid at this program.
-/
import Derived.Shelf.SlicesE.Clone
import Derived.Shelf.SlicesG.Cmp
import Derived.Test.YtmhnjmfcenbogaaProg
import Derived.Test.YtmhnjmfcenbogaaBa
import Derived.Deep.RegionHeld
import Derived.Test.YtmhnjmfcenbogaaTreeA
import Derived.Maps.AppendAt
import Derived.Laws.ResultCell
import Derived.Laws.Tables
import Derived.Deep.CutBlock
import Derived.Deep.CutRange
import Derived.RegionTactic
namespace Go.Proofs
open Go.Shelf
def Try.cloneL_ren : Go.Shelf.Ren := ⟨fun | 41 => 44 | n => n, fun | 22 => 24 | 23 => 38 | 4 => 4 | n => n, fun | n => n⟩
theorem Try.cloneL : Go.Proofs.SlLaysE0.n41 Try.prog Try.cloneL_ren := {
  mixed := by kernel_rfl
  f41 := ⟨Try.f44.name, by decide, Try.func44.trans (congrArg some (by kernel_rfl))⟩
  t4 := Try.underlying4
  a4 := Try.isAgg4
  z4 := Try.sizeOf4
  v4 := Try.zeroValue4
  t22 := Try.underlying24
  a22 := Try.isAgg24
  z22 := Try.sizeOf24
  v22 := Try.zeroValue24 }
end Go.Proofs

namespace Go.Proofs.Ytmhnjmfcenbogaa
set_option maxRecDepth 100000
open Go.RowKit



end Go.Proofs.Ytmhnjmfcenbogaa

namespace Go.Proofs.Ytmhnjmfcenbogaa
set_option maxRecDepth 100000
set_option linter.unusedVariables false
open Go.RowKit Go.Shelf

/-- a row's cells -/
def txC : List Tx → List Value
  | [] => []
  | x :: l => .int .i64 x.p :: .int .i64 x.s :: .int .i64 x.b :: .int .i64 x.e :: txC l
theorem length_txC : ∀ l : List Tx, (txC l).length = l.length * 4
  | [] => rfl
  | x :: l => by simp [txC, length_txC l]; omega
theorem txC_append : ∀ a b : List Tx, txC (a ++ b) = txC a ++ txC b
  | [], _ => rfl
  | x :: a, b => by simp [txC, txC_append a b]
theorem txC_get : ∀ (l : List Tx) (i : Nat) (x : Tx), l[i]? = some x → (txC l)[i * 4]? = some (.int .i64 x.p) ∧ (txC l)[i * 4 + 1]? = some (.int .i64 x.s) ∧ (txC l)[i * 4 + 2]? = some (.int .i64 x.b) ∧ (txC l)[i * 4 + 3]? = some (.int .i64 x.e)
  | [], i, x, h => by simp at h
  | y :: l, 0, x, h => by simp at h; subst h; exact ⟨rfl, rfl, rfl, rfl⟩
  | y :: l, i + 1, x, h => by
    have := txC_get l i x (by simpa using h)
    rw [show (i + 1) * 4 = i * 4 + 1 + 1 + 1 + 1 from by omega]
    exact this
theorem txC_inv : ∀ (l : List Tx) (j : Nat) (u : Value), (txC l)[j]? = some u → ∃ i x, l[i]? = some x ∧ ((j = i * 4 ∧ u = .int .i64 x.p) ∨ (j = i * 4 + 1 ∧ u = .int .i64 x.s) ∨ (j = i * 4 + 2 ∧ u = .int .i64 x.b) ∨ (j = i * 4 + 3 ∧ u = .int .i64 x.e))
  | [], j, u, h => by simp [txC] at h
  | x :: l, 0, u, h => by simp [txC] at h; exact ⟨0, x, rfl, .inl ⟨rfl, h.symm⟩⟩
  | x :: l, 1, u, h => by simp [txC] at h; exact ⟨0, x, rfl, .inr (.inl ⟨rfl, h.symm⟩)⟩
  | x :: l, 2, u, h => by simp [txC] at h; exact ⟨0, x, rfl, .inr (.inr (.inl ⟨rfl, h.symm⟩))⟩
  | x :: l, 3, u, h => by simp [txC] at h; exact ⟨0, x, rfl, .inr (.inr (.inr ⟨rfl, h.symm⟩))⟩
  | x :: l, j + 4, u, h => by
    have h : (txC l)[j]? = some u := by simpa [txC] using h
    obtain ⟨i, y, h1, h2⟩ := txC_inv l j u h
    refine ⟨i + 1, y, by simpa using h1, ?_⟩
    rcases h2 with ⟨h2, h3⟩ | ⟨h2, h3⟩ | ⟨h2, h3⟩ | ⟨h2, h3⟩
    · exact .inl ⟨by omega, h3⟩
    · exact .inr (.inl ⟨by omega, h3⟩)
    · exact .inr (.inr (.inl ⟨by omega, h3⟩))
    · exact .inr (.inr (.inr ⟨by omega, h3⟩))
theorem txC_one (l : List Tx) : ∀ u ∈ txC l, u.oneCell' = true := by
  intro u hu
  obtain ⟨j, hj, rfl⟩ := List.getElem_of_mem hu
  obtain ⟨i, x, _, h⟩ := txC_inv l j _ (List.getElem?_eq_getElem hj)
  rcases h with ⟨_, h⟩ | ⟨_, h⟩ | ⟨_, h⟩ | ⟨_, h⟩ <;> rw [h] <;> rfl

theorem tx_facts : (Try.prog.info? 38).map (fun i => (i.zero, i.size, i.bytes)) = some (some (.agg #[.int .i64 0, .int .i64 0, .int .i64 0, .int .i64 0]), 4, 32) := by kernel_rfl

/-- a row of the call's own -/
def OwnTx (w : World) (base : Nat) (v : Value) (l : List Tx) : Prop := w.ownsRow base 38 4 v l.length (txC l)
theorem OwnTx.form {w : World} {base : Nat} {v : Value} {l : List Tx} (h : OwnTx w base v l) : ∃ A c, v = .slice A l.length c ∧ TxAt w A l ∧ ∀ b o, A = some ⟨b, o, none⟩ → base ≤ b := by
  rcases h.2 with ⟨rfl, hn⟩ | ⟨g, cap, cur, rfl, hg, _, hnc, _⟩
  · have : l = [] := List.eq_nil_of_length_eq_zero hn
    subst this
    exact ⟨none, 0, rfl, .inl ⟨rfl, rfl⟩, fun b o e => by cases e⟩
  · refine ⟨_, cap, rfl, .inr ⟨g, rfl, (h.lt g rfl).2, fun i x hx => ?_⟩, fun b o e => by injection e with e; injection e with e1; omega⟩
    have hi : i < l.length := (List.getElem?_eq_some_iff.1 hx).1
    have ht := txC_get l i x hx
    exact ⟨(h.cellAt (i * 4) (by omega)).trans ht.1, (h.cellAt (i * 4 + 1) (by omega)).trans ht.2.1, (h.cellAt (i * 4 + 2) (by omega)).trans ht.2.2.1, (h.cellAt (i * 4 + 3) (by omega)).trans ht.2.2.2⟩

theorem OwnTx.cap {w : World} {base n c : Nat} {A : Option Addr} {l : List Tx} (h : OwnTx w base (.slice A n c) l) : n ≤ c := by
  rcases h.2 with ⟨e, _⟩ | ⟨g, cap, cur, e, hg, _, hnc, _⟩
  · injection e with _ e1 e2; omega
  · injection e with _ e1 e2; omega
theorem OwnTx.turn {S : Nat → Prop} {w w' : World} {base : Nat} {v : Value} {l : List Tx} (h : OwnTx w base v l) (ht : Turn S w w') (hS : ∀ k, v.ownBlock = some k → ¬ S k) : OwnTx w' base v l := by
  refine ⟨h.1, ?_⟩
  rcases h.2 with h2 | ⟨g, c, cur, e, hg, hh, rest⟩
  · exact .inl h2
  · exact .inr ⟨g, c, cur, e, hg, (ht.block g (lt_of_block hh) (hS g (by rw [e]; rfl))).trans hh, rest⟩
theorem OwnTx.below {w w' : World} {base : Nat} {v : Value} {l : List Tx} (h : OwnTx w base v l) (hb : Below w.heap.size w w') : OwnTx w' base v l := h.turn (S := fun _ => False) (Turn.ofBelow hb) (fun _ _ h => h)
theorem OwnTx.lt {w : World} {base : Nat} {v : Value} {l : List Tx} (h : OwnTx w base v l) : ∀ k, v.ownBlock = some k → base ≤ k ∧ k < w.heap.size := World.ownsRow.lt h
theorem OwnTx.le {w : World} {base b : Nat} {v : Value} {l : List Tx} (h : OwnTx w base v l) (hb : b ≤ base) : OwnTx w b v l := by
  refine ⟨h.1, ?_⟩
  rcases h.2 with h2 | ⟨g, c, cur, e, hg, rest⟩
  · exact .inl h2
  · exact .inr ⟨g, c, cur, e, Nat.le_trans hb hg, rest⟩

theorem clone_any (A : Option Addr) (l : List Tx) (n cap : Nat) (w : World) (hl : l.length = n) (hn : n ≤ 64) (hT : TxAt w A l) :
    Calls Try.prog 44 #[.slice A n cap] w fun e w' => ∃ A' k', e = .returned (.slice A' n k') ∧ OwnTx w' w.heap.size (.slice A' n k') l ∧ Below w.heap.size w w' := by
  subst hl
  rcases hT with ⟨rfl, rfl⟩ | ⟨b, rfl, hb, hc⟩
  · refine (AnyE.slices_Clone_nil (P := Try.prog) (ρ := Try.cloneL_ren) Try.cloneL 0 cap w).mono ?_
    rintro e w' ⟨rfl, rfl⟩
    exact ⟨none, 0, rfl, World.ownsRow_nil _ _ _ _, Below.refl _ _⟩
  · have hi := tx_facts
    cases hq : Try.prog.info? 38 with
    | none => rw [hq] at hi; cases hi
    | some i0 =>
      rw [hq] at hi
      simp only [Option.map_some, Option.some.injEq, Prod.mk.injEq] at hi
      refine (AnyE.slices_Clone (P := Try.prog) (ρ := Try.cloneL_ren) Try.cloneL i0 _ 4 32 hq hi.1 hi.2.1 hi.2.2 rfl (by decide) Try.sizeOf38 b 0 l.length cap (txC l) w (length_txC l) (by unfold maxLen; omega) (by omega) ?_ (txC_one l)).mono ?_
      · intro j u hu
        obtain ⟨i, x, hx, h⟩ := txC_inv l j u hu
        obtain ⟨h0, h1, h2, h3⟩ := hc i x hx
        rw [Nat.zero_add]
        rcases h with ⟨rfl, rfl⟩ | ⟨rfl, rfl⟩ | ⟨rfl, rfl⟩ | ⟨rfl, rfl⟩
        · exact h0
        · exact h1
        · exact h2
        · exact h3
      · rintro e w' ⟨v, rfl, ho, _, hb⟩
        obtain ⟨A', k', rfl, _, _⟩ := OwnTx.form (l := l) ho
        exact ⟨A', k', rfl, ho, hb⟩

/-- is that one Live? -/
def Tr.liveE (T : Tr) (i : Int) : Int := if 0 ≤ i ∧ i < (T.l.length : Int) then (if (T.tx i.toNat).s = 1 then 0 else 7) else 6

set_option maxHeartbeats 1000000 in
theorem live_any (A : Option Addr) (T : Tr) (N cap : Nat) (c i : Int) (hN : T.l.length = N) (hn64 : N ≤ 64) (w : World) (hT : TxAt w A T.l) :
    Calls Try.prog 32 #[.agg #[.slice A N cap, .int .i64 c], .int .i64 i] w fun e w' => e = .returned (.int .i64 (T.liveE i)) ∧ Below w.heap.size w w' := by
  have hb1 := below_new w (.cells #[.slice A N cap, .int .i64 c] 26)
  have hb2 := below_two hb1 (below_new _ (.cells #[.slice A N cap, .int .i64 c] 26))
  have HB2 := Lib.hid hb2
  have hk := known_any A N cap c i (w.alloc (.cells #[.slice A N cap, .int .i64 c] 26))
  by_cases hin : 0 ≤ i ∧ i < (N : Int)
  · rw [decide_eq_true hin] at hk
    obtain ⟨x, rfl⟩ : ∃ x : Nat, i = x := ⟨i.toNat, by omega⟩
    have hx : x < N := by omega
    obtain ⟨b, hAe, hb, _, p1, _, _⟩ := hT.get (i := x) (by rw [hN]; exact hx)
    subst hAe
    have p2 := cell_al (.cells #[.slice (some ⟨b, 0, none⟩) N cap, .int .i64 c] 26) (cell_al (.cells #[.slice (some ⟨b, 0, none⟩) N cap, .int .i64 c] 26) p1)
    have hE : T.liveE (x : Int) = if (T.tx x).s = 1 then 0 else 7 := by unfold Tr.liveE; rw [if_pos (by rw [hN]; exact hin)]; simp
    obtain ⟨q, hq⟩ : ∃ q, q = (T.tx x).s := ⟨_, rfl⟩
    rw [← hq] at p2 hE
    have HE := Lib.hid hE
    have HK := Lib.hid hk
    clear hk hE hq p1 hN hT hb1 hb2
    by_cases h1 : q = 1
    · have hb1 : (q == 1) = true := by simpa using h1
      have H1 := Lib.hid h1
      clear h1
      go_enter Try.func32, Try.ntmps32
      go_wp2_with fail
      refine HK.out.mono ?_
      rintro e w1 ⟨rfl, rfl⟩
      go_wp2
      go_ret
      exact ⟨by rw [HE.out, if_pos H1.out]; rfl, HB2.out⟩
    · have hb1 : (q == 1) = false := by simpa using h1
      have H1 := Lib.hid h1
      clear h1
      go_enter Try.func32, Try.ntmps32
      go_wp2_with fail
      refine HK.out.mono ?_
      rintro e w1 ⟨rfl, rfl⟩
      go_wp2
      go_ret
      exact ⟨by rw [HE.out, if_neg H1.out]; rfl, HB2.out⟩
  · rw [decide_eq_false hin] at hk
    have HE := Lib.hid (show T.liveE i = 6 from by unfold Tr.liveE; rw [if_neg (by rw [hN]; exact hin)])
    have HK := Lib.hid hk
    clear hk hN hT hb1 hb2
    go_enter Try.func32, Try.ntmps32
    go_wp2_with fail
    refine HK.out.mono ?_
    rintro e w1 ⟨rfl, rfl⟩
    go_wp2
    go_ret
    exact ⟨by rw [HE.out]; rfl, HB2.out⟩

/-- a tree lies in block g -/
def TB (W : World) (g : Nat) (A : Option Addr) (n k : Nat) (c : Int) : Prop := W.heap[g]? = some (.cells #[.slice A n k, .int .i64 c] 26 (0, 0))
section
variable {W V : World} {g : Nat} {A A' : Option Addr} {n k n' k' : Nat} {c c' : Int}
theorem TB.c0 (h : TB W g A n k c) : W.cell? ⟨g, 0, none⟩ = some (.slice A n k) := (cell_of_row _ _ _ _ _ _ h).trans rfl
theorem TB.c1 (h : TB W g A n k c) : W.cell? ⟨g, 1, none⟩ = some (.int .i64 c) := (cell_of_row _ _ _ _ _ _ h).trans rfl
theorem TB.fr (h : TB W g A n k c) (j : Nat) : W.frozen? ⟨g, j, none⟩ = false := by
  have h' : W.heap[g]? = _ := h
  unfold World.frozen?
  simp only [h']
  simp
theorem TB.lt (h : TB W g A n k c) : g < W.heap.size := lt_of_block h
theorem TB.below (h : TB W g A n k c) (hb : Below W.heap.size W V) : TB V g A n k c := (hb.block g h.lt).trans h
theorem TB.turn {S : Nat → Prop} (h : TB W g A n k c) (ht : Turn S W V) (hS : ¬ S g) : TB V g A n k c := (ht.block g h.lt hS).trans h
theorem TB.far {r : Option Nat} (h : TB W g A n k c) (hg : W.grownBy V r) (hne : some g ≠ r) : TB V g A n k c := (hg.block g h.lt hne).trans h
theorem TB.new (W : World) (A : Option Addr) (n k : Nat) (c : Int) : TB (W.alloc (.cells #[.slice A n k, .int .i64 c] 26)) W.heap.size A n k c := heap_alloc_new W _
theorem TB.set (h : TB W g A n k c) (A' : Option Addr) (n' k' : Nat) : TB (W.setCell ⟨g, 0, none⟩ (.slice A' n' k')) g A' n' k' c := heap_setCell_same W g 0 _ _ _ h
theorem tree_info : (Try.prog.info? 26).map (·.size) = some (#[Value.slice none 0 0, Value.int .i64 0] : Array Value).size := by kernel_rfl
theorem tree_under : ∃ fs, Try.prog.underlying 26 = some (.struct fs) := ⟨_, Try.underlying26⟩
theorem grown_setRow (h : TB W g A n k c) (cs : Array Value) : W.grownBy (W.setRow g cs) (some g) := ⟨rfl, rfl, rfl, by rw [setRow_size]; exact Nat.le_refl _, fun j _ hj => setRow_other W g j _ (fun e => hj (by rw [e]))⟩
theorem wp_store_tree {o : Oper} {a : Act} {K : Act → World → Prop} {Q : Exit → Act → World → Prop} (x y : Operand) (ho : o.op = .store 26 x y) (hx : a.eval x = .pointer (some ⟨g, 0, none⟩)) (hy : a.eval y = .agg #[.slice A' n' k', .int .i64 c'])
    (hb : TB W g A n k c) (h : ∀ w', TB w' g A' n' k' c' → W.grownBy w' (some g) → K (a.put o.dst undef) w') : o.wp Try.prog a W K Q :=
  wp_store_row 26 x y ho g _ hx hy 26 _ hb tree_info rfl (by simp [Value.oneCell']) (h _ (setRow_heap _ _ _ _ _ _ hb) (grown_setRow hb _))
theorem wpList_store_tree {ops : Array Oper} {rest : List Oper} {o : Oper} {a : Act} {Q : Exit → Act → World → Prop} (hgd : o.guard = none) (x y : Operand) (ho : o.op = .store 26 x y) (hx : a.eval x = .pointer (some ⟨g, 0, none⟩)) (hy : a.eval y = .agg #[.slice A' n' k', .int .i64 c'])
    (hb : TB W g A n k c) (h : ∀ w', TB w' g A' n' k' c' → W.grownBy w' (some g) → wpList Try.prog ops Q rest (a.put o.dst undef) w') : wpList Try.prog ops Q (o :: rest) a W :=
  wpList_store_row hgd 26 x y ho g _ hx hy 26 _ hb tree_info rfl (by simp [Value.oneCell']) (h _ (setRow_heap _ _ _ _ _ _ hb) (grown_setRow hb _))
theorem run_load_tree (h : TB W g A n k c) : (loadVar 26 ⟨g, 0, none⟩).run Try.prog W = .ok (.agg #[.slice A n k, .int .i64 c]) W := by
  obtain ⟨fs, hu⟩ := tree_under
  exact run_loadVar_row W g _ _ _ (0, 0) _ h hu rfl tree_info
theorem results_tree {fn : Func} {p : Tmp} (hf : fn.results = #[.cell p 26]) (tmps : Array Value) (hp : tmps.getD p undef = .pointer (some ⟨g, 0, none⟩)) (h : TB W g A n k c) : (results fn tmps).run Try.prog W = .ok (.agg #[.slice A n k, .int .i64 c]) W := by
  obtain ⟨fs, hu⟩ := tree_under
  exact results_cell_row hf tmps W g _ _ (0, 0) _ hp h hu rfl tree_info
theorem results_tree2 {fn : Func} {p u : Tmp} (hf : fn.results = #[.cell p 26, .tmp u]) (tmps : Array Value) (hp : tmps.getD p undef = .pointer (some ⟨g, 0, none⟩)) (v : Value) (hv : tmps.getD u undef = v) (h : TB W g A n k c) :
    (results fn tmps).run Try.prog W = .ok (.tuple #[.agg #[.slice A n k, .int .i64 c], v]) W := by
  have hp' : tmps[p]?.getD undef = .pointer (some ⟨g, 0, none⟩) := by simpa using hp
  have hv' : tmps[u]?.getD undef = v := by simpa using hv
  simp [results, hf, hp', hv', asAddr, run_load_tree h]
theorem results_tree3 {fn : Func} {p u r : Tmp} (hf : fn.results = #[.cell p 26, .tmp u, .tmp r]) (tmps : Array Value) (hp : tmps.getD p undef = .pointer (some ⟨g, 0, none⟩)) (v z : Value) (hv : tmps.getD u undef = v) (hz : tmps.getD r undef = z) (h : TB W g A n k c) :
    (results fn tmps).run Try.prog W = .ok (.tuple #[.agg #[.slice A n k, .int .i64 c], v, z]) W := by
  have hp' : tmps[p]?.getD undef = .pointer (some ⟨g, 0, none⟩) := by simpa using hp
  have hv' : tmps[u]?.getD undef = v := by simpa using hv
  have hz' : tmps[r]?.getD undef = z := by simpa using hz
  simp [results, hf, hp', hv', hz', asAddr, run_load_tree h]
end

set_option maxHeartbeats 2000000 in
/-- the tree a step on, in new memory -/
theorem next_any (A : Option Addr) (T : Tr) (N cap : Nat) (c : Int) (hN : T.l.length = N) (hn64 : N ≤ 64) (hc : 0 ≤ c ∧ c ≤ 1000) (w : World) (hT : TxAt w A T.l) :
    Calls Try.prog 33 #[.agg #[.slice A N cap, .int .i64 c]] w fun e w' => ∃ A' k', e = .returned (.agg #[.slice A' N k', .int .i64 (c + 1)]) ∧ OwnTx w' w.heap.size (.slice A' N k') T.l ∧ Below w.heap.size w w' := by
  obtain ⟨wx, hw0⟩ : ∃ wx, wx = w.alloc (.cells #[.slice A N cap, .int .i64 c] 26) := ⟨_, rfl⟩
  obtain ⟨w1, hw1⟩ : ∃ wy, wy = wx.alloc (.cells #[.slice none 0 0, .int .i64 0] 26) := ⟨_, rfl⟩
  have b1 : TB w1 w.heap.size A N cap c := by rw [hw1, hw0]; exact (TB.new w _ _ _ _).below (below_new _ _)
  have b2 : TB w1 (w.heap.size + 1) none 0 0 0 := by
    have h := TB.new wx none 0 0 0
    rw [show wx.heap.size = w.heap.size + 1 from by rw [hw0]; simp] at h
    rw [hw1]; exact h
  have hb : Below w.heap.size w w1 := by rw [hw1, hw0]; exact below_two (below_new w _) (below_new _ _)
  have HB1 := Lib.hid hb
  have hX : ∀ b o, A = some ⟨b, o, none⟩ → T.l = [] ∨ ¬ b = w.heap.size + 1 := fun b o e => (hT.lt b o e).imp id (fun h => by omega)
  have k0 := fun (V : World) (h : Turn (fun k => k = w.heap.size + 1) w1 V) => (b1.turn h (by omega)).c0
  have k1 := fun (V : World) (h : Turn (fun k => k = w.heap.size + 1) w1 V) => (b1.turn h (by omega)).c1
  have HK0 := Lib.hid k0
  have HK1 := Lib.hid k1
  have H2 := Lib.hid b2
  have HT1 := Lib.hid (hT.below hb)
  have wr : IntKind.i64.wrap (c + 1) = c + 1 := by simp [IntKind.wrap, IntKind.bits, IntKind.signed]; omega
  have HCL := Lib.hid (fun W (hW : Turn (fun k => k = w.heap.size + 1) w1 W) => clone_any A T.l N cap W hN hn64 (HT1.out.turn hW hX))
  have HX := Lib.hid hX
  clear b1 b2 hb hT hN k0 k1 hX
  go_enter Try.func33, Try.ntmps33
  go_upto_region 1 with fail
  rw [← hw0, ← hw1]
  clear hw0 hw1 wx
  have k0 := HK0.out
  have k1 := HK1.out
  refine wp_region_turn (X := (fun k => k = w.heap.size + 1)) (by kernel_rfl) ?_
  have hS : Turn (fun k => k = w.heap.size + 1) w1 (World.drew w1) := (Turn.refl _ _).drew
  refine wpAnyH_take (i := 0) (oi := ⟨some 3, _, _, _, _, _⟩) (v := ?_) rfl (by kernel_rfl) (by kernel_rfl) (by kernel_rfl) (fun _ _ _ h => h) (Or.inl ⟨by rfl, ?_⟩) hS ?_
  rotate_left
  · intro W hW; go_simp; with_reducible rfl
  try simp only [Act.put, List.setIfInBounds_toArray, List.set_cons_zero, List.set_cons_succ]
  refine wpAnyH_take (i := 1) (oi := ⟨some 4, _, _, _, _, _⟩) (v := ?_) rfl (by kernel_rfl) (by kernel_rfl) (by kernel_rfl) (fun _ _ _ h => h) (Or.inl ⟨by rfl, ?_⟩) hS ?_
  rotate_left
  · intro W hW; go_simp; with_reducible rfl
  try simp only [Act.put, List.setIfInBounds_toArray, List.set_cons_zero, List.set_cons_succ]
  refine wpAnyH_take (i := 3) (oi := ⟨some 6, _, _, _, _, _⟩) (v := ?_) rfl (by kernel_rfl) (by kernel_rfl) (by kernel_rfl) (fun _ _ _ h => h) (Or.inl ⟨by rfl, ?_⟩) hS ?_
  rotate_left
  · intro W hW; go_simp; with_reducible rfl
  try simp only [Act.put, List.setIfInBounds_toArray, List.set_cons_zero, List.set_cons_succ]
  refine wpAnyH_take (i := 4) (oi := ⟨some 7, _, _, _, _, _⟩) (v := ?_) rfl (by kernel_rfl) (by kernel_rfl) (by kernel_rfl) (fun _ _ _ h => h) (Or.inl ⟨by rfl, ?_⟩) hS ?_
  rotate_left
  · intro W hW; go_simp; with_reducible rfl
  try simp only [Act.put, List.setIfInBounds_toArray, List.set_cons_zero, List.set_cons_succ]
  refine wpAnyH_take (i := 5) (oi := ⟨some 8, _, _, _, _, _⟩) (v := ?_) rfl (by kernel_rfl) (by kernel_rfl) (by kernel_rfl) (fun _ _ _ h => h) (Or.inl ⟨by rfl, ?_⟩) hS ?_
  rotate_left
  · intro W hW; go_simp; with_reducible rfl
  try simp only [Act.put, List.setIfInBounds_toArray, List.set_cons_zero, List.set_cons_succ]
  refine wpAnyH_ready (rs := [2]) (by kernel_rfl) (by simp) ?_
  refine AllReadyH.cons (o := ⟨some 5, _, _, _, _, _⟩) rfl (fun Kr hKr => ?_) AllReadyH.nil
  -- operation 2: a call
  go_simp
  refine (HCL.out _ hS).mono ?_
  rintro e V0 ⟨A', k', rfl, ho, hx⟩
  have HO := Lib.hid ho
  have HB0 := Lib.hid (below_two ((Below.refl w1.heap.size w1).drew) hx)
  have HV := Lib.hid hx.size
  show Kr _ _
  refine hKr.out _ _ ?_ (fun _ => ?_)
  · exact hS.trans (.ofBelow hx)
  clear hKr Kr
  replace hS : Turn (fun k => k = w.heap.size + 1) w1 V0 := hS.trans (.ofBelow hx)
  try simp only [Act.put, List.setIfInBounds_toArray, List.set_cons_zero, List.set_cons_succ]
  refine wpAnyH_take (i := 6) (oi := ⟨some 9, _, _, _, _, _⟩) (v := ?_) rfl (by kernel_rfl) (by kernel_rfl) (by kernel_rfl) (fun _ _ _ h => h) (Or.inl ⟨by rfl, ?_⟩) hS ?_
  rotate_left
  · intro W hW; go_simp; with_reducible rfl
  try simp only [Act.put, List.setIfInBounds_toArray, List.set_cons_zero, List.set_cons_succ]
  refine wpAnyH_ready (rs := [7]) (by kernel_rfl) (by simp) ?_
  refine AllReadyH.cons (o := ⟨none, _, _, _, _, _⟩) rfl (fun Kr hKr => ?_) AllReadyH.nil
  -- operation 7: a step
  rw [if_pos (by kernel_rfl)]
  refine wp_store_tree (.tmp 2) (.tmp 9) rfl rfl rfl (H2.out.below HB0.out) ?_
  intro V1 hb1 hg1
  show Kr _ _
  refine hKr.out _ _ ?_ (fun _ => ?_)
  · exact hS.grown hg1 (fun j e => by injection e with e; exact .inl e.symm)
  clear hKr Kr
  replace hS : Turn (fun k => k = w.heap.size + 1) w1 V1 := hS.grown hg1 (fun j e => by injection e with e; exact .inl e.symm)
  try simp only [Act.put]
  refine wpAnyH_done (by kernel_rfl) ?_ _
  have HTB := Lib.hid hb1
  have HG1 := Lib.hid hg1
  clear hb1 hg1 hS
  go_wp2_with fail
  refine bodyPost_ret (results_tree rfl _ rfl HTB.out) rfl ?_
  have hs1 : w.heap.size + 1 < w1.heap.size := H2.out.lt
  have hdr : w1.drew.heap.size = w1.heap.size := rfl
  have hO1 := HO.out.turn (S := fun k => k = w.heap.size + 1) ((Turn.refl _ V0).grown HG1.out (fun j e => by injection e with e; exact .inl e.symm)) (fun k e h => by have h1 := (HO.out.lt k e).1; rw [hdr] at h1; omega)
  refine ⟨A', k', rfl, hO1.le (by rw [hdr]; omega), ?_⟩
  exact (below_two HB1.out HB0.out).grown HG1.out (Nat.le_trans HB1.out.size HB0.out.size) (fun j e => by injection e with e; omega)

end Go.Proofs.Ytmhnjmfcenbogaa

namespace Go.Proofs.Ytmhnjmfcenbogaa
set_option maxRecDepth 100000
set_option linter.unusedVariables false
open Go.RowKit Go.Shelf

def idC (l : List Nat) : List Value := l.map fun x : Nat => .int .i64 (x : Int)
/-- IDs in a row -/
def IdAt (W : World) (A : Option Addr) (l : List Nat) : Prop :=
  (A = none ∧ l = []) ∨ ∃ b, A = some ⟨b, 0, none⟩ ∧ b < W.heap.size ∧ ∀ (j x : Nat), l[j]? = some x → W.cell? ⟨b, j, none⟩ = some (.int .i64 (x : Int))
/-- a row of the call's own -/
def OwnId (w : World) (base : Nat) (v : Value) (l : List Nat) : Prop := w.ownsRow base 3 1 v l.length (idC l)
theorem IdAt.below {W V : World} {A : Option Addr} {l : List Nat} (h : IdAt W A l) (hb : Below W.heap.size W V) : IdAt V A l := by
  rcases h with h | ⟨b, e, hl, hc⟩
  · exact .inl h
  · exact .inr ⟨b, e, Nat.lt_of_lt_of_le hl hb.size, fun j x hx => (hb.cell (p := ⟨b, j, none⟩) hl).trans (hc j x hx)⟩
theorem IdAt.turn {S : Nat → Prop} {W V : World} {A : Option Addr} {l : List Nat} (h : IdAt W A l) (ht : Turn S W V) (hS : ∀ b o, A = some ⟨b, o, none⟩ → ¬ S b) : IdAt V A l := by
  rcases h with h | ⟨b, e, hl, hc⟩
  · exact .inl h
  · exact .inr ⟨b, e, Nat.lt_of_lt_of_le hl ht.size, fun j x hx => ht.cell (hc j x hx) (hS b 0 e)⟩
theorem IdAt.get {W : World} {A : Option Addr} {l : List Nat} (h : IdAt W A l) {j : Nat} (hj : j < l.length) : ∃ b, A = some ⟨b, 0, none⟩ ∧ b < W.heap.size ∧ W.cell? ⟨b, j, none⟩ = some (.int .i64 ((l[j]) : Int)) := by
  rcases h with h | ⟨b, e, hl, hc⟩
  · rw [h.2] at hj; simp at hj
  · exact ⟨b, e, hl, hc j _ (List.getElem?_eq_getElem hj)⟩
theorem IdAt.get2 {W : World} {A : Option Addr} {l : List Nat} (h : IdAt W A l) {j x : Nat} (hx : l[j]? = some x) : ∃ b, A = some ⟨b, 0, none⟩ ∧ b < W.heap.size ∧ W.cell? ⟨b, j, none⟩ = some (.int .i64 (x : Int)) := by
  rcases h with h | ⟨b, e, hl, hc⟩
  · rw [h.2] at hx; simp at hx
  · exact ⟨b, e, hl, hc j x hx⟩
section
variable {w w' : World} {base : Nat} {v : Value} {l : List Nat}
theorem OwnId.nil (w : World) (base : Nat) : OwnId w base (.slice none 0 0) [] := World.ownsRow_nil _ _ _ _
theorem OwnId.form (h : OwnId w base v l) : ∃ A c, v = .slice A l.length c ∧ IdAt w A l ∧ ∀ b o, A = some ⟨b, o, none⟩ → base ≤ b := by
  rcases h.2 with ⟨rfl, hn⟩ | ⟨g, cap, cur, rfl, hg, _, hnc, _⟩
  · have : l = [] := List.eq_nil_of_length_eq_zero hn
    subst this
    exact ⟨none, 0, rfl, .inl ⟨rfl, rfl⟩, fun b o e => by cases e⟩
  · refine ⟨_, cap, rfl, .inr ⟨g, rfl, (h.lt g rfl).2, fun j x hx => ?_⟩, fun b o e => by injection e with e; injection e with e1; omega⟩
    have hj : j < l.length := (List.getElem?_eq_some_iff.1 hx).1
    refine (h.cellAt j (by omega)).trans ?_
    unfold idC
    rw [List.getElem?_map, hx]; rfl
theorem OwnId.turn {S : Nat → Prop} (h : OwnId w base v l) (ht : Turn S w w') (hS : ∀ k, v.ownBlock = some k → ¬ S k) : OwnId w' base v l := by
  refine ⟨h.1, ?_⟩
  rcases h.2 with h2 | ⟨g, c, cur, e, hg, hh, rest⟩
  · exact .inl h2
  · exact .inr ⟨g, c, cur, e, hg, (ht.block g (lt_of_block hh) (hS g (by rw [e]; rfl))).trans hh, rest⟩
theorem OwnId.below (h : OwnId w base v l) (hb : Below w.heap.size w w') : OwnId w' base v l := h.turn (S := fun _ => False) (Turn.ofBelow hb) (fun _ _ h => h)
theorem OwnId.lt (h : OwnId w base v l) : ∀ k, v.ownBlock = some k → base ≤ k ∧ k < w.heap.size := World.ownsRow.lt h
end
theorem int_facts : (Try.prog.info? 3).map (fun i => (i.zero, i.size, i.bytes)) = some (some (.int .i64 0), 1, 8) := by kernel_rfl
theorem place_facts : (Try.prog.info? 102).map (fun i => (i.zero, i.size, i.bytes)) = some (some (.int .i64 0), 1, 8) := by kernel_rfl

/-- 'append(ids, x)' onto the call's own -/
theorem wpList_append_id {ops : Array Oper} {rest : List Oper} {o : Oper} {a : Act} {w : World} {Q : Exit → Act → World → Prop} (hgd : o.guard = none) (s x : Operand)
    (ho : o.op = .call { callee := .builtin .append, args := #[s, x], argTypes := #[47, 47] }) (base : Nat) (v : Value) (l : List Nat) (hs : a.eval s = v) (hown : OwnId w base v l)
    (g z : Nat) (hx : a.eval x = .slice (some ⟨g, 0, none⟩) 1 1) (hc : w.cell? ⟨g, 0, none⟩ = some (.int .i64 (z : Int))) (hlen : l.length ≤ 100000) (hbase : base ≤ w.heap.size)
    (h : ∀ v' w', OwnId w' base v' (l ++ [z]) → w.grownBy w' v.ownBlock → (v'.ownBlock = v.ownBlock ∨ v'.ownBlock = some w.heap.size) → wpList Try.prog ops Q rest (a.put o.dst v') w') : wpList Try.prog ops Q (o :: rest) a w := by
  obtain ⟨i0, hi, hz, hs1, hb⟩ := parts_of int_facts
  refine wpList_append_own_at w hgd s x _ ho base 3 i0 (.int .i64 0) 1 8 Try.underlying47 hi hz hs1 hb rfl (by decide) v l.length (idC l) hs hown ⟨g, 0, none⟩ 1 1 [.int .i64 (z : Int)] hx rfl ?_ (by simp [Value.oneCell']) (by unfold maxLen; omega) (by omega) hbase ?_
  · intro j u hu
    match j, hu with
    | 0, hu => injection hu with hu; subst hu; exact hc
    | j + 1, hu => simp at hu
  · intro v' w' hown' hg' _ hat
    refine h v' w' ?_ hg' hat
    unfold OwnId idC
    rw [List.length_append, List.map_append]
    exact hown'

/-- all that stand in one -/
def Tr.kin (T : Tr) (of n : Nat) : List Nat := (List.range n).filter (fun j => decide (T.inn of j))
theorem kin_succ (T : Tr) (of n : Nat) : T.kin of (n + 1) = if T.inn of n then T.kin of n ++ [n] else T.kin of n := by
  unfold Tr.kin
  rw [List.range_succ, List.filter_append]
  by_cases h : T.inn of n
  · rw [if_pos h]; simp [h]
  · rw [if_neg h]; simp [h]
theorem kin_len (T : Tr) (of n : Nat) : (T.kin of n).length ≤ n := by unfold Tr.kin; have := List.length_filter_le (fun j => decide (T.inn of j)) (List.range n); simpa using this

theorem made_pl {W : World} {P N : Nat} (h : W.ownsRow P 102 1 (.slice (some ⟨P, 0, none⟩) N N) N (madeCells (Value.int .i64 0).cells (N * 1)).toList) : Pl W P N (fun _ => 0) := by
  refine ⟨(h.lt P rfl).2, fun j hj => ⟨?_, h.frozenAt j⟩⟩
  rw [h.cellAt j (by omega)]
  simp [madeCells, Value.cells, hj, Nat.mod_one]

set_option maxHeartbeats 4000000 in
theorem innOf_any (A : Option Addr) (T : Tr) (N cap : Nat) (c : Int) (of : Nat) (hof : of < N) (hN : T.l.length = N) (hG : Good T) (w : World) (hT : TxAt w A T.l) :
    Calls Try.prog 37 #[.agg #[.slice A N cap, .int .i64 c], .int .i64 (of : Int)] w fun e w' => ∃ A' k' m, e = .returned (.slice A' m k') ∧ m = (T.kin of N).length ∧ IdAt w' A' (T.kin of N) ∧ Below w.heap.size w w' ∧ ∀ b o, A' = some ⟨b, o, none⟩ → w.heap.size ≤ b := by
  have hn64 : N ≤ 64 := by have := hG.n; omega
  have hb0 := below_new w (.cells #[.slice A N cap, .int .i64 c] 26)
  have ht0 := TB.new w A N cap c
  have k0 := ht0.c0
  have HG := Lib.hid hG
  have HN := Lib.hid hN
  have HT := Lib.hid hT
  have HB0 := Lib.hid hb0
  have HT0 := Lib.hid ht0
  clear hG hN hT hb0 ht0
  obtain ⟨i0, hi, hz0, hz1, hz2⟩ := parts_of place_facts
  go_enter Try.func37, Try.ntmps37
  have hs0 : (w.alloc (.cells #[.slice A N cap, .int .i64 c] 26)).heap.size = w.heap.size + 1 := by simp
  have HS0 := Lib.hid hs0
  clear hs0
  go_upto_region 1 with fail
  generalize w.alloc (.cells #[.slice A N cap, .int .i64 c] 26) = w0 at *
  go_wp2_with (refine wpList_make_full _ rfl _ _ _ rfl w0.heap.size 102 i0 _ 1 Try.underlying101 hi hz0 hz1 _ _ _ _ N rfl rfl rfl rfl (by rw [hz2]; omega) (by unfold maxLen; omega) (Nat.le_refl _) ?_; intro w1 hown1 hg1; have hpl := made_pl hown1; obtain ⟨kc, kf⟩ := hpl.2 of hof; have HPL := Lib.hid hpl; have HG1 := Lib.hid hg1; have HT1 := Lib.hid (HT0.out.far hg1 (by simp)); have k1 := (World.cell?_setCell_far w1 ⟨w0.heap.size, of, none⟩ ⟨w.heap.size, 0, none⟩ (.int .i64 1) (by have := HS0.out; simp only [ne_eq]; omega)).trans HT1.out.c0; clear hown1 hg1 hpl hi hz0 hz1 hz2 k0)
  have HP1 := Lib.hid (HPL.out.set (g := fun j => if j = of then 1 else 0) hof (d := 1) (fun j => rfl))
  have HB1 := Lib.hid ((HB0.out.grown HG1.out HB0.out.size (by simp)).setCell (p := ⟨w0.heap.size, of, none⟩) (by have := HS0.out; simp; omega) (.int .i64 1))
  have HT2 := Lib.hid (show TB (w1.setCell ⟨w0.heap.size, of, none⟩ (.int .i64 1)) w.heap.size A N cap c from (Below.heap_setCell _ _ _ _ (by have := HS0.out; simp; omega)).trans HT1.out)
  have HK0 := Lib.hid (show Pk T of (fun j => if j = of then (1 : Int) else 0) from ⟨fun j hj => by by_cases h : j = of <;> simp [h], fun j hj e => by (by_cases h : j = of; (subst h; exact wayN_self _ _); (simp [h] at e)), fun j hj e => by (by_cases h : j = of <;> simp [h] at e), by simp⟩)
  have HL1 := Lib.hid (show w0.heap.size + 1 ≤ (w1.setCell ⟨w0.heap.size, of, none⟩ (.int .i64 1)).heap.size from HP1.out.1)
  clear kc kf k1 HPL HG1 HT1
  generalize w1.setCell ⟨w0.heap.size, of, none⟩ (.int .i64 1) = w2 at *
  obtain ⟨P, hP⟩ : ∃ P, P = w0.heap.size := ⟨_, rfl⟩
  have HPW := Lib.hid (show P = w.heap.size + 1 from by rw [hP]; exact HS0.out)
  clear HS0
  rw [← hP] at HP1 HL1 ⊢
  clear hP
  go_loopw [6, 18] (fun ids iv wr => ∃ (j : Nat) (f : Nat → Int), iv = .int .i64 (j : Int) ∧ j ≤ N ∧ Hid (OwnId wr (P + 1) ids (T.kin of j)) ∧ Hid (Pl wr P N f) ∧ Hid (Pk T of f) ∧ Hid (Below w.heap.size w wr) ∧ Hid (TB wr w.heap.size A N cap c) ∧ Hid (P + 1 ≤ wr.heap.size)) (fun _ iv _ => N - (intOf iv).toNat)
  case atStart => exact ⟨0, _, rfl, Nat.zero_le _, OwnId.nil _ _, HP1.out, HK0.out, HB1.out, HT2.out, HL1.out⟩
  case round =>
    obtain ⟨j, f, rfl, hj, hown, hpl, hpk, hbl, htb, hsz⟩ := hrel
    clear HP1 HK0 HB1 HT2 HL1
    rcases Nat.lt_or_ge j N with hlt | hge
    · have c0 := htb.out.c0
      have c1 := htb.out.c1
      have hset := settle_any A T N cap N P c j of hlt f HN.out HG.out wr ((HT.out.below hbl.out)) hpl.out hpk.out (fun b o e => by have h1 := HT.out.lt b o e; have h2 := HPW.out; rcases h1 with h | h; (have h3 := HN.out; rw [h] at h3; simp at h3; omega); omega)
      have HSE := Lib.hid hset
      clear hset
      go_wp2_with fail
      refine HSE.out.mono ?_
      rintro e w3 ⟨rfl, ht3, f', hpl3, hpk3, hf3⟩
      have htb3 := htb.out.turn ht3 (by have := HPW.out; omega)
      have hown3 := hown.out.turn ht3 (fun k e h => by have := (hown.out.lt k e).1; omega)
      have hbl3 : Below w.heap.size w w3 := hbl.out.trans (ht3.below (fun k e => by have := HPW.out; omega) hbl.out.size)
      have hsz3 : P + 1 ≤ w3.heap.size := Nat.le_trans hsz.out ht3.size
      obtain ⟨kp, _⟩ := hpl3.2 j hlt
      have HPL3 := Lib.hid hpl3
      have HPK3 := Lib.hid hpk3
      have HTB3 := Lib.hid htb3
      have HOW3 := Lib.hid hown3
      have HBL3 := Lib.hid hbl3
      have HSZ3 := Lib.hid hsz3
      clear HSE ht3 hpl3 hpk3 htb3 hown3 hbl3 hsz3 c0 c1 hown hpl hpk hbl htb hsz
      have hjl : j < T.l.length := by rw [HN.out]; exact hlt
      rcases hf3 with hf3 | hf3
      · have HIN := Lib.hid (HPK3.out.yes j hjl hf3)
        rw [hf3] at kp
        clear hf3 hjl
        go_wp2_with (first | (at_builtin; refine wpList_append_id rfl _ _ rfl (P + 1) _ (T.kin of j) rfl (HOW3.out.below (below_new _ _)) _ j rfl ((cell_new w3 _ _ 0).trans rfl) (by have := kin_len T of j; omega) (Nat.le_trans HSZ3.out (by simp)) ?_; intro v' w5 hown5 hg5 hat5; have HO5 := Lib.hid hown5; have HG5 := Lib.hid hg5; clear hown5 hg5 hat5) | fail)
        go_roundw
        case rel =>
          have t5 : Turn (fun r => P + 1 ≤ r) w3 w5 := ((Turn.refl _ w3).alloc _).grown HG5.out (fun r e => .inl (HOW3.out.lt r e).1)
          exact ⟨j + 1, f', rfl, by omega, by rw [kin_succ, if_pos HIN.out]; exact HO5.out, HPL3.out.turn t5 (fun e => by omega), HPK3.out, HBL3.out.trans (t5.below (fun k e => by have := HPW.out; omega) HBL3.out.size), HTB3.out.turn t5 (fun e => by have := HPW.out; omega), Nat.le_trans HSZ3.out t5.size⟩
        case measure => simp [intOf]; omega
      · have HIN := Lib.hid (HPK3.out.no j hjl hf3)
        rw [hf3] at kp
        clear hf3 hjl
        go_wp2
        go_roundw
        case rel => exact ⟨j + 1, f', rfl, by omega, by rw [kin_succ, if_neg HIN.out]; exact HOW3.out, HPL3.out, HPK3.out, HBL3.out, HTB3.out, HSZ3.out⟩
        case measure => simp [intOf]; omega
    · obtain rfl : j = N := by omega
      go_wp2
      go_ret
      obtain ⟨A', k', rfl, hid, hlo⟩ := hown.out.form
      exact ⟨A', k', _, rfl, rfl, hid, hbl.out, fun b o e => by have := hlo b o e; have := HPW.out; omega⟩

end Go.Proofs.Ytmhnjmfcenbogaa
