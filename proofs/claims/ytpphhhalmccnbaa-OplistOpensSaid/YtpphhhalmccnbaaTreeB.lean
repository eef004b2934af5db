/-
  The library's functions that the program calls, laid at this program.
-/
import Derived.Shelf.SlicesE.Clone
import Derived.Shelf.SlicesG.Cmp
import Derived.Test.YtpphhhalmccnbaaProg
import Derived.Test.YtpphhhalmccnbaaBa
import Derived.Deep.RegionHeld
import Derived.Test.YtpphhhalmccnbaaTreeA
import Derived.Maps.AppendAt
import Derived.Laws.ResultCell
import Derived.Laws.Tables
import Derived.Deep.CutBlock
import Derived.Deep.CutRange
import Derived.RegionTactic
namespace Go.Proofs
open Go.Shelf
def Try.cloneL_ren : Go.Shelf.Ren := ⟨fun | 41 => 62 | n => n, fun | 22 => 53 | 23 => 97 | 4 => 4 | n => n, fun | n => n⟩
theorem Try.cloneL : Go.Proofs.SlLaysE0.n41 Try.prog Try.cloneL_ren := {
  mixed := by kernel_rfl
  f41 := ⟨Try.f62.name, by decide, Try.func62.trans (congrArg some (by kernel_rfl))⟩
  t4 := Try.underlying4
  a4 := Try.isAgg4
  z4 := Try.sizeOf4
  v4 := Try.zeroValue4
  t22 := Try.underlying53
  a22 := Try.isAgg53
  z22 := Try.sizeOf53
  v22 := Try.zeroValue53 }
end Go.Proofs

namespace Go.Proofs.Ytpphhhalmccnbaa
set_option maxRecDepth 100000
open Go.RowKit



end Go.Proofs.Ytpphhhalmccnbaa

namespace Go.Proofs.Ytpphhhalmccnbaa
set_option maxRecDepth 100000
set_option linter.unusedVariables false
open Go.RowKit Go.Shelf

/-- a row's cells -/
def txC : List Tx → List Value
  | [] => []
  | x :: l => .int .i64 x.p :: .int .i64 x.s :: .int .i64 x.b :: .int .i64 x.e :: txC l
theorem length_txC : ∀ l : List Tx, (txC l).length = l.length * 4
  | [] => rfl
  | x :: l => by simp [txC, length_txC l]; omega
theorem txC_append : ∀ a b : List Tx, txC (a ++ b) = txC a ++ txC b
  | [], _ => rfl
  | x :: a, b => by simp [txC, txC_append a b]
theorem txC_get : ∀ (l : List Tx) (i : Nat) (x : Tx), l[i]? = some x → (txC l)[i * 4]? = some (.int .i64 x.p) ∧ (txC l)[i * 4 + 1]? = some (.int .i64 x.s) ∧ (txC l)[i * 4 + 2]? = some (.int .i64 x.b) ∧ (txC l)[i * 4 + 3]? = some (.int .i64 x.e)
  | [], i, x, h => by simp at h
  | y :: l, 0, x, h => by simp at h; subst h; exact ⟨rfl, rfl, rfl, rfl⟩
  | y :: l, i + 1, x, h => by
    have := txC_get l i x (by simpa using h)
    rw [show (i + 1) * 4 = i * 4 + 1 + 1 + 1 + 1 from by omega]
    exact this
theorem txC_inv : ∀ (l : List Tx) (j : Nat) (u : Value), (txC l)[j]? = some u → ∃ i x, l[i]? = some x ∧ ((j = i * 4 ∧ u = .int .i64 x.p) ∨ (j = i * 4 + 1 ∧ u = .int .i64 x.s) ∨ (j = i * 4 + 2 ∧ u = .int .i64 x.b) ∨ (j = i * 4 + 3 ∧ u = .int .i64 x.e))
  | [], j, u, h => by simp [txC] at h
  | x :: l, 0, u, h => by simp [txC] at h; exact ⟨0, x, rfl, .inl ⟨rfl, h.symm⟩⟩
  | x :: l, 1, u, h => by simp [txC] at h; exact ⟨0, x, rfl, .inr (.inl ⟨rfl, h.symm⟩)⟩
  | x :: l, 2, u, h => by simp [txC] at h; exact ⟨0, x, rfl, .inr (.inr (.inl ⟨rfl, h.symm⟩))⟩
  | x :: l, 3, u, h => by simp [txC] at h; exact ⟨0, x, rfl, .inr (.inr (.inr ⟨rfl, h.symm⟩))⟩
  | x :: l, j + 4, u, h => by
    have h : (txC l)[j]? = some u := by simpa [txC] using h
    obtain ⟨i, y, h1, h2⟩ := txC_inv l j u h
    refine ⟨i + 1, y, by simpa using h1, ?_⟩
    rcases h2 with ⟨h2, h3⟩ | ⟨h2, h3⟩ | ⟨h2, h3⟩ | ⟨h2, h3⟩
    · exact .inl ⟨by omega, h3⟩
    · exact .inr (.inl ⟨by omega, h3⟩)
    · exact .inr (.inr (.inl ⟨by omega, h3⟩))
    · exact .inr (.inr (.inr ⟨by omega, h3⟩))
theorem txC_one (l : List Tx) : ∀ u ∈ txC l, u.oneCell' = true := by
  intro u hu
  obtain ⟨j, hj, rfl⟩ := List.getElem_of_mem hu
  obtain ⟨i, x, _, h⟩ := txC_inv l j _ (List.getElem?_eq_getElem hj)
  rcases h with ⟨_, h⟩ | ⟨_, h⟩ | ⟨_, h⟩ | ⟨_, h⟩ <;> rw [h] <;> rfl

theorem tx_facts : (Try.prog.info? 97).map (fun i => (i.zero, i.size, i.bytes)) = some (some (.agg #[.int .i64 0, .int .i64 0, .int .i64 0, .int .i64 0]), 4, 32) := by kernel_rfl

/-- a row of the call's own -/
def OwnTx (w : World) (base : Nat) (v : Value) (l : List Tx) : Prop := w.ownsRow base 97 4 v l.length (txC l)
theorem OwnTx.form {w : World} {base : Nat} {v : Value} {l : List Tx} (h : OwnTx w base v l) : ∃ A c, v = .slice A l.length c ∧ TxAt w A l ∧ ∀ b o, A = some ⟨b, o, none⟩ → base ≤ b := by
  rcases h.2 with ⟨rfl, hn⟩ | ⟨g, cap, cur, rfl, hg, _, hnc, _⟩
  · have : l = [] := List.eq_nil_of_length_eq_zero hn
    subst this
    exact ⟨none, 0, rfl, .inl ⟨rfl, rfl⟩, fun b o e => by cases e⟩
  · refine ⟨_, cap, rfl, .inr ⟨g, rfl, (h.lt g rfl).2, fun i x hx => ?_⟩, fun b o e => by injection e with e; injection e with e1; omega⟩
    have hi : i < l.length := (List.getElem?_eq_some_iff.1 hx).1
    have ht := txC_get l i x hx
    exact ⟨(h.cellAt (i * 4) (by omega)).trans ht.1, (h.cellAt (i * 4 + 1) (by omega)).trans ht.2.1, (h.cellAt (i * 4 + 2) (by omega)).trans ht.2.2.1, (h.cellAt (i * 4 + 3) (by omega)).trans ht.2.2.2⟩

theorem OwnTx.cap {w : World} {base n c : Nat} {A : Option Addr} {l : List Tx} (h : OwnTx w base (.slice A n c) l) : n ≤ c := by
  rcases h.2 with ⟨e, _⟩ | ⟨g, cap, cur, e, hg, _, hnc, _⟩
  · injection e with _ e1 e2; omega
  · injection e with _ e1 e2; omega
theorem OwnTx.turn {S : Nat → Prop} {w w' : World} {base : Nat} {v : Value} {l : List Tx} (h : OwnTx w base v l) (ht : Turn S w w') (hS : ∀ k, v.ownBlock = some k → ¬ S k) : OwnTx w' base v l := by
  refine ⟨h.1, ?_⟩
  rcases h.2 with h2 | ⟨g, c, cur, e, hg, hh, rest⟩
  · exact .inl h2
  · exact .inr ⟨g, c, cur, e, hg, (ht.block g (lt_of_block hh) (hS g (by rw [e]; rfl))).trans hh, rest⟩
theorem OwnTx.below {w w' : World} {base : Nat} {v : Value} {l : List Tx} (h : OwnTx w base v l) (hb : Below w.heap.size w w') : OwnTx w' base v l := h.turn (S := fun _ => False) (Turn.ofBelow hb) (fun _ _ h => h)
theorem OwnTx.lt {w : World} {base : Nat} {v : Value} {l : List Tx} (h : OwnTx w base v l) : ∀ k, v.ownBlock = some k → base ≤ k ∧ k < w.heap.size := World.ownsRow.lt h
theorem OwnTx.le {w : World} {base b : Nat} {v : Value} {l : List Tx} (h : OwnTx w base v l) (hb : b ≤ base) : OwnTx w b v l := by
  refine ⟨h.1, ?_⟩
  rcases h.2 with h2 | ⟨g, c, cur, e, hg, rest⟩
  · exact .inl h2
  · exact .inr ⟨g, c, cur, e, Nat.le_trans hb hg, rest⟩

theorem clone_any (A : Option Addr) (l : List Tx) (n cap : Nat) (w : World) (hl : l.length = n) (hn : n ≤ 64) (hT : TxAt w A l) :
    Calls Try.prog 62 #[.slice A n cap] w fun e w' => ∃ A' k', e = .returned (.slice A' n k') ∧ OwnTx w' w.heap.size (.slice A' n k') l ∧ Below w.heap.size w w' := by
  subst hl
  rcases hT with ⟨rfl, rfl⟩ | ⟨b, rfl, hb, hc⟩
  · refine (AnyE.slices_Clone_nil (P := Try.prog) (ρ := Try.cloneL_ren) Try.cloneL 0 cap w).mono ?_
    rintro e w' ⟨rfl, rfl⟩
    exact ⟨none, 0, rfl, World.ownsRow_nil _ _ _ _, Below.refl _ _⟩
  · have hi := tx_facts
    cases hq : Try.prog.info? 97 with
    | none => rw [hq] at hi; cases hi
    | some i0 =>
      rw [hq] at hi
      simp only [Option.map_some, Option.some.injEq, Prod.mk.injEq] at hi
      refine (AnyE.slices_Clone (P := Try.prog) (ρ := Try.cloneL_ren) Try.cloneL i0 _ 4 32 hq hi.1 hi.2.1 hi.2.2 rfl (by decide) Try.sizeOf97 b 0 l.length cap (txC l) w (length_txC l) (by unfold maxLen; omega) (by omega) ?_ (txC_one l)).mono ?_
      · intro j u hu
        obtain ⟨i, x, hx, h⟩ := txC_inv l j u hu
        obtain ⟨h0, h1, h2, h3⟩ := hc i x hx
        rw [Nat.zero_add]
        rcases h with ⟨rfl, rfl⟩ | ⟨rfl, rfl⟩ | ⟨rfl, rfl⟩ | ⟨rfl, rfl⟩
        · exact h0
        · exact h1
        · exact h2
        · exact h3
      · rintro e w' ⟨v, rfl, ho, _, hb⟩
        obtain ⟨A', k', rfl, _, _⟩ := OwnTx.form (l := l) ho
        exact ⟨A', k', rfl, ho, hb⟩

/-- is that one Live? -/
def Tr.liveE (T : Tr) (i : Int) : Int := if 0 ≤ i ∧ i < (T.l.length : Int) then (if (T.tx i.toNat).s = 1 then 0 else 7) else 6

set_option maxHeartbeats 1000000 in
theorem live_any (A : Option Addr) (T : Tr) (N cap : Nat) (c i : Int) (hN : T.l.length = N) (hn64 : N ≤ 64) (w : World) (hT : TxAt w A T.l) :
    Calls Try.prog 50 #[.agg #[.slice A N cap, .int .i64 c], .int .i64 i] w fun e w' => e = .returned (.int .i64 (T.liveE i)) ∧ Below w.heap.size w w' := by
  have hb1 := below_new w (.cells #[.slice A N cap, .int .i64 c] 55)
  have hb2 := below_two hb1 (below_new _ (.cells #[.slice A N cap, .int .i64 c] 55))
  have HB2 := Lib.hid hb2
  have hk := known_any A N cap c i (w.alloc (.cells #[.slice A N cap, .int .i64 c] 55))
  by_cases hin : 0 ≤ i ∧ i < (N : Int)
  · rw [decide_eq_true hin] at hk
    obtain ⟨x, rfl⟩ : ∃ x : Nat, i = x := ⟨i.toNat, by omega⟩
    have hx : x < N := by omega
    obtain ⟨b, hAe, hb, _, p1, _, _⟩ := hT.get (i := x) (by rw [hN]; exact hx)
    subst hAe
    have p2 := cell_al (.cells #[.slice (some ⟨b, 0, none⟩) N cap, .int .i64 c] 55) (cell_al (.cells #[.slice (some ⟨b, 0, none⟩) N cap, .int .i64 c] 55) p1)
    have hE : T.liveE (x : Int) = if (T.tx x).s = 1 then 0 else 7 := by unfold Tr.liveE; rw [if_pos (by rw [hN]; exact hin)]; simp
    obtain ⟨q, hq⟩ : ∃ q, q = (T.tx x).s := ⟨_, rfl⟩
    rw [← hq] at p2 hE
    have HE := Lib.hid hE
    have HK := Lib.hid hk
    clear hk hE hq p1 hN hT hb1 hb2
    by_cases h1 : q = 1
    · have hb1 : (q == 1) = true := by simpa using h1
      have H1 := Lib.hid h1
      clear h1
      go_enter Try.func50, Try.ntmps50
      go_wp2_with fail
      refine HK.out.mono ?_
      rintro e w1 ⟨rfl, rfl⟩
      go_wp2
      go_ret
      exact ⟨by rw [HE.out, if_pos H1.out]; rfl, HB2.out⟩
    · have hb1 : (q == 1) = false := by simpa using h1
      have H1 := Lib.hid h1
      clear h1
      go_enter Try.func50, Try.ntmps50
      go_wp2_with fail
      refine HK.out.mono ?_
      rintro e w1 ⟨rfl, rfl⟩
      go_wp2
      go_ret
      exact ⟨by rw [HE.out, if_neg H1.out]; rfl, HB2.out⟩
  · rw [decide_eq_false hin] at hk
    have HE := Lib.hid (show T.liveE i = 6 from by unfold Tr.liveE; rw [if_neg (by rw [hN]; exact hin)])
    have HK := Lib.hid hk
    clear hk hN hT hb1 hb2
    go_enter Try.func50, Try.ntmps50
    go_wp2_with fail
    refine HK.out.mono ?_
    rintro e w1 ⟨rfl, rfl⟩
    go_wp2
    go_ret
    exact ⟨by rw [HE.out]; rfl, HB2.out⟩

/-- a tree lies in block g -/
def TB (W : World) (g : Nat) (A : Option Addr) (n k : Nat) (c : Int) : Prop := W.heap[g]? = some (.cells #[.slice A n k, .int .i64 c] 55 (0, 0))
section
variable {W V : World} {g : Nat} {A A' : Option Addr} {n k n' k' : Nat} {c c' : Int}
theorem TB.c0 (h : TB W g A n k c) : W.cell? ⟨g, 0, none⟩ = some (.slice A n k) := (cell_of_row _ _ _ _ _ _ h).trans rfl
theorem TB.c1 (h : TB W g A n k c) : W.cell? ⟨g, 1, none⟩ = some (.int .i64 c) := (cell_of_row _ _ _ _ _ _ h).trans rfl
theorem TB.fr (h : TB W g A n k c) (j : Nat) : W.frozen? ⟨g, j, none⟩ = false := by
  have h' : W.heap[g]? = _ := h
  unfold World.frozen?
  simp only [h']
  simp
theorem TB.lt (h : TB W g A n k c) : g < W.heap.size := lt_of_block h
theorem TB.below (h : TB W g A n k c) (hb : Below W.heap.size W V) : TB V g A n k c := (hb.block g h.lt).trans h
theorem TB.turn {S : Nat → Prop} (h : TB W g A n k c) (ht : Turn S W V) (hS : ¬ S g) : TB V g A n k c := (ht.block g h.lt hS).trans h
theorem TB.far {r : Option Nat} (h : TB W g A n k c) (hg : W.grownBy V r) (hne : some g ≠ r) : TB V g A n k c := (hg.block g h.lt hne).trans h
theorem TB.new (W : World) (A : Option Addr) (n k : Nat) (c : Int) : TB (W.alloc (.cells #[.slice A n k, .int .i64 c] 55)) W.heap.size A n k c := heap_alloc_new W _
theorem TB.set (h : TB W g A n k c) (A' : Option Addr) (n' k' : Nat) : TB (W.setCell ⟨g, 0, none⟩ (.slice A' n' k')) g A' n' k' c := heap_setCell_same W g 0 _ _ _ h
theorem tree_info : (Try.prog.info? 55).map (·.size) = some (#[Value.slice none 0 0, Value.int .i64 0] : Array Value).size := by kernel_rfl
theorem tree_under : ∃ fs, Try.prog.underlying 55 = some (.struct fs) := ⟨_, Try.underlying55⟩
theorem grown_setRow (h : TB W g A n k c) (cs : Array Value) : W.grownBy (W.setRow g cs) (some g) := ⟨rfl, rfl, rfl, by rw [setRow_size]; exact Nat.le_refl _, fun j _ hj => setRow_other W g j _ (fun e => hj (by rw [e]))⟩
theorem wp_store_tree {o : Oper} {a : Act} {K : Act → World → Prop} {Q : Exit → Act → World → Prop} (x y : Operand) (ho : o.op = .store 55 x y) (hx : a.eval x = .pointer (some ⟨g, 0, none⟩)) (hy : a.eval y = .agg #[.slice A' n' k', .int .i64 c'])
    (hb : TB W g A n k c) (h : ∀ w', TB w' g A' n' k' c' → W.grownBy w' (some g) → K (a.put o.dst undef) w') : o.wp Try.prog a W K Q :=
  wp_store_row 55 x y ho g _ hx hy 55 _ hb tree_info rfl (by simp [Value.oneCell']) (h _ (setRow_heap _ _ _ _ _ _ hb) (grown_setRow hb _))
theorem wpList_store_tree {ops : Array Oper} {rest : List Oper} {o : Oper} {a : Act} {Q : Exit → Act → World → Prop} (hgd : o.guard = none) (x y : Operand) (ho : o.op = .store 55 x y) (hx : a.eval x = .pointer (some ⟨g, 0, none⟩)) (hy : a.eval y = .agg #[.slice A' n' k', .int .i64 c'])
    (hb : TB W g A n k c) (h : ∀ w', TB w' g A' n' k' c' → W.grownBy w' (some g) → wpList Try.prog ops Q rest (a.put o.dst undef) w') : wpList Try.prog ops Q (o :: rest) a W :=
  wpList_store_row hgd 55 x y ho g _ hx hy 55 _ hb tree_info rfl (by simp [Value.oneCell']) (h _ (setRow_heap _ _ _ _ _ _ hb) (grown_setRow hb _))
theorem run_load_tree (h : TB W g A n k c) : (loadVar 55 ⟨g, 0, none⟩).run Try.prog W = .ok (.agg #[.slice A n k, .int .i64 c]) W := by
  obtain ⟨fs, hu⟩ := tree_under
  exact run_loadVar_row W g _ _ _ (0, 0) _ h hu rfl tree_info
theorem results_tree {fn : Func} {p : Tmp} (hf : fn.results = #[.cell p 55]) (tmps : Array Value) (hp : tmps.getD p undef = .pointer (some ⟨g, 0, none⟩)) (h : TB W g A n k c) : (results fn tmps).run Try.prog W = .ok (.agg #[.slice A n k, .int .i64 c]) W := by
  obtain ⟨fs, hu⟩ := tree_under
  exact results_cell_row hf tmps W g _ _ (0, 0) _ hp h hu rfl tree_info
theorem results_tree2 {fn : Func} {p u : Tmp} (hf : fn.results = #[.cell p 55, .tmp u]) (tmps : Array Value) (hp : tmps.getD p undef = .pointer (some ⟨g, 0, none⟩)) (v : Value) (hv : tmps.getD u undef = v) (h : TB W g A n k c) :
    (results fn tmps).run Try.prog W = .ok (.tuple #[.agg #[.slice A n k, .int .i64 c], v]) W := by
  have hp' : tmps[p]?.getD undef = .pointer (some ⟨g, 0, none⟩) := by simpa using hp
  have hv' : tmps[u]?.getD undef = v := by simpa using hv
  simp [results, hf, hp', hv', asAddr, run_load_tree h]
theorem results_tree3 {fn : Func} {p u r : Tmp} (hf : fn.results = #[.cell p 55, .tmp u, .tmp r]) (tmps : Array Value) (hp : tmps.getD p undef = .pointer (some ⟨g, 0, none⟩)) (v z : Value) (hv : tmps.getD u undef = v) (hz : tmps.getD r undef = z) (h : TB W g A n k c) :
    (results fn tmps).run Try.prog W = .ok (.tuple #[.agg #[.slice A n k, .int .i64 c], v, z]) W := by
  have hp' : tmps[p]?.getD undef = .pointer (some ⟨g, 0, none⟩) := by simpa using hp
  have hv' : tmps[u]?.getD undef = v := by simpa using hv
  have hz' : tmps[r]?.getD undef = z := by simpa using hz
  simp [results, hf, hp', hv', hz', asAddr, run_load_tree h]
end

set_option maxHeartbeats 2000000 in
/-- the tree a step on, in new memory -/
theorem next_any (A : Option Addr) (T : Tr) (N cap : Nat) (c : Int) (hN : T.l.length = N) (hn64 : N ≤ 64) (hc : 0 ≤ c ∧ c ≤ 1000) (w : World) (hT : TxAt w A T.l) :
    Calls Try.prog 52 #[.agg #[.slice A N cap, .int .i64 c]] w fun e w' => ∃ A' k', e = .returned (.agg #[.slice A' N k', .int .i64 (c + 1)]) ∧ OwnTx w' w.heap.size (.slice A' N k') T.l ∧ Below w.heap.size w w' := by
  obtain ⟨wx, hw0⟩ : ∃ wx, wx = w.alloc (.cells #[.slice A N cap, .int .i64 c] 55) := ⟨_, rfl⟩
  obtain ⟨w1, hw1⟩ : ∃ wy, wy = wx.alloc (.cells #[.slice none 0 0, .int .i64 0] 55) := ⟨_, rfl⟩
  have b1 : TB w1 w.heap.size A N cap c := by rw [hw1, hw0]; exact (TB.new w _ _ _ _).below (below_new _ _)
  have b2 : TB w1 (w.heap.size + 1) none 0 0 0 := by
    have h := TB.new wx none 0 0 0
    rw [show wx.heap.size = w.heap.size + 1 from by rw [hw0]; simp] at h
    rw [hw1]; exact h
  have hb : Below w.heap.size w w1 := by rw [hw1, hw0]; exact below_two (below_new w _) (below_new _ _)
  have HB1 := Lib.hid hb
  have hX : ∀ b o, A = some ⟨b, o, none⟩ → T.l = [] ∨ ¬ b = w.heap.size + 1 := fun b o e => (hT.lt b o e).imp id (fun h => by omega)
  have k0 := fun (V : World) (h : Turn (fun k => k = w.heap.size + 1) w1 V) => (b1.turn h (by omega)).c0
  have k1 := fun (V : World) (h : Turn (fun k => k = w.heap.size + 1) w1 V) => (b1.turn h (by omega)).c1
  have HK0 := Lib.hid k0
  have HK1 := Lib.hid k1
  have H2 := Lib.hid b2
  have HT1 := Lib.hid (hT.below hb)
  have wr : IntKind.i64.wrap (c + 1) = c + 1 := by simp [IntKind.wrap, IntKind.bits, IntKind.signed]; omega
  have HCL := Lib.hid (fun W (hW : Turn (fun k => k = w.heap.size + 1) w1 W) => clone_any A T.l N cap W hN hn64 (HT1.out.turn hW hX))
  have HX := Lib.hid hX
  clear b1 b2 hb hT hN k0 k1 hX
  go_enter Try.func52, Try.ntmps52
  go_upto_region 1 with fail
  rw [← hw0, ← hw1]
  clear hw0 hw1 wx
  have k0 := HK0.out
  have k1 := HK1.out
  refine wp_region_turn (X := (fun k => k = w.heap.size + 1)) (by kernel_rfl) ?_
  have hS : Turn (fun k => k = w.heap.size + 1) w1 (World.drew w1) := (Turn.refl _ _).drew
  refine wpAnyH_take (i := 0) (oi := ⟨some 3, _, _, _, _, _⟩) (v := ?_) rfl (by kernel_rfl) (by kernel_rfl) (by kernel_rfl) (fun _ _ _ h => h) (Or.inl ⟨by rfl, ?_⟩) hS ?_
  rotate_left
  · intro W hW; go_simp; with_reducible rfl
  try simp only [Act.put, List.setIfInBounds_toArray, List.set_cons_zero, List.set_cons_succ]
  refine wpAnyH_take (i := 1) (oi := ⟨some 4, _, _, _, _, _⟩) (v := ?_) rfl (by kernel_rfl) (by kernel_rfl) (by kernel_rfl) (fun _ _ _ h => h) (Or.inl ⟨by rfl, ?_⟩) hS ?_
  rotate_left
  · intro W hW; go_simp; with_reducible rfl
  try simp only [Act.put, List.setIfInBounds_toArray, List.set_cons_zero, List.set_cons_succ]
  refine wpAnyH_take (i := 3) (oi := ⟨some 6, _, _, _, _, _⟩) (v := ?_) rfl (by kernel_rfl) (by kernel_rfl) (by kernel_rfl) (fun _ _ _ h => h) (Or.inl ⟨by rfl, ?_⟩) hS ?_
  rotate_left
  · intro W hW; go_simp; with_reducible rfl
  try simp only [Act.put, List.setIfInBounds_toArray, List.set_cons_zero, List.set_cons_succ]
  refine wpAnyH_take (i := 4) (oi := ⟨some 7, _, _, _, _, _⟩) (v := ?_) rfl (by kernel_rfl) (by kernel_rfl) (by kernel_rfl) (fun _ _ _ h => h) (Or.inl ⟨by rfl, ?_⟩) hS ?_
  rotate_left
  · intro W hW; go_simp; with_reducible rfl
  try simp only [Act.put, List.setIfInBounds_toArray, List.set_cons_zero, List.set_cons_succ]
  refine wpAnyH_take (i := 5) (oi := ⟨some 8, _, _, _, _, _⟩) (v := ?_) rfl (by kernel_rfl) (by kernel_rfl) (by kernel_rfl) (fun _ _ _ h => h) (Or.inl ⟨by rfl, ?_⟩) hS ?_
  rotate_left
  · intro W hW; go_simp; with_reducible rfl
  try simp only [Act.put, List.setIfInBounds_toArray, List.set_cons_zero, List.set_cons_succ]
  refine wpAnyH_ready (rs := [2]) (by kernel_rfl) (by simp) ?_
  refine AllReadyH.cons (o := ⟨some 5, _, _, _, _, _⟩) rfl (fun Kr hKr => ?_) AllReadyH.nil
  -- operation 2: a call
  go_simp
  refine (HCL.out _ hS).mono ?_
  rintro e V0 ⟨A', k', rfl, ho, hx⟩
  have HO := Lib.hid ho
  have HB0 := Lib.hid (below_two ((Below.refl w1.heap.size w1).drew) hx)
  have HV := Lib.hid hx.size
  show Kr _ _
  refine hKr.out _ _ ?_ (fun _ => ?_)
  · exact hS.trans (.ofBelow hx)
  clear hKr Kr
  replace hS : Turn (fun k => k = w.heap.size + 1) w1 V0 := hS.trans (.ofBelow hx)
  try simp only [Act.put, List.setIfInBounds_toArray, List.set_cons_zero, List.set_cons_succ]
  refine wpAnyH_take (i := 6) (oi := ⟨some 9, _, _, _, _, _⟩) (v := ?_) rfl (by kernel_rfl) (by kernel_rfl) (by kernel_rfl) (fun _ _ _ h => h) (Or.inl ⟨by rfl, ?_⟩) hS ?_
  rotate_left
  · intro W hW; go_simp; with_reducible rfl
  try simp only [Act.put, List.setIfInBounds_toArray, List.set_cons_zero, List.set_cons_succ]
  refine wpAnyH_ready (rs := [7]) (by kernel_rfl) (by simp) ?_
  refine AllReadyH.cons (o := ⟨none, _, _, _, _, _⟩) rfl (fun Kr hKr => ?_) AllReadyH.nil
  -- operation 7: a step
  rw [if_pos (by kernel_rfl)]
  refine wp_store_tree (.tmp 2) (.tmp 9) rfl rfl rfl (H2.out.below HB0.out) ?_
  intro V1 hb1 hg1
  show Kr _ _
  refine hKr.out _ _ ?_ (fun _ => ?_)
  · exact hS.grown hg1 (fun j e => by injection e with e; exact .inl e.symm)
  clear hKr Kr
  replace hS : Turn (fun k => k = w.heap.size + 1) w1 V1 := hS.grown hg1 (fun j e => by injection e with e; exact .inl e.symm)
  try simp only [Act.put]
  refine wpAnyH_done (by kernel_rfl) ?_ _
  have HTB := Lib.hid hb1
  have HG1 := Lib.hid hg1
  clear hb1 hg1 hS
  go_wp2_with fail
  refine bodyPost_ret (results_tree rfl _ rfl HTB.out) rfl ?_
  have hs1 : w.heap.size + 1 < w1.heap.size := H2.out.lt
  have hdr : w1.drew.heap.size = w1.heap.size := rfl
  have hO1 := HO.out.turn (S := fun k => k = w.heap.size + 1) ((Turn.refl _ V0).grown HG1.out (fun j e => by injection e with e; exact .inl e.symm)) (fun k e h => by have h1 := (HO.out.lt k e).1; rw [hdr] at h1; omega)
  refine ⟨A', k', rfl, hO1.le (by rw [hdr]; omega), ?_⟩
  exact (below_two HB1.out HB0.out).grown HG1.out (Nat.le_trans HB1.out.size HB0.out.size) (fun j e => by injection e with e; omega)

end Go.Proofs.Ytpphhhalmccnbaa

namespace Go.Proofs.Ytpphhhalmccnbaa
set_option maxRecDepth 100000
set_option linter.unusedVariables false
open Go.RowKit Go.Shelf

def idC (l : List Nat) : List Value := l.map fun x : Nat => .int .i64 (x : Int)
/-- IDs in a row -/
def IdAt (W : World) (A : Option Addr) (l : List Nat) : Prop :=
  (A = none ∧ l = []) ∨ ∃ b, A = some ⟨b, 0, none⟩ ∧ b < W.heap.size ∧ ∀ (j x : Nat), l[j]? = some x → W.cell? ⟨b, j, none⟩ = some (.int .i64 (x : Int))
/-- a row of the call's own -/
def OwnId (w : World) (base : Nat) (v : Value) (l : List Nat) : Prop := w.ownsRow base 3 1 v l.length (idC l)
theorem IdAt.below {W V : World} {A : Option Addr} {l : List Nat} (h : IdAt W A l) (hb : Below W.heap.size W V) : IdAt V A l := by
  rcases h with h | ⟨b, e, hl, hc⟩
  · exact .inl h
  · exact .inr ⟨b, e, Nat.lt_of_lt_of_le hl hb.size, fun j x hx => (hb.cell (p := ⟨b, j, none⟩) hl).trans (hc j x hx)⟩
theorem IdAt.turn {S : Nat → Prop} {W V : World} {A : Option Addr} {l : List Nat} (h : IdAt W A l) (ht : Turn S W V) (hS : ∀ b o, A = some ⟨b, o, none⟩ → ¬ S b) : IdAt V A l := by
  rcases h with h | ⟨b, e, hl, hc⟩
  · exact .inl h
  · exact .inr ⟨b, e, Nat.lt_of_lt_of_le hl ht.size, fun j x hx => ht.cell (hc j x hx) (hS b 0 e)⟩
theorem IdAt.get {W : World} {A : Option Addr} {l : List Nat} (h : IdAt W A l) {j : Nat} (hj : j < l.length) : ∃ b, A = some ⟨b, 0, none⟩ ∧ b < W.heap.size ∧ W.cell? ⟨b, j, none⟩ = some (.int .i64 ((l[j]) : Int)) := by
  rcases h with h | ⟨b, e, hl, hc⟩
  · rw [h.2] at hj; simp at hj
  · exact ⟨b, e, hl, hc j _ (List.getElem?_eq_getElem hj)⟩
theorem IdAt.get2 {W : World} {A : Option Addr} {l : List Nat} (h : IdAt W A l) {j x : Nat} (hx : l[j]? = some x) : ∃ b, A = some ⟨b, 0, none⟩ ∧ b < W.heap.size ∧ W.cell? ⟨b, j, none⟩ = some (.int .i64 (x : Int)) := by
  rcases h with h | ⟨b, e, hl, hc⟩
  · rw [h.2] at hx; simp at hx
  · exact ⟨b, e, hl, hc j x hx⟩
section
variable {w w' : World} {base : Nat} {v : Value} {l : List Nat}
theorem OwnId.nil (w : World) (base : Nat) : OwnId w base (.slice none 0 0) [] := World.ownsRow_nil _ _ _ _
theorem OwnId.form (h : OwnId w base v l) : ∃ A c, v = .slice A l.length c ∧ IdAt w A l ∧ ∀ b o, A = some ⟨b, o, none⟩ → base ≤ b := by
  rcases h.2 with ⟨rfl, hn⟩ | ⟨g, cap, cur, rfl, hg, _, hnc, _⟩
  · have : l = [] := List.eq_nil_of_length_eq_zero hn
    subst this
    exact ⟨none, 0, rfl, .inl ⟨rfl, rfl⟩, fun b o e => by cases e⟩
  · refine ⟨_, cap, rfl, .inr ⟨g, rfl, (h.lt g rfl).2, fun j x hx => ?_⟩, fun b o e => by injection e with e; injection e with e1; omega⟩
    have hj : j < l.length := (List.getElem?_eq_some_iff.1 hx).1
    refine (h.cellAt j (by omega)).trans ?_
    unfold idC
    rw [List.getElem?_map, hx]; rfl
theorem OwnId.turn {S : Nat → Prop} (h : OwnId w base v l) (ht : Turn S w w') (hS : ∀ k, v.ownBlock = some k → ¬ S k) : OwnId w' base v l := by
  refine ⟨h.1, ?_⟩
  rcases h.2 with h2 | ⟨g, c, cur, e, hg, hh, rest⟩
  · exact .inl h2
  · exact .inr ⟨g, c, cur, e, hg, (ht.block g (lt_of_block hh) (hS g (by rw [e]; rfl))).trans hh, rest⟩
theorem OwnId.below (h : OwnId w base v l) (hb : Below w.heap.size w w') : OwnId w' base v l := h.turn (S := fun _ => False) (Turn.ofBelow hb) (fun _ _ h => h)
theorem OwnId.lt (h : OwnId w base v l) : ∀ k, v.ownBlock = some k → base ≤ k ∧ k < w.heap.size := World.ownsRow.lt h
end
theorem int_facts : (Try.prog.info? 3).map (fun i => (i.zero, i.size, i.bytes)) = some (some (.int .i64 0), 1, 8) := by kernel_rfl
/-- 'append(ids, x)' onto the call's own -/
theorem wpList_append_id {ops : Array Oper} {rest : List Oper} {o : Oper} {a : Act} {w : World} {Q : Exit → Act → World → Prop} (hgd : o.guard = none) (s x : Operand)
    (ho : o.op = .call { callee := .builtin .append, args := #[s, x], argTypes := #[28, 28] }) (base : Nat) (v : Value) (l : List Nat) (hs : a.eval s = v) (hown : OwnId w base v l)
    (g z : Nat) (hx : a.eval x = .slice (some ⟨g, 0, none⟩) 1 1) (hc : w.cell? ⟨g, 0, none⟩ = some (.int .i64 (z : Int))) (hlen : l.length ≤ 100000) (hbase : base ≤ w.heap.size)
    (h : ∀ v' w', OwnId w' base v' (l ++ [z]) → w.grownBy w' v.ownBlock → (v'.ownBlock = v.ownBlock ∨ v'.ownBlock = some w.heap.size) → wpList Try.prog ops Q rest (a.put o.dst v') w') : wpList Try.prog ops Q (o :: rest) a w := by
  obtain ⟨i0, hi, hz, hs1, hb⟩ := parts_of int_facts
  refine wpList_append_own_at w hgd s x _ ho base 3 i0 (.int .i64 0) 1 8 Try.underlying28 hi hz hs1 hb rfl (by decide) v l.length (idC l) hs hown ⟨g, 0, none⟩ 1 1 [.int .i64 (z : Int)] hx rfl ?_ (by simp [Value.oneCell']) (by unfold maxLen; omega) (by omega) hbase ?_
  · intro j u hu
    match j, hu with
    | 0, hu => injection hu with hu; subst hu; exact hc
    | j + 1, hu => simp at hu
  · intro v' w' hown' hg' _ hat
    refine h v' w' ?_ hg' hat
    unfold OwnId idC
    rw [List.length_append, List.map_append]
    exact hown'

/-- all that stand in one -/
def Tr.kin (T : Tr) (of n : Nat) : List Nat := (List.range n).filter (fun j => decide (T.inn of j))
theorem kin_succ (T : Tr) (of n : Nat) : T.kin of (n + 1) = if T.inn of n then T.kin of n ++ [n] else T.kin of n := by
  unfold Tr.kin
  rw [List.range_succ, List.filter_append]
  by_cases h : T.inn of n
  · rw [if_pos h]; simp [h]
  · rw [if_neg h]; simp [h]
theorem kin_len (T : Tr) (of n : Nat) : (T.kin of n).length ≤ n := by unfold Tr.kin; have := List.length_filter_le (fun j => decide (T.inn of j)) (List.range n); simpa using this

end Go.Proofs.Ytpphhhalmccnbaa
