/-
  Bytes laid as a block, in new memory.
-/
import Derived.Test.YtmhnjmfcenbogaaPf
namespace Go.Proofs.Ytmhnjmfcenbogaa
set_option maxRecDepth 100000
set_option linter.unusedVariables false
set_option linter.unusedSimpArgs false
open Go.RowKit

theorem grown_row (W : World) (g : Nat) (cs : Array Value) : W.grownBy (W.setRow g cs) (some g) := ⟨rfl, rfl, rfl, by rw [setRow_size]; exact Nat.le_refl _, fun j _ hj => setRow_other W g j _ (fun e => hj (by rw [e]))⟩
theorem pad_cells (d : List UInt8) (hd : d.length ≤ 32) : RY.cells d ++ (RY.cells (List.replicate 32 0)).drop d.length = RY.cells (padV d) := by
  unfold padV
  rw [ry_cells, ry_cells, ry_cells, ← List.map_drop, List.drop_replicate, List.map_append]
/-- 'copy(make([]byte, 32), data)' -/
theorem copy_pad {W : World} {base g : Nat} (hO : RY.Own W base (.slice (some ⟨g, 0, none⟩) 32 32) (List.replicate 32 0)) {A : Option Addr} {n c : Nat} {d : List UInt8} (hd : DatAt W ⟨A, n, c⟩ d) (hle : n ≤ 32) :
    ∃ W' k, (∀ ty, (Builtin.copy_ #[36, 36] ty #[.slice (some ⟨g, 0, none⟩) 32 32, .slice A n c]).run Try.prog W = .ok k W') ∧ RY.Own W' base (.slice (some ⟨g, 0, none⟩) 32 32) (padV d) ∧ W.grownBy W' (some g) := by
  have hn : d.length = n := hd.n
  subst hn
  rcases hO.2 with ⟨e, _⟩ | ⟨g', cap', cur, e, hb, hh, hnc, hcm, hcs, ht⟩
  · cases e
  injection e with e1 e2 e3
  injection e1 with e1
  injection e1 with e1
  subst e1
  subst e3
  have hcs : cur.size = 32 := hcs
  have hcur : cur.toList = RY.cells (List.replicate 32 0) := by
    have h1 : cur.toList.take 32 = RY.cells (List.replicate 32 0) := ht
    rw [List.take_of_length_le (by rw [Array.length_toList]; omega)] at h1
    exact h1
  have hcl : (RY.cells d).length = d.length := by rw [ry_cells, List.length_map]
  cases A with
  | none =>
    have h0 : d = [] := by
      rcases hd.at_ with h | ⟨b, o, e, _⟩
      · exact h
      · cases e
    subst h0
    obtain ⟨i0, hi, hz0, hz1, hz2⟩ := parts_of ry_ok.facts
    replace hi : Try.prog.info? 5 = some i0 := hi
    refine ⟨W, goInt 0, fun ty => ?_, hO, ⟨rfl, rfl, rfl, Nat.le_refl _, fun _ _ _ => rfl⟩⟩
    simp [Builtin.copy_, run_underlying Try.underlying36, Builtin.lenOf, Builtin.firstCells, sizeOf, typeInfo, hi, storeCells]
  | some a =>
    have hw := run_copy_row Try.prog W 36 36 36 5 g 0 32 32 a d.length c cur 5 (RY.cells d) Try.underlying36 (by kernel_rfl) hh (by rw [hcl]; exact (Nat.min_eq_left hle).symm)
      (fun j v hj => by
        rcases hd.at_ with h | ⟨b, o, e, _, hc⟩
        · rw [h] at hj; cases hj
        · injection e with e; subst e; rw [addr_add]; exact hc j v hj)
      (by rw [hcl]; omega) (ry_ok.ones d)
    refine ⟨_, _, fun ty => (run_copy_row Try.prog W 36 36 ty 5 g 0 32 32 a d.length c cur 5 (RY.cells d) Try.underlying36 (by kernel_rfl) hh (by rw [hcl]; exact (Nat.min_eq_left hle).symm)
      (fun j v hj => by
        rcases hd.at_ with h | ⟨b, o, e, _, hc⟩
        · rw [h] at hj; cases hj
        · injection e with e; subst e; rw [addr_add]; exact hc j v hj)
      (by rw [hcl]; omega) (ry_ok.ones d)), ?_, grown_row _ _ _⟩
    have hrow : cur.toList.take 0 ++ RY.cells d ++ cur.toList.drop (0 + (RY.cells d).length) = RY.cells (padV d) := by
      rw [List.take_zero, List.nil_append, Nat.zero_add, hcl, hcur, pad_cells d hle]
    rw [hrow]
    have hpl : (padV d).length = 32 := padV_len hle
    have hl2 : (RY.cells (padV d)).length = 32 := by rw [ry_cells, List.length_map, hpl]
    refine ⟨by rw [ry_ok.length], .inr ⟨g, 32, (RY.cells (padV d)).toArray, by rw [hpl], hb, setRow_heap _ _ _ _ _ _ hh, by rw [hpl]; omega, hcm, by simp [hl2]; rfl, ?_⟩⟩
    rw [List.take_of_length_le (by simp [hl2, hpl]; exact Nat.le_refl _)]
theorem wpList_copy_pad {ops : Array Oper} {rest : List Oper} {o : Oper} {a : Act} {Q : Exit → Act → World → Prop} {W : World} (hgd : o.guard = none) (s x : Operand) (ho : o.op = .call { callee := .builtin .copy, args := #[s, x], argTypes := #[36, 36] })
    {base g : Nat} (hO : RY.Own W base (.slice (some ⟨g, 0, none⟩) 32 32) (List.replicate 32 0)) {A : Option Addr} {n c : Nat} {d : List UInt8} (hd : DatAt W ⟨A, n, c⟩ d) (hle : n ≤ 32) (hs : a.eval s = .slice (some ⟨g, 0, none⟩) 32 32) (hx : a.eval x = .slice A n c)
    (h : ∀ k w', RY.Own w' base (.slice (some ⟨g, 0, none⟩) 32 32) (padV d) → W.grownBy w' (some g) → wpList Try.prog ops Q rest (a.put o.dst k) w') : wpList Try.prog ops Q (o :: rest) a W := by
  refine wpList_plain hgd fun K hK => ?_
  obtain ⟨w', k, hr, h2, h3⟩ := copy_pad hO hd hle
  unfold Oper.wp execOp
  simp only [ho, resolve, invoke, builtin, Sem.run_bind, Sem.run_pure, Result.andThen_ok, List.map_toArray, List.map_cons, List.map_nil, hs, hx, hr]
  exact hK _ _ (h k w' h2 h3)

theorem wpList_make_run {P : Program} {ops : Array Oper} {rest : List Oper} {o : Oper} {a : Act} {w w' : World} {Q : Exit → Act → World → Prop} (hgd : o.guard = none) (t : TypeId) (l c : Operand) (ho : o.op = .makeSlice t l c) {x y v : Value} (hl : a.eval l = x) (hc : a.eval c = y)
    (hrun : (Instr.makeSlice t x y).run P w = .ok v w') (h : wpList P ops Q rest (a.put o.dst v) w') : wpList P ops Q (o :: rest) a w :=
  wpList_plain hgd fun _ hK => wp_make t l c ho hl hc hrun (hK _ _ h)
theorem own_dat {W : World} {base g : Nat} {d : List UInt8} (hO : RY.Own W base (.slice (some ⟨g, 0, none⟩) 32 32) d) (hd : d.length = 32) : DatAt W ⟨some ⟨g, 0, none⟩, 32, 32⟩ d := ⟨hd, Nat.le_refl _, .inr (.inr ⟨_, _, rfl⟩), (own_parts ry_ok hO hd).1⟩

theorem laid_any (A : Option Addr) (n c : Nat) (d : List UInt8) (hn : n ≤ 32) (g : Nat) (w : World) (hg : w.heap.size = g) (h : DatAt w ⟨A, n, c⟩ d) :
    Calls Try.prog 26 #[.slice A n c] w fun e w' => e = .returned (.slice (some ⟨g, 0, none⟩) 32 32) ∧ DatAt w' ⟨some ⟨g, 0, none⟩, 32, 32⟩ (padV d) ∧ g < w'.heap.size ∧ Below w.heap.size w w' := by
  subst hg
  have HD := Lib.hid h
  have HN := Lib.hid hn
  obtain ⟨w1, hmk, ho1, hb1⟩ := run_zeros w 32 (by omega)
  have HO := Lib.hid ho1
  have HB := Lib.hid hb1
  have HD1 := Lib.hid (h.below hb1)
  have HMK := Lib.hid (show (Instr.makeSlice 36 (.int .i64 32) (.int .i64 32)).run Try.prog w = .ok (.slice (some ⟨w.heap.size, 0, none⟩) 32 32) w1 from hmk)
  clear h ho1 hb1 hmk
  generalize w.heap.size = g at *
  go_enter Try.func26, Try.ntmps26
  go_wp2_with (first
    | (at_make; refine wpList_make_run rfl 36 _ _ rfl rfl rfl HMK.out ?_)
    | (refine wpList_copy_pad rfl (.tmp 5) (.tmp 6) rfl HO.out HD1.out HN.out rfl rfl ?_; intro k w2 ho2 hg2; have HO2 := Lib.hid ho2; have HG2 := Lib.hid hg2; clear ho2 hg2)
    | fail)
  go_ret
  exact ⟨rfl, own_dat HO2.out (padV_len (by have h := HD.out.n; have h2 := HN.out; simp only at h; omega)), (HO2.out.lt g rfl).2, HB.out.grown HG2.out (by have h1 := (HO.out.lt g rfl).2; omega) (fun j e => by injection e with e; omega)⟩
end Go.Proofs.Ytmhnjmfcenbogaa
