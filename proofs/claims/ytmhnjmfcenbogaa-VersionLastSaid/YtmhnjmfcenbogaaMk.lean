/-
  '[]byte("..")' in a drawn region: the literal's row is marked, and reads as it read.
-/
import Derived.Test.YtmhnjmfcenbogaaPv
namespace Go.Proofs.Ytmhnjmfcenbogaa
set_option maxRecDepth 100000
set_option linter.unusedVariables false
set_option linter.unusedSimpArgs false
open Go.RowKit Go.Shelf

/-- one that reads as another one -/
structure Alike (W V : World) : Prop where
  c : ∀ p : Addr, V.cell? p = W.cell? p
  s : W.heap.size ≤ V.heap.size
section
variable {W V : World}
theorem Rk.At.alike {α : Type} {R : Rk α} {A : Option Addr} {l : List α} (h : R.At W A l) (k : Alike W V) : R.At V A l := by
  rcases h with h | ⟨b, o, e, hb, hc⟩
  · exact .inl h
  · exact .inr ⟨b, o, e, Nat.lt_of_lt_of_le hb k.s, fun j u hu => (k.c _).trans (hc j u hu)⟩
theorem DatAt.alike {s : Sl} {d : List UInt8} (h : DatAt W s d) (k : Alike W V) : DatAt V s d := ⟨h.n, h.c, h.sp, h.at_.alike k⟩
theorem VtAt.alike {R : Rk Vr} {A B : Option Addr} {n a m b : Nat} {t : Vt} (h : VtAt R W A n a B m b t) (k : Alike W V) : VtAt R V A n a B m b t := by
  obtain ⟨ss, h1⟩ := h.base
  obtain ⟨vs, h2⟩ := h.vers
  exact ⟨⟨ss, h1.k, h1.l, h1.at_.alike k, fun i s d e1 e2 => (h1.d i s d e1 e2).alike k⟩, ⟨vs, h2.k, h2.l, h2.at_.alike k, fun i r v e1 e2 => ⟨(h2.d i r v e1 e2).1, (h2.d i r v e1 e2).2.1, (h2.d i r v e1 e2).2.2.alike k⟩⟩, h.na, h.sa, h.mb, h.sb⟩
end
theorem freeze_get (W : World) (a : Addr) (n k : Nat) : (W.freeze a n).heap[k]? = if n = 0 then W.heap[k]? else if a.block = k then (W.heap[k]?).map (fun x => match x with
      | .cells c elem (lo, hi) => Obj.cells c elem (if lo == hi then (a.off, a.off + n) else (min lo a.off, max hi (a.off + n)))
      | o => o) else W.heap[k]? := by
  unfold World.freeze
  split
  · rfl
  · simp only [Array.getElem?_modify]
    split <;> rfl
theorem freeze_size (W : World) (a : Addr) (n : Nat) : (W.freeze a n).heap.size = W.heap.size := by
  unfold World.freeze
  split
  · rfl
  · simp
theorem freeze_alike (W : World) (a : Addr) (n : Nat) : Alike W (W.freeze a n) := by
  refine ⟨fun p => ?_, by rw [freeze_size]; exact Nat.le_refl _⟩
  unfold World.cell?
  rw [freeze_get]
  by_cases hn : n = 0
  · rw [if_pos hn]
  · rw [if_neg hn]
    by_cases hb : a.block = p.block
    · rw [if_pos hb]
      generalize W.heap[p.block]? = x
      cases x with
      | none => rfl
      | some o => cases o <;> rfl
    · rw [if_neg hb]
theorem freeze_grown (W : World) (a : Addr) (n : Nat) : W.grownBy (W.freeze a n) (some a.block) := by
  refine ⟨?_, ?_, ?_, by rw [freeze_size]; exact Nat.le_refl _, fun k _ hk => ?_⟩
  · unfold World.freeze; split <;> rfl
  · unfold World.freeze; split <;> rfl
  · unfold World.freeze; split <;> rfl
  · rw [freeze_get]
    split
    · rfl
    · rw [if_neg (fun e => hk (by rw [e]))]
theorem run_mark (W : World) (g n c : Nat) : ∃ W', (convert 36 36 (.slice (some ⟨g, 0, none⟩) n c)).run Try.prog W = .ok (.slice (some ⟨g, 0, none⟩) n c) W' ∧ Alike W W' ∧ W.grownBy W' (some g) := by
  cases hs : W.shape? g with
  | none =>
    refine ⟨W, ?_, ⟨fun _ => rfl, Nat.le_refl _⟩, ⟨rfl, rfl, rfl, Nat.le_refl _, fun _ _ _ => rfl⟩⟩
    simp [convert, run_underlying Try.underlying36, run_underlying Try.underlying5, markStringish, hs]
  | some z =>
    obtain ⟨y, m⟩ := z
    refine ⟨W.freeze ⟨g, m, none⟩ 1, ?_, freeze_alike _ _ _, freeze_grown _ ⟨g, m, none⟩ _⟩
    simp [convert, run_underlying Try.underlying36, run_underlying Try.underlying5, markStringish, hs]
theorem wp_mark {W : World} {o : Oper} {a : Act} {K : Act → World → Prop} {Q : Exit → Act → World → Prop} (x : Operand) (ho : o.op = .convert 36 36 x) (g n c : Nat) (hx : a.eval x = .slice (some ⟨g, 0, none⟩) n c)
    (h : ∀ w', Alike W w' → W.grownBy w' (some g) → K (a.put o.dst (.slice (some ⟨g, 0, none⟩) n c)) w') : o.wp Try.prog a W K Q := by
  obtain ⟨w', h1, h2, h3⟩ := run_mark W g n c
  unfold Oper.wp execOp
  simp only [ho, hx, Sem.run_bind, Sem.run_pure, Result.andThen_ok, h1]
  exact h w' h2 h3
theorem wp_build_raw {W : World} {n : UInt8} {o : Oper} {a : Act} {K : Act → World → Prop} {Q : Exit → Act → World → Prop} (x : Operand) (ho : o.op = .buildSlice 36 1 #[(0, x)]) (hx : a.eval x = byV n)
    (h : ∀ w' h', W.heap.size ≤ h' → DatAt w' ⟨some ⟨h', 0, none⟩, 1, 1⟩ [n] → Bk w' h' #[byV n] 5 → Below W.heap.size W w' → K (a.put o.dst (.slice (some ⟨h', 0, none⟩) 1 1)) w') : o.wp Try.prog a W K Q := by
  unfold Oper.wp execOp
  simp only [ho, List.map_toArray, List.map_cons, List.map_nil, hx]
  go_simp
  exact h _ _ (Nat.le_refl _) (DatAt.one W n) (Bk.new W _ _) (below_new W _)
end Go.Proofs.Ytmhnjmfcenbogaa
