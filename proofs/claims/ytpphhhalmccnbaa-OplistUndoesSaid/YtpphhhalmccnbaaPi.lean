/-
  Rows made anew, an element of a row of the call's own written over, a row's end cleared.
-/
import Derived.Test.YtpphhhalmccnbaaAp
import Derived.Test.YtpphhhalmccnbaaTreeA
import Derived.Laws.CopyRow
namespace Go.Proofs.Ytpphhhalmccnbaa
set_option maxRecDepth 100000
set_option linter.unusedVariables false
set_option linter.unusedSimpArgs false
open Go.RowKit

theorem setRow_grown (W : World) (g : Nat) (cs : Array Value) : W.grownBy (W.setRow g cs) (some g) := ⟨rfl, rfl, rfl, by rw [setRow_size]; exact Nat.le_refl _, fun j _ hj => setRow_other W g j _ (fun e => hj (by rw [e]))⟩
theorem drop_eq_get {α : Type} {A B : List α} {j : Nat} (h : A.drop j = B.drop j) : A[j]? = B[j]? := by
  have h1 := congrArg (fun l : List α => l[0]?) h
  simpa [List.getElem?_drop] using h1
/-- a part of a list's head put in another one's place -/
theorem take_put {α : Type} (X P vs : List α) (a m N : Nat) (hv : vs.length = m) (hP : X.take N = P) (hN : N ≤ X.length) (ha : a + m ≤ N) : (X.take a ++ vs ++ X.drop (a + m)).take N = P.take a ++ vs ++ P.drop (a + m) := by
  subst hP
  have hX := List.take_append_drop N X
  have h1 : X.drop (a + m) = (X.take N).drop (a + m) ++ X.drop N := by
    conv => lhs; rw [← hX]
    rw [List.drop_append_of_le_length (by rw [List.length_take]; omega)]
  have h2 : X.take a = (X.take N).take a := by rw [List.take_take, Nat.min_eq_left (by omega)]
  rw [h1, h2, ← List.append_assoc, List.take_left']
  simp only [List.length_append, List.length_take, List.length_drop]
  omega

section
variable {α : Type} {R : Rk α}
/-- a cell of a row of the call's own, by its block -/
theorem Rk.Own.cell0 (h0 : R.Ok) {W : World} {base g n cap : Nat} {l : List α} (h : R.Own W base (.slice (some ⟨g, 0, none⟩) n cap) l) {i : Nat} {x : α} (hx : l[i]? = some x) (k : Nat) (u : Value) (hu : (R.enc x)[k]? = some u) : W.cell? ⟨g, i * R.m + k, none⟩ = some u := by
  obtain ⟨A, c, e, _, hat, _⟩ := h.form h0
  injection e with e1 e2 e3
  subst e1
  obtain ⟨b, o, e, _, hc⟩ := hat.get h0 hx
  injection e with e
  injection e with e1 e2
  have := hc k u hu
  rwa [← e1, ← e2, Nat.zero_add] at this
theorem Rk.Ok.size (h : R.Ok) (W : World) : (Go.sizeOf R.e).run Try.prog W = .ok R.m W := by
  obtain ⟨i0, hi, hz, hs, hb⟩ := parts_of h.facts
  simp [Go.sizeOf, typeInfo, hi, hs]
theorem Rk.Ok.zero (h : R.Ok) (W : World) : (zeroValue R.e).run Try.prog W = .ok R.z W := by
  obtain ⟨i0, hi, hz, hs, hb⟩ := parts_of h.facts
  simp [zeroValue, typeInfo, hi, hz]
theorem Rk.Ok.cells_take (h : R.Ok) (C : List α) (i : Nat) : R.cells (C.take i) = (R.cells C).take (i * R.m) := by
  rcases Nat.lt_or_ge i C.length with hi | hi
  · have e := List.take_append_drop i C
    conv => rhs; rw [← e, Rk.cells_append]
    rw [List.take_left' (by rw [h.length, List.length_take, Nat.min_eq_left (by omega)])]
  · rw [List.take_of_length_le hi, List.take_of_length_le (by rw [h.length]; exact Nat.mul_le_mul_right _ hi)]
theorem Rk.Ok.cells_drop (h : R.Ok) (C : List α) (i : Nat) : R.cells (C.drop i) = (R.cells C).drop (i * R.m) := by
  rcases Nat.lt_or_ge i C.length with hi | hi
  · have e := List.take_append_drop i C
    conv => rhs; rw [← e, Rk.cells_append]
    rw [List.drop_left' (by rw [h.length, List.length_take, Nat.min_eq_left (by omega)])]
  · rw [List.drop_of_length_le hi, List.drop_of_length_le (by rw [h.length]; exact Nat.mul_le_mul_right _ hi)]; rfl
theorem Rk.Ok.cells_set2 (h : R.Ok) (C : List α) (i : Nat) (z : α) (hi : i < C.length) : R.cells (C.set i z) = (R.cells C).take (i * R.m) ++ R.enc z ++ (R.cells C).drop (i * R.m + R.m) := by
  rw [List.set_eq_take_append_cons_drop, if_pos hi, Rk.cells_append, h.cells_take]
  have e : R.cells (z :: C.drop (i + 1)) = R.enc z ++ R.cells (C.drop (i + 1)) := by unfold Rk.cells; rw [List.flatMap_cons]
  rw [e, h.cells_drop, ← List.append_assoc, Nat.succ_mul]

theorem Rk.own_put (h0 : R.Ok) {W : World} {base g n cap i : Nat} {C : List α} (z : α) (v : Value) (hv : v.cells = (R.enc z).toArray) (h : R.Own W base (.slice (some ⟨g, 0, none⟩) n cap) C) (hn : C.length = n) (hi : i < n) :
    ∃ W', (storeVar R.e ⟨g, i * R.m, none⟩ v).run Try.prog W = .ok () W' ∧ R.Own W' base (.slice (some ⟨g, 0, none⟩) n cap) (C.set i z) ∧ W.grownBy W' (some g) := by
  subst hn
  have hm := h0.pos
  have hzl := h0.len z
  have hle : i * R.m + R.m ≤ C.length * R.m := by rw [← Nat.succ_mul]; exact Nat.mul_le_mul_right _ hi
  rcases h.2 with ⟨e, _⟩ | ⟨g', cap', cur, e, hb, hh, hnc, hcm, hcs, ht⟩
  · cases e
  · injection e with e1 e2 e3
    injection e1 with e1
    injection e1 with e1
    subst e1
    subst e3
    have hcl : C.length * R.m ≤ cap * R.m := Nat.mul_le_mul_right _ hnc
    have hst := run_storeCells_at Try.prog g (i * R.m) R.e (R.enc z) 0 cur W hh (by rw [hzl]; omega) (h0.one z)
    refine ⟨_, ?_, ⟨?_, .inr ⟨g, cap, (cur.toList.take (i * R.m + 0) ++ R.enc z ++ cur.toList.drop (i * R.m + 0 + (R.enc z).length)).toArray, ?_, hb, setRow_heap _ _ _ _ _ _ hh, by rw [List.length_set]; exact hnc, hcm, ?_, ?_⟩⟩, setRow_grown _ _ _⟩
    · simp only [storeVar, hv, Sem.run_bind, h0.size, Result.andThen_ok]
      rw [if_neg (by simp [hzl])]
      exact hst
    · rw [h0.length, List.length_set]
    · rw [List.length_set]
    · rw [List.size_toArray]
      simp only [List.length_append, List.length_take, List.length_drop, Array.length_toList, hzl]
      omega
    · rw [List.length_set, h0.cells_set2 C i z hi, hzl]
      exact take_put cur.toList (R.cells C) (R.enc z) (i * R.m) R.m (C.length * R.m) hzl ht (by have h9 : cur.toList.length = cap * R.m := (by rw [Array.length_toList]; exact hcs); omega) hle

theorem Rk.wpList_store_elem (h0 : R.Ok) {ops : Array Oper} {rest : List Oper} {o : Oper} {a : Act} {W : World} {Q : Exit → Act → World → Prop} (hgd : o.guard = none) (x u : Operand) (ho : o.op = .store R.e x u) {base g n cap i : Nat} {C : List α} (z : α) (v : Value) (hv : v.cells = (R.enc z).toArray)
    (hx : a.eval x = .pointer (some ⟨g, i * R.m, none⟩)) (hy : a.eval u = v) (hown : R.Own W base (.slice (some ⟨g, 0, none⟩) n cap) C) (hn : C.length = n) (hi : i < n)
    (h : ∀ w', R.Own w' base (.slice (some ⟨g, 0, none⟩) n cap) (C.set i z) → W.grownBy w' (some g) → wpList Try.prog ops Q rest (a.put o.dst undef) w') : wpList Try.prog ops Q (o :: rest) a W := by
  refine wpList_plain hgd fun K hK => ?_
  obtain ⟨w', hrun, h1, h2⟩ := Rk.own_put h0 z v hv hown hn hi
  unfold Oper.wp execOp
  simp only [ho, hx, hy, Instr.storeAt, Instr.sureAddr, Sem.run_bind, Sem.run_pure, Result.andThen_ok, hrun]
  exact hK _ _ (h w' h1 h2)

theorem Rk.own_clear (h0 : R.Ok) (hz1 : ∀ v ∈ R.z.cells.toList, v.oneCell' = true) {W : World} {base g n cap i : Nat} {C : List α} (h : R.Own W base (.slice (some ⟨g, 0, none⟩) n cap) C) (hn : C.length = n) (hi : i < n) (c2 : Nat) :
    ∃ W', (∀ ty, (Builtin.clear_ #[R.s] ty #[.slice (some ⟨g, i * R.m, none⟩) (n - i) c2]).run Try.prog W = .ok (.tuple #[]) W') ∧ R.Own W' base (.slice (some ⟨g, 0, none⟩) i cap) (C.take i) ∧ W.grownBy W' (some g) := by
  subst hn
  have hm := h0.pos
  rcases h.2 with ⟨e, _⟩ | ⟨g', cap', cur, e, hb, hh, hnc, hcm, hcs, ht⟩
  · cases e
  · injection e with e1 e2 e3
    injection e1 with e1
    injection e1 with e1
    subst e1
    subst e3
    obtain ⟨vs, hvs⟩ : ∃ vs, vs = (Builtin.zeroCells R.z.cells (C.length - i)).toList := ⟨_, rfl⟩
    have hvl : vs.length = (C.length - i) * R.m := by rw [hvs]; simp [Builtin.zeroCells, h0.zs]
    have hv1 : ∀ v ∈ vs, v.oneCell' = true := by
      rw [hvs]
      intro v hv
      simp only [Builtin.zeroCells, Array.toList_map, List.mem_map] at hv
      obtain ⟨j, _, rfl⟩ := hv
      have hj : j % R.z.cells.size < R.z.cells.size := Nat.mod_lt _ (by rw [h0.zs]; exact hm)
      rw [getElem!_pos R.z.cells _ hj]
      exact hz1 _ (Array.getElem_mem_toList hj)
    have hle : i * R.m + (C.length - i) * R.m = C.length * R.m := by rw [← Nat.add_mul]; congr 1; omega
    have hcl : C.length * R.m ≤ cap * R.m := Nat.mul_le_mul_right _ hnc
    have hst := run_storeCells_at Try.prog g (i * R.m) R.e vs 0 cur W hh (by rw [hvl]; omega) hv1
    have hlen : (C.take i).length = i := by rw [List.length_take]; omega
    refine ⟨W.setRow g (cur.toList.take (i * R.m + 0) ++ vs ++ cur.toList.drop (i * R.m + 0 + vs.length)).toArray, fun ty => ?_, ⟨?_, .inr ⟨g, cap, (cur.toList.take (i * R.m + 0) ++ vs ++ cur.toList.drop (i * R.m + 0 + vs.length)).toArray, ?_, hb, setRow_heap _ _ _ _ _ _ hh, by rw [hlen]; omega, hcm, ?_, ?_⟩⟩, setRow_grown _ _ _⟩
    · obtain ⟨m, hm2⟩ : ∃ m, C.length - i = m + 1 := ⟨C.length - i - 1, by omega⟩
      rw [hm2] at hvs ⊢
      simp only [Builtin.clear_, Sem.run_bind, run_underlying h0.und, Result.andThen_ok, h0.zero, List.getElem?_toArray, List.getElem?_cons_zero]
      rw [← hvs, hst]
      rfl
    · rw [h0.length]
    · rw [hlen]
    · rw [List.size_toArray]
      simp only [List.length_append, List.length_take, List.length_drop, Array.length_toList]
      omega
    · rw [hlen, h0.cells_take, ← ht, List.take_take, Nat.min_eq_left (by omega)]
      rw [List.append_assoc, List.take_left' (by rw [List.length_take, Array.length_toList]; omega)]
      rfl
end


section
variable {α : Type} {R : Rk α}
theorem Rk.wp_store_elem (h0 : R.Ok) {o : Oper} {a : Act} {W : World} {K : Act → World → Prop} {Q : Exit → Act → World → Prop} (x u : Operand) (ho : o.op = .store R.e x u) {base g n cap i : Nat} {C : List α} (z : α) (v : Value) (hv : v.cells = (R.enc z).toArray)
    (hx : a.eval x = .pointer (some ⟨g, i * R.m, none⟩)) (hy : a.eval u = v) (hown : R.Own W base (.slice (some ⟨g, 0, none⟩) n cap) C) (hn : C.length = n) (hi : i < n)
    (h : ∀ w', R.Own w' base (.slice (some ⟨g, 0, none⟩) n cap) (C.set i z) → W.grownBy w' (some g) → K (a.put o.dst undef) w') : o.wp Try.prog a W K Q := by
  obtain ⟨w', hrun, h1, h2⟩ := Rk.own_put h0 z v hv hown hn hi
  unfold Oper.wp execOp
  simp only [ho, hx, hy, Instr.storeAt, Instr.sureAddr, Sem.run_bind, Sem.run_pure, Result.andThen_ok, hrun]
  exact h w' h1 h2
/-- 'make([]T, n)', in any world -/
theorem Rk.run_make (h0 : R.Ok) (w : World) (n : Nat) (z : α) (hz : R.z.cells = (R.enc z).toArray) (hn : R.b * n ≤ 1000000) (hn2 : n ≤ 1000000) : ∃ w', (Instr.makeSlice R.s (.int .i64 (n : Int)) (.int .i64 (n : Int))).run Try.prog w = .ok (.slice (some ⟨w.heap.size, 0, none⟩) n n) w' ∧
    R.Own w' w.heap.size (.slice (some ⟨w.heap.size, 0, none⟩) n n) (List.replicate n z) ∧ Below w.heap.size w w' := by
  obtain ⟨i0, hi, hz0, hz1, hz2⟩ := parts_of h0.facts
  obtain ⟨w2, hmk, hown, hgr⟩ := run_make_full (P := Try.prog) w w.heap.size R.s R.e i0 R.z R.m h0.und hi hz0 hz1 .i64 .i64 n (by rw [hz2]; omega) (by unfold maxLen; omega) (Nat.le_refl _)
  have hm := h0.pos
  have e : (madeCells (Value.cells R.z) (n * R.m)).toList = R.cells (List.replicate n z) := by
    unfold madeCells
    rw [Array.toList_map, Array.toList_range]
    refine List.ext_getElem? fun i => ?_
    rcases Nat.lt_or_ge i (n * R.m) with hlt | hge
    · have h1 : i / R.m < n := Nat.div_lt_of_lt_mul (by rw [Nat.mul_comm]; exact hlt)
      have h2 := h0.at (List.replicate n z) (i / R.m) z (i % R.m) (by rw [List.getElem?_replicate, if_pos h1]) (Nat.mod_lt _ hm)
      rw [Nat.div_add_mod' i R.m] at h2
      rw [h2, List.getElem?_map, List.getElem?_range hlt, hz]
      have h3 : i % R.m < (R.enc z).length := by rw [h0.len]; exact Nat.mod_lt _ hm
      simp only [Option.map_some, List.size_toArray, h0.len]
      rw [List.getElem?_eq_getElem h3, getElem!_pos _ _ (by simpa using h3)]
      simp
    · rw [List.getElem?_eq_none (by simp; exact hge), List.getElem?_eq_none (by rw [h0.length, List.length_replicate]; exact hge)]
  rw [e] at hown
  refine ⟨w2, hmk, ?_, (Below.refl _ _).grown hgr (Nat.le_refl _) (by simp)⟩
  show w2.ownsRow w.heap.size R.e R.m _ (List.replicate n z).length _
  rw [List.length_replicate]; exact hown
theorem Rk.wp_make_row (h0 : R.Ok) {o : Oper} {a : Act} {W : World} {K : Act → World → Prop} {Q : Exit → Act → World → Prop} (l c : Operand) (ho : o.op = .makeSlice R.s l c) (n : Nat) (z : α) (hz : R.z.cells = (R.enc z).toArray) (hn : R.b * n ≤ 1000000) (hn2 : n ≤ 1000000)
    (hl : a.eval l = .int .i64 (n : Int)) (hc : a.eval c = .int .i64 (n : Int))
    (h : ∀ w' g, W.heap.size ≤ g → g < w'.heap.size → R.Own w' g (.slice (some ⟨g, 0, none⟩) n n) (List.replicate n z) → Below W.heap.size W w' → K (a.put o.dst (.slice (some ⟨g, 0, none⟩) n n)) w') : o.wp Try.prog a W K Q := by
  obtain ⟨w', h1, h2, h3⟩ := Rk.run_make h0 W n z hz hn hn2
  exact wp_make R.s l c ho hl hc h1 (h w' _ (Nat.le_refl _) (h2.lt _ rfl).2 h2 h3)
end
end Go.Proofs.Ytpphhhalmccnbaa
