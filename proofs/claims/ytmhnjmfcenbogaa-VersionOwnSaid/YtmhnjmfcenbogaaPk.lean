/-
  Versions in a list: pairs of what lies in memory and what it says.
-/
import Derived.Test.YtmhnjmfcenbogaaPg
import Derived.Test.YtmhnjmfcenbogaaPi
namespace Go.Proofs.Ytmhnjmfcenbogaa
set_option maxRecDepth 100000
set_option linter.unusedVariables false
set_option linter.unusedSimpArgs false
open Go.RowKit Go.Shelf

structure Prs (W : World) (rs : List Vr) (L : List Vn) : Prop where
  l : rs.length = L.length
  d : ∀ (i : Nat) (r : Vr) (v : Vn), rs[i]? = some r → L[i]? = some v → r.b = v.b ∧ r.x = v.x ∧ DatAt W r.s v.d
section
variable {W V : World} {rs qs : List Vr} {L M : List Vn}
theorem Prs.nil : Prs W [] [] := ⟨rfl, fun i r v h => by simp at h⟩
theorem Prs.one {r : Vr} {v : Vn} (h1 : r.b = v.b) (h2 : r.x = v.x) (h3 : DatAt W r.s v.d) : Prs W [r] [v] := ⟨rfl, fun i r' v' e1 e2 => by
  cases i with
  | zero => simp at e1 e2; subst e1; subst e2; exact ⟨h1, h2, h3⟩
  | succ i => simp at e1⟩
theorem Prs.app (h : Prs W rs L) (k : Prs W qs M) : Prs W (rs ++ qs) (L ++ M) := ⟨by rw [List.length_append, List.length_append, h.l, k.l], fun i r v e1 e2 => by
  rcases Nat.lt_or_ge i rs.length with hi | hi
  · rw [List.getElem?_append_left hi] at e1
    rw [List.getElem?_append_left (by rw [← h.l]; exact hi)] at e2
    exact h.d i r v e1 e2
  · rw [List.getElem?_append_right hi] at e1
    rw [List.getElem?_append_right (by rw [← h.l]; exact hi), ← h.l] at e2
    exact k.d _ r v e1 e2⟩
theorem Prs.take (h : Prs W rs L) (k : Nat) : Prs W (rs.take k) (L.take k) := ⟨by rw [List.length_take, List.length_take, h.l], fun i r v e1 e2 => by
  rw [List.getElem?_take] at e1 e2
  split at e1
  · rw [if_pos (by assumption)] at e2; exact h.d i r v e1 e2
  · cases e1⟩
theorem Prs.drop (h : Prs W rs L) (k : Nat) : Prs W (rs.drop k) (L.drop k) := ⟨by rw [List.length_drop, List.length_drop, h.l], fun i r v e1 e2 => by
  rw [List.getElem?_drop] at e1 e2
  exact h.d _ r v e1 e2⟩
theorem Prs.below (h : Prs W rs L) (hb : Below W.heap.size W V) : Prs V rs L := ⟨h.l, fun i r v e1 e2 => ⟨(h.d i r v e1 e2).1, (h.d i r v e1 e2).2.1, (h.d i r v e1 e2).2.2.below hb⟩⟩
theorem VrsAt.prs {A : Option Addr} {n : Nat} (h : VrsAt RVo W A n L rs) : Prs W rs L := ⟨by rw [h.k, h.l], h.d⟩
theorem Prs.vrs (h : Prs W rs L) {A : Option Addr} {n : Nat} (hn : L.length = n) (ha : RVo.At W A rs) : VrsAt RVo W A n L rs := ⟨hn, by rw [h.l, hn], ha, h.d⟩
end
theorem withV_len : ∀ (M L : List Vn), (withV L M).length ≤ L.length + M.length
  | [], L => Nat.le_refl _
  | v :: M, L => by
    have h := withV_len M (putV v L)
    have h2 := putV_len (v := v) (L := L)
    rw [withV_cons, List.length_cons]
    omega
theorem thereV_ne {b x : Int} {L : List Vn} (h : thereV b x L = true) : 1 ≤ L.length := by
  cases L with
  | nil => cases h
  | cons y r => simp
/-- 'make([]T, 0, n)', in any world -/
theorem Rk.run_make_cap {α : Type} {R : Rk α} (h0 : R.Ok) (w : World) (n : Nat) (hn : R.b * n ≤ 1000000) (hn2 : n ≤ 1000000) : ∃ w', (Instr.makeSlice R.s (.int .i64 0) (.int .i64 (n : Int))).run Try.prog w = .ok (.slice (some ⟨w.heap.size, 0, none⟩) 0 n) w' ∧
    R.Own w' w.heap.size (.slice (some ⟨w.heap.size, 0, none⟩) 0 n) [] ∧ Below w.heap.size w w' := by
  obtain ⟨i0, hi, hz0, hz1, hz2⟩ := parts_of h0.facts
  obtain ⟨w2, hmk, hown, hgr⟩ := run_make_own (P := Try.prog) w w.heap.size R.s R.e i0 R.z R.m h0.und hi hz0 hz1 .i64 .i64 n (by rw [hz2]; omega) (by unfold maxLen; omega) (Nat.le_refl _)
  exact ⟨w2, hmk, hown, (Below.refl _ _).grown hgr (Nat.le_refl _) (by simp)⟩
theorem ver_cells2 {W : World} {A : Option Addr} {n i : Nat} {L : List Vn} {vs : List Vr} (h : VrsAt RVo W A n L vs) (hi : i < n) : ∃ b o Ax nx cx, A = some ⟨b, o, none⟩ ∧ b < W.heap.size ∧ L[i]? = some (L.getD i vnD) ∧
    W.cell? ⟨b, o + i * 3, none⟩ = some (.int .i64 (L.getD i vnD).b) ∧ W.cell? ⟨b, o + i * 3 + 1, none⟩ = some (.int .i64 (L.getD i vnD).x) ∧ W.cell? ⟨b, o + i * 3 + 2, none⟩ = some (.slice Ax nx cx) ∧ DatAt W ⟨Ax, nx, cx⟩ (L.getD i vnD).d ∧ (⟨(L.getD i vnD).b, (L.getD i vnD).x, ⟨Ax, nx, cx⟩⟩ : Vr) ∈ vs := by
  obtain ⟨b, o, e, hb, hx, h0, h1, h2⟩ := vr_cells rfl rv_oko h.at_ h.l hi
  obtain ⟨r, v, g1, g2, g3, g4, g5⟩ := h.get hi
  have e1 : vs.getD i vrD = r := by rw [List.getD_eq_getElem?_getD, g1]; rfl
  have e2 : L.getD i vnD = v := by rw [List.getD_eq_getElem?_getD, g2]; rfl
  rw [e1] at h0 h1 h2
  rw [e2, ← g3, ← g4]
  have hm := List.mem_of_getElem? g1
  obtain ⟨rb, rx, Ax, nx, cx⟩ := r
  exact ⟨b, o, Ax, nx, cx, e, hb, by rw [g2], h0, h1, h2, g5, hm⟩
end Go.Proofs.Ytmhnjmfcenbogaa
