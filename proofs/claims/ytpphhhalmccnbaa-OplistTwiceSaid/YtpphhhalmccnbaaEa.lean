/-
  Entries in rows, the program's and the document's; bools in a row.
-/
import Derived.Test.YtpphhhalmccnbaaOd
import Derived.Test.YtpphhhalmccnbaaPi
namespace Go.Proofs.Ytpphhhalmccnbaa
set_option maxRecDepth 100000
set_option linter.unusedVariables false
open Go.RowKit

def RE (e s : TypeId) : Rk En := ⟨e, s, 4, 32, .agg #[.int .i64 0, .int .i64 0, .int .i64 0, .bool false], fun x => [.int .i64 x.t, .int .i64 x.c, .int .i64 x.b, .bool x.u]⟩
abbrev REr := RE 73 22
abbrev REo := RE 62 30
theorem re_okr : REr.Ok := ⟨by decide, by decide, fun _ => rfl, fun x v hv => by simp [RE] at hv; rcases hv with rfl | rfl | rfl | rfl <;> rfl, Try.underlying22, by kernel_rfl, rfl⟩
theorem re_oko : REo.Ok := ⟨by decide, by decide, fun _ => rfl, fun x v hv => by simp [RE] at hv; rcases hv with rfl | rfl | rfl | rfl <;> rfl, Try.underlying30, by kernel_rfl, rfl⟩
def RL : Rk Bool := ⟨4, 77, 1, 1, .bool false, fun x => [.bool x]⟩
theorem rl_ok : RL.Ok := ⟨by decide, by decide, fun _ => rfl, fun x v hv => by simp [RL] at hv; subst hv; rfl, Try.underlying77, by kernel_rfl, rfl⟩
theorem rl_zero : RL.z.cells = (RL.enc false).toArray := by kernel_rfl

/-- so many entries lie there -/
structure EsAt (R : Rk En) (W : World) (A : Option Addr) (n : Nat) (l : List En) : Prop where
  len : l.length = n
  ok : ∀ e ∈ l, e.Ok
  at' : R.At W A l
section
variable {R : Rk En} {W V : World} {A : Option Addr} {n : Nat} {l : List En}
theorem EsAt.below (h : EsAt R W A n l) (hb : Below W.heap.size W V) : EsAt R V A n l := ⟨h.len, h.ok, h.at'.below hb⟩
theorem EsAt.turn {S : Nat → Prop} (h : EsAt R W A n l) (ht : Turn S W V) (hS : ∀ b o, A = some ⟨b, o, none⟩ → ¬ S b) : EsAt R V A n l := ⟨h.len, h.ok, h.at'.turn ht fun b o e => .inr (hS b o e)⟩
/-- an entry's cells -/
theorem EsAt.e (hR : R.Ok) (hf : ∀ x, R.enc x = [.int .i64 x.t, .int .i64 x.c, .int .i64 x.b, .bool x.u]) (hm : R.m = 4) (h : EsAt R W A n l) {i : Nat} (hi : i < n) : ∃ b o, A = some ⟨b, o, none⟩ ∧ b < W.heap.size ∧ (l.getD i enD).Ok ∧ l[i]? = some (l.getD i enD) ∧
    W.cell? ⟨b, o + i * 4, none⟩ = some (.int .i64 (l.getD i enD).t) ∧ W.cell? ⟨b, o + i * 4 + 1, none⟩ = some (.int .i64 (l.getD i enD).c) ∧
    W.cell? ⟨b, o + i * 4 + 2, none⟩ = some (.int .i64 (l.getD i enD).b) ∧ W.cell? ⟨b, o + i * 4 + 3, none⟩ = some (.bool (l.getD i enD).u) := by
  have hl : i < l.length := by rw [h.len]; exact hi
  have hx : l[i]? = some (l.getD i enD) := by rw [List.getD_eq_getElem?_getD, List.getElem?_eq_getElem hl]; rfl
  obtain ⟨b, o, e, hb, hc⟩ := h.at'.get hR hx
  rw [hm] at hc
  exact ⟨b, o, e, hb, h.ok _ (List.mem_of_getElem? hx), hx, hc 0 _ (by rw [hf]; rfl), hc 1 _ (by rw [hf]; rfl), hc 2 _ (by rw [hf]; rfl), hc 3 _ (by rw [hf]; rfl)⟩
end
theorem EsAt.er {W : World} {A : Option Addr} {n : Nat} {l : List En} (h : EsAt REr W A n l) {i : Nat} (hi : i < n) : ∃ b o, A = some ⟨b, o, none⟩ ∧ b < W.heap.size ∧ (l.getD i enD).Ok ∧ l[i]? = some (l.getD i enD) ∧
    W.cell? ⟨b, o + i * 4, none⟩ = some (.int .i64 (l.getD i enD).t) ∧ W.cell? ⟨b, o + i * 4 + 1, none⟩ = some (.int .i64 (l.getD i enD).c) ∧
    W.cell? ⟨b, o + i * 4 + 2, none⟩ = some (.int .i64 (l.getD i enD).b) ∧ W.cell? ⟨b, o + i * 4 + 3, none⟩ = some (.bool (l.getD i enD).u) := h.e re_okr (fun _ => rfl) rfl hi
theorem EsAt.eo {W : World} {A : Option Addr} {n : Nat} {l : List En} (h : EsAt REo W A n l) {i : Nat} (hi : i < n) : ∃ b o, A = some ⟨b, o, none⟩ ∧ b < W.heap.size ∧ (l.getD i enD).Ok ∧ l[i]? = some (l.getD i enD) ∧
    W.cell? ⟨b, o + i * 4, none⟩ = some (.int .i64 (l.getD i enD).t) ∧ W.cell? ⟨b, o + i * 4 + 1, none⟩ = some (.int .i64 (l.getD i enD).c) ∧
    W.cell? ⟨b, o + i * 4 + 2, none⟩ = some (.int .i64 (l.getD i enD).b) ∧ W.cell? ⟨b, o + i * 4 + 3, none⟩ = some (.bool (l.getD i enD).u) := h.e re_oko (fun _ => rfl) rfl hi
/-- a bool's cell in a row of the call's own -/
theorem own_bool {W : World} {base g n c : Nat} {l : List Bool} (h : RL.Own W base (.slice (some ⟨g, 0, none⟩) n c) l) {i : Nat} (hi : i < l.length) : W.cell? ⟨g, i, none⟩ = some (.bool (l.getD i false)) := by
  have hx : l[i]? = some (l.getD i false) := by rw [List.getD_eq_getElem?_getD, List.getElem?_eq_getElem hi]; rfl
  have := h.cell0 rl_ok hx 0 _ rfl
  rwa [show i * RL.m + 0 = i from by show i * 1 + 0 = i; omega] at this
section
variable {α : Type} {R : Rk α} {w : World} {base n c g : Nat} {A : Option Addr} {l : List α}
theorem Rk.Own.blk (h : R.Own w base (.slice A n c) l) (hne : l ≠ []) : ∃ g cs, A = some ⟨g, 0, none⟩ ∧ base ≤ g ∧ Bk w g cs R.e := by
  rcases h.2 with ⟨_, hn⟩ | ⟨g, cap, cur, e, hg, hh, _⟩
  · exact absurd (List.eq_nil_of_length_eq_zero hn) hne
  · injection e with e
    exact ⟨g, cur, e, hg, hh⟩
theorem Rk.Own.at_ (hR : R.Ok) (h : R.Own w base (.slice A n c) l) : R.At w A l := by
  obtain ⟨A2, c2, e, _, hat, _⟩ := h.form hR
  injection e with e
  rw [e]; exact hat
theorem Rk.cells_set (hR : R.Ok) {k : Nat} (hk : k < R.m) {v : Value} : ∀ (l : List α) (i : Nat) (x x' : α), l[i]? = some x → R.enc x' = (R.enc x).set k v → (R.cells l).set (i * R.m + k) v = R.cells (l.set i x')
  | [], i, x, x', hi, _ => by simp at hi
  | y :: l, 0, x, x', hi, he => by
    simp at hi; subst hi
    unfold Rk.cells
    rw [List.set_cons_zero, List.flatMap_cons, List.flatMap_cons, Nat.zero_mul, Nat.zero_add, List.set_append_left _ _ (by rw [hR.len]; exact hk), he]
  | y :: l, i + 1, x, x', hi, he => by
    have ih := Rk.cells_set hR hk l i x x' (by simpa using hi) he
    unfold Rk.cells at ih ⊢
    rw [List.set_cons_succ, List.flatMap_cons, List.flatMap_cons, List.set_append_right _ _ (by rw [hR.len, Nat.succ_mul]; omega), hR.len]
    have e : (i + 1) * R.m + k - R.m = i * R.m + k := by rw [Nat.succ_mul]; omega
    rw [e, ih]
/-- an element's cell stored to -/
theorem Rk.Own.set (hR : R.Ok) {k i : Nat} (hk : k < R.m) {v : Value} {x x' : α} (h : R.Own w base (.slice (some ⟨g, 0, none⟩) n c) l) (hx : l[i]? = some x) (he : R.enc x' = (R.enc x).set k v) :
    R.Own (w.setCell ⟨g, i * R.m + k, none⟩ v) base (.slice (some ⟨g, 0, none⟩) n c) (l.set i x') := by
  refine ⟨by rw [hR.length], ?_⟩
  rcases h.2 with ⟨e, _⟩ | ⟨g2, cap, cur, e, hg, hh, hnc, hcm, hcs, ht⟩
  · injection e with e; cases e
  · injection e with e1 e2 e3
    injection e1 with e1
    injection e1 with e1
    subst e1
    refine .inr ⟨g, cap, _, by rw [e2, e3, List.length_set], hg, heap_setCell_same w g _ _ _ _ hh, by rw [List.length_set]; exact hnc, hcm, by rw [Array.size_setIfInBounds]; exact hcs, ?_⟩
    rw [Array.toList_setIfInBounds, List.take_set, List.length_set, ht, Rk.cells_set hR hk l i x x' hx he]
end
/-- what a row of the call's own is, is not frozen -/
theorem Rk.Own.fr {α : Type} {R : Rk α} {w : World} {base g n c : Nat} {l : List α} (h : R.Own w base (.slice (some ⟨g, 0, none⟩) n c) l) (j : Nat) : w.frozen? ⟨g, j, none⟩ = false := by
  rcases h.2 with ⟨e, _⟩ | ⟨g2, cap, cur, e, hg, hh, _⟩
  · injection e with e; cases e
  · injection e with e1 e2 e3
    injection e1 with e1
    injection e1 with e1
    subst e1
    exact Bk.fr hh j
theorem own_bool_set {w : World} {base g n c : Nat} {l : List Bool} (h : RL.Own w base (.slice (some ⟨g, 0, none⟩) n c) l) {i : Nat} (hi : i < l.length) (b : Bool) : RL.Own (w.setCell ⟨g, i, none⟩ (.bool b)) base (.slice (some ⟨g, 0, none⟩) n c) (l.set i b) := by
  have hx : l[i]? = some (l.getD i false) := by rw [List.getD_eq_getElem?_getD, List.getElem?_eq_getElem hi]; rfl
  have := Rk.Own.set rl_ok (k := 0) (i := i) (by decide) (v := .bool b) (x' := b) h hx rfl
  rwa [show i * RL.m + 0 = i from by show i * 1 + 0 = i; omega] at this
end Go.Proofs.Ytpphhhalmccnbaa
