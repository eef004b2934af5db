/-
  May a note be? Image by image, op by op, as the program asks. No program.
-/
import Derived.Test.YtjpnihmijnpjcaaNo
import Derived.Test.YtjpnihmijnpjcaaNj
namespace Go.Proofs.Ytjpnihmijnpjcaa
set_option maxRecDepth 100000
set_option linter.unusedVariables false
set_option linter.unusedSimpArgs false
open Go.RowKit Wm Nn

namespace Nn
noncomputable section
open Classical

def imsOk (l : List Im) : Bool := decide (∀ j, imGood l j)
def opsOk (l : List Od) : Bool := decide (l.length ≤ 256 ∧ ∀ j, opGood l j)
theorem ims_yes {l : List Im} (h : ∀ j, imGood l j) : imsOk l = true := by unfold imsOk; simp [h]
theorem ims_no {l : List Im} {j : Nat} (h : ¬ imGood l j) : imsOk l = false := by
  unfold imsOk
  rw [decide_eq_false_iff_not]
  exact fun h2 => h (h2 j)
theorem ops_yes {l : List Od} (h : l.length ≤ 256) (h2 : ∀ j, opGood l j) : opsOk l = true := by unfold opsOk; simp [h, h2]
theorem ops_many {l : List Od} (h : 256 < l.length) : opsOk l = false := by
  unfold opsOk
  rw [decide_eq_false_iff_not]
  exact fun h2 => by have := h2.1; omega
theorem ops_no {l : List Od} {j : Nat} (h : ¬ opGood l j) : opsOk l = false := by
  unfold opsOk
  rw [decide_eq_false_iff_not]
  exact fun h2 => h (h2.2 j)
theorem rise_len {l : List Im} (h : ∀ j, imGood l j) : ∀ (j : Nat) (x : Im), l[j]? = some x → (j : Int) ≤ x.k
  | 0, x, hx => (h 0 x hx).1.1
  | j + 1, x, hx => by
    have hj := (List.getElem?_eq_some_iff.1 hx).1
    have hy : l[j]? = some (l[j]'(by omega)) := List.getElem?_eq_getElem (by omega)
    have h1 := rise_len h j _ hy
    have h2 := (h (j + 1) x hx).2.2 j _ rfl hy
    omega
theorem ims_few {l : List Im} (h : ∀ j, imGood l j) : l.length ≤ 256 := by
  rcases Nat.lt_or_ge 256 l.length with hl | hl
  · have hx : l[256]? = some (l[256]'hl) := List.getElem?_eq_getElem hl
    have h1 := rise_len h 256 _ hx
    have h2 := (h 256 _ hx).1.2
    omega
  · exact hl
theorem sane_eq {x : Nt} {b : Bool} (h : San x ↔ b = true) : sane x = b := by
  unfold sane
  cases b with
  | true => exact decide_eq_true (h.2 rfl)
  | false => exact decide_eq_false (fun h2 => by have := h.1 h2; cases this)
theorem sane_seq {x : Nt} (h : x.seq < 0 ∨ 1099511627776 < x.seq) : sane x = false := sane_eq ⟨fun hs => by have := hs.1.2.1; omega, fun h => by cases h⟩
theorem sane_kind {x : Nt} (h : x.kind ≠ 1) (h2 : x.kind ≠ 2) : sane x = false := sane_eq ⟨fun hs => by have := hs.1.1; omega, fun h => by cases h⟩
theorem sane_commit {x : Nt} (hk : x.kind = 1) (h0 : 0 ≤ x.seq) (h1 : x.seq ≤ 1099511627776) : sane x = (imsOk x.im && opsOk x.op) := by
  refine sane_eq ⟨fun hs => ?_, fun h => ?_⟩
  · rw [ims_yes hs.2.1, ops_yes hs.1.2.2.2.1 hs.2.2]; rfl
  · rw [Bool.and_eq_true] at h
    have a := of_decide_eq_true h.1
    have b := of_decide_eq_true h.2
    exact ⟨⟨.inl hk, ⟨h0, h1⟩, ims_few a, b.1, fun e => by omega⟩, a, b.2⟩
theorem sane_mark {x : Nt} (hk : x.kind = 2) (h0 : 0 ≤ x.seq) (h1 : x.seq ≤ 1099511627776) : sane x = (decide (x.im.length = 0) && decide (x.op.length = 0)) := by
  refine sane_eq ⟨fun hs => ?_, fun h => ?_⟩
  · have h2 := hs.1.2.2.2.2 hk
    rw [decide_eq_true (by omega), decide_eq_true (by omega)]; rfl
  · rw [Bool.and_eq_true] at h
    have a := of_decide_eq_true h.1
    have b := of_decide_eq_true h.2
    refine ⟨⟨.inr hk, ⟨h0, h1⟩, by omega, by omega, fun _ => by omega⟩, fun j y hy => ?_, fun j y hy => ?_⟩
    · have := (List.getElem?_eq_some_iff.1 hy).1; omega
    · have := (List.getElem?_eq_some_iff.1 hy).1; omega
end
end Nn
end Go.Proofs.Ytjpnihmijnpjcaa
