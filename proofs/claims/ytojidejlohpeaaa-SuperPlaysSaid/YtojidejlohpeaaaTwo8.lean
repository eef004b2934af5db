/-
  Two devices, the program's and the document's, side by side; a thing to do in a block of its own.
-/
import Derived.Test.YtojidejlohpeaaaActs8
import Derived.Test.YtojidejlohpeaaaWake8
import Derived.Test.YtojidejlohpeaaaRefLoad
import Derived.Test.YtojidejlohpeaaaRefSave
namespace Go.Proofs.Ytojidejlohpeaaa
set_option maxRecDepth 100000
open Go.RowKit Sup

/-- the blocks of both -/
def D2 (p L M q a b : Nat) (k : Nat) : Prop := DS p L M k ∨ DS q a b k

/-- 'the devices are as D and E, and all that was there when the call began is as it was' -/
structure Two (w W : World) (p L M q a b c : Nat) (D E : Dv) : Prop where
  dev : IsDev W p L M D
  ref : IsRef W q a b c E
  bel : Below w.heap.size w W
  lo : w.heap.size ≤ p ∧ w.heap.size ≤ L ∧ w.heap.size ≤ M
  lor : w.heap.size ≤ q ∧ w.heap.size ≤ a ∧ w.heap.size ≤ b
  far : (q ≠ p ∧ q ≠ L ∧ q ≠ M) ∧ (a ≠ p ∧ a ≠ L ∧ a ≠ M) ∧ (b ≠ p ∧ b ≠ L ∧ b ≠ M)

section
variable {w W V : World} {p L M q a b c : Nat} {D E D' E' : Dv}
theorem Two.loD (h : Two w W p L M q a b c D E) : ∀ k, DS p L M k → w.heap.size ≤ k := fun k hk => by rcases hk with rfl | rfl | rfl; exact h.lo.1; exact h.lo.2.1; exact h.lo.2.2
theorem Two.loR (h : Two w W p L M q a b c D E) : ∀ k, DS q a b k → w.heap.size ≤ k := fun k hk => by rcases hk with rfl | rfl | rfl; exact h.lor.1; exact h.lor.2.1; exact h.lor.2.2
theorem Two.lo2 (h : Two w W p L M q a b c D E) : ∀ k, D2 p L M q a b k → w.heap.size ≤ k := fun k hk => by rcases hk with hk | hk; exact h.loD k hk; exact h.loR k hk
theorem Two.d (h : Two w W p L M q a b c D E) (hd : IsDev V p L M D') (ht : Turn (DS p L M) W V) : Two w V p L M q a b c D' E := by
  obtain ⟨⟨f1, f2, f3⟩, ⟨f4, f5, f6⟩, f7, f8, f9⟩ := h.far
  refine ⟨hd, h.ref.turn ht ?_ ?_ ?_, h.bel.trans (ht.below h.loD h.bel.size), h.lo, h.lor, h.far⟩
  · rintro (e | e | e) <;> contradiction
  · rintro (e | e | e) <;> contradiction
  · rintro (e | e | e) <;> contradiction
theorem Two.r (h : Two w W p L M q a b c D E) (hr : IsRef V q a b c E') (ht : Turn (DS q a b) W V) : Two w V p L M q a b c D E' := by
  obtain ⟨⟨f1, f2, f3⟩, ⟨f4, f5, f6⟩, f7, f8, f9⟩ := h.far
  refine ⟨h.dev.turn ht ?_ ?_ ?_, hr, h.bel.trans (ht.below h.loR h.bel.size), h.lo, h.lor, h.far⟩
  · rintro (e | e | e) <;> exact absurd e.symm (by assumption)
  · rintro (e | e | e) <;> exact absurd e.symm (by assumption)
  · rintro (e | e | e) <;> exact absurd e.symm (by assumption)
theorem Two.below (h : Two w W p L M q a b c D E) (hb : Below W.heap.size W V) : Two w V p L M q a b c D E :=
  ⟨h.dev.turn (Turn.ofBelow (S := fun _ => False) hb) (fun h => h) (fun h => h) (fun h => h), h.ref.turn (Turn.ofBelow (S := fun _ => False) hb) (fun h => h) (fun h => h) (fun h => h), h.bel.trans (hb.mono h.bel.size), h.lo, h.lor, h.far⟩
theorem Two.firm (h : Two w W p L M q a b c D E) {A : Option Addr} {l : List UInt8} (hr : Rd w w.heap.size A l) : Firm (D2 p L M q a b) W A l := (hr.below h.bel).firm h.bel.size h.lo2
theorem Two.notNew (h : Two w W p L M q a b c D E) : ¬ D2 p L M q a b W.heap.size := fun hk => by
  have := h.dev.lt
  have := h.ref.lt
  rcases hk with (e | e | e) | (e | e | e) <;> omega
theorem BoolsAt.bools {A : Option Addr} {n : Nat} {f : Nat → Bool} (hk : BoolsAt w A n f) (hb : Below w.heap.size w W) {X : Nat → Prop} (hX : ∀ k, X k → w.heap.size ≤ k) : Bools X W A n f := by
  rcases hk with h0 | ⟨b, o, e, hl, hc⟩
  · exact .inl h0
  · refine .inr ⟨b, o, e, fun i hi V hV => ?_⟩
    have h1 : W.cell? ⟨b, o + i, none⟩ = some (.bool (f i)) := (hb.cell (p := ⟨b, o + i, none⟩) hl).trans (hc i hi)
    exact hV.cell h1 (fun hk => by have h2 := hX _ hk; have h3 : b < w.heap.size := hl; have h4 : w.heap.size ≤ b := h2; omega)
end

theorem Two.start {w W1 W2 : World} {p L M q a b c : Nat} {D E : Dv} (h : Dr w W1 p L M D) (hr : IsRef W2 q a b c E) (hb : Below W1.heap.size W1 W2) (h1 : W1.heap.size ≤ q) (h2 : W1.heap.size ≤ a) (h3 : W1.heap.size ≤ b) : Two w W2 p L M q a b c D E := by
  have h4 := h.below hb
  have h5 := h.dev.lt
  have h6 := h.bel.size
  exact ⟨h4.dev, hr, h4.bel, h.lo, ⟨by omega, by omega, by omega⟩, ⟨by omega, by omega, by omega⟩, ⟨by omega, by omega, by omega⟩, by omega, by omega, by omega⟩

/-- what is done, in a block of its own -/
def oC (x : Deed) (A : Option Addr) (ca : Nat) (K : Option Addr) (ck : Nat) : Array Value := #[.int .i64 x.what, .int .i64 x.at_, .int .i64 x.s.V, .int .i64 x.s.E, .int .i64 x.s.B, .int .i64 x.s.C, .int .i64 x.s.L, .int .i64 x.s.H, .int .i64 x.s.A, .slice A x.b.length ca, .slice K x.kn ck]
def OAt (V : World) (g : Nat) (x : Deed) (A : Option Addr) (ca : Nat) (K : Option Addr) (ck : Nat) : Prop := V.heap[g]? = some (.cells (oC x A ca K ck) 53 (0, 0))
section
variable {V V' : World} {g : Nat} {x : Deed} {A : Option Addr} {ca : Nat} {K : Option Addr} {ck : Nat}
theorem OAt.turn (h : OAt V g x A ca K ck) {S : Nat → Prop} (ht : Turn S V V') (hg : ¬ S g) : OAt V' g x A ca K ck := (ht.block g (lt_of_block h) hg).trans h
theorem OAt.below (h : OAt V g x A ca K ck) (hb : Below V.heap.size V V') : OAt V' g x A ca K ck := h.turn (S := fun _ => False) (Turn.ofBelow hb) (fun h => h)
theorem OAt.c0 (h : OAt V g x A ca K ck) : V.cell? ⟨g, 0, none⟩ = some (.int .i64 x.what) := by rw [cell_of_row _ _ _ _ _ _ h]; rfl
theorem OAt.c1 (h : OAt V g x A ca K ck) : V.cell? ⟨g, 1, none⟩ = some (.int .i64 x.at_) := by rw [cell_of_row _ _ _ _ _ _ h]; rfl
theorem OAt.c2 (h : OAt V g x A ca K ck) : V.cell? ⟨g, 2, none⟩ = some (.int .i64 x.s.V) := by rw [cell_of_row _ _ _ _ _ _ h]; rfl
theorem OAt.c3 (h : OAt V g x A ca K ck) : V.cell? ⟨g, 3, none⟩ = some (.int .i64 x.s.E) := by rw [cell_of_row _ _ _ _ _ _ h]; rfl
theorem OAt.c4 (h : OAt V g x A ca K ck) : V.cell? ⟨g, 4, none⟩ = some (.int .i64 x.s.B) := by rw [cell_of_row _ _ _ _ _ _ h]; rfl
theorem OAt.c5 (h : OAt V g x A ca K ck) : V.cell? ⟨g, 5, none⟩ = some (.int .i64 x.s.C) := by rw [cell_of_row _ _ _ _ _ _ h]; rfl
theorem OAt.c6 (h : OAt V g x A ca K ck) : V.cell? ⟨g, 6, none⟩ = some (.int .i64 x.s.L) := by rw [cell_of_row _ _ _ _ _ _ h]; rfl
theorem OAt.c7 (h : OAt V g x A ca K ck) : V.cell? ⟨g, 7, none⟩ = some (.int .i64 x.s.H) := by rw [cell_of_row _ _ _ _ _ _ h]; rfl
theorem OAt.c8 (h : OAt V g x A ca K ck) : V.cell? ⟨g, 8, none⟩ = some (.int .i64 x.s.A) := by rw [cell_of_row _ _ _ _ _ _ h]; rfl
theorem OAt.c9 (h : OAt V g x A ca K ck) : V.cell? ⟨g, 9, none⟩ = some (.slice A x.b.length ca) := by rw [cell_of_row _ _ _ _ _ _ h]; rfl
theorem OAt.c10 (h : OAt V g x A ca K ck) : V.cell? ⟨g, 10, none⟩ = some (.slice K x.kn ck) := by rw [cell_of_row _ _ _ _ _ _ h]; rfl
end

end Go.Proofs.Ytojidejlohpeaaa
