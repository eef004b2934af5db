/-
  Two devices, the program's and the document's, side by side; numbers that two lists hold.
-/
import Derived.Test.YtaidjnpbjoncoaaRefNew
import Derived.Test.YtaidjnpbjoncoaaKeepsWalk
import Derived.BigQuiet
namespace Go.Proofs.Ytaidjnpbjoncoaa
open Go.RowKit

/-- numbers that lie there -/
def NatsAt (w : World) (A : Option Addr) (l : List Nat) : Prop := l.length = 0 ∨ ∃ g, A = some ⟨g, 0, none⟩ ∧ g < w.heap.size ∧ ∀ j, j < l.length → w.cell? ⟨g, j, none⟩ = some (.int .i64 ((l.getD j 0 : Nat) : Int))
theorem NatsAt.below {w W : World} {A : Option Addr} {l : List Nat} (h : NatsAt w A l) (hb : Below w.heap.size w W) : NatsAt W A l := by
  rcases h with h | ⟨g, e, hg, hc⟩
  · exact .inl h
  · exact .inr ⟨g, e, Nat.lt_of_lt_of_le hg hb.size, fun j hj => (hb.cell (p := ⟨g, j, none⟩) hg).trans (hc j hj)⟩
theorem NatsAt.of_row {w : World} {base n cap : Nat} {A : Option Addr} {l : List Nat} (h : w.ownsRow base 3 1 (.slice A n cap) n (natV l)) (hn : n = l.length) : NatsAt w A l := by
  rcases Nat.eq_zero_or_pos l.length with h0 | h0
  · exact .inl h0
  · obtain ⟨g, e, _, hg, hc⟩ := ints_cells h (by omega)
    exact .inr ⟨g, e, hg, hc⟩

set_option maxRecDepth 100000 in
theorem ints_any (w : World) {A B : Option Addr} {n m : Nat} (ca cb : Nat) {l : List Nat} (hn : n = l.length) (hm : m = l.length) (hb : n ≤ 4096) (hA : NatsAt w A l) (hB : NatsAt w B l) : Calls Try.prog 25 #[.slice A n ca, .slice B m cb] w fun e w' => e = .returned (.bool true) ∧ Below w.heap.size w w' := by
  obtain rfl : m = n := by omega
  have HN := Lib.hid hn
  have HA := Lib.hid hA
  have HB := Lib.hid hB
  clear hn hm hA hB
  go_enter Try.func25, Try.ntmps25
  go_wp2_with fail
  go_loopw [5] (fun u wr => ∃ j : Nat, u = .int .i64 (j : Int) ∧ j ≤ m ∧ Hid (Below w.heap.size w wr)) (fun u _ => m - (intOf u).toNat)
  case atStart => exact ⟨0, rfl, by omega, Below.refl _ _⟩
  case round =>
    obtain ⟨j, rfl, hj, HW⟩ := hrel
    rcases Nat.lt_or_ge j m with hlt | hge
    · rcases HA.out with h0 | ⟨g, rfl, hg, hc⟩
      · have := HN.out; omega
      rcases HB.out with h0 | ⟨g2, rfl, hg2, hc2⟩
      · have := HN.out; omega
      have hjl : j < l.length := by have := HN.out; omega
      have k1 := (HW.out.cell (p := ⟨g, j, none⟩) hg).trans (hc j hjl)
      have k2 := (HW.out.cell (p := ⟨g2, j, none⟩) hg2).trans (hc2 j hjl)
      generalize l.getD j 0 = z at k1 k2
      have hdj : decide ((j : Int) < (m : Int)) = true := decide_eq_true (by omega)
      have hdj2 : decide (j < m) = true := decide_eq_true (by omega)
      clear hc hc2 hg hg2 hjl
      go_wp2_with fail
      go_quiet (fail)
      go_wp2_with fail
      refine ⟨⟨j + 1, by go_num, by omega, Lib.hid (below_drewN HW.out _)⟩, by simp [intOf]; omega⟩
    · obtain rfl : j = m := by omega
      have hdj : decide ((j : Int) < (j : Int)) = false := decide_eq_false (by omega)
      have hdj2 : decide (j < j) = false := decide_eq_false (by omega)
      go_wp2_with fail
      go_ret
      exact ⟨rfl, HW.out⟩

/-- the blocks of both -/
def D2 (p L M q a b : Nat) (k : Nat) : Prop := DS p L M k ∨ DS q a b k

/-- 'the devices are as D and E, and all that was there when the call began is as it was' -/
structure Two (w W : World) (p L M q a b c : Nat) (D E : Dv) : Prop where
  dev : IsDev W p L M D
  ref : IsRef W q a b c E
  bel : Below w.heap.size w W
  lo : w.heap.size ≤ p ∧ w.heap.size ≤ L ∧ w.heap.size ≤ M
  lor : w.heap.size ≤ q ∧ w.heap.size ≤ a ∧ w.heap.size ≤ b
  far : (q ≠ p ∧ q ≠ L ∧ q ≠ M) ∧ (a ≠ p ∧ a ≠ L ∧ a ≠ M) ∧ (b ≠ p ∧ b ≠ L ∧ b ≠ M)

section
variable {w W V : World} {p L M q a b c : Nat} {D E D' E' : Dv}
theorem Two.loD (h : Two w W p L M q a b c D E) : ∀ k, DS p L M k → w.heap.size ≤ k := fun k hk => by rcases hk with rfl | rfl | rfl; exact h.lo.1; exact h.lo.2.1; exact h.lo.2.2
theorem Two.loR (h : Two w W p L M q a b c D E) : ∀ k, DS q a b k → w.heap.size ≤ k := fun k hk => by rcases hk with rfl | rfl | rfl; exact h.lor.1; exact h.lor.2.1; exact h.lor.2.2
theorem Two.lo2 (h : Two w W p L M q a b c D E) : ∀ k, D2 p L M q a b k → w.heap.size ≤ k := fun k hk => by rcases hk with hk | hk; exact h.loD k hk; exact h.loR k hk
theorem Two.d (h : Two w W p L M q a b c D E) (hd : IsDev V p L M D') (ht : Turn (DS p L M) W V) : Two w V p L M q a b c D' E := by
  obtain ⟨⟨f1, f2, f3⟩, ⟨f4, f5, f6⟩, f7, f8, f9⟩ := h.far
  refine ⟨hd, h.ref.turn ht ?_ ?_ ?_, h.bel.trans (ht.below h.loD h.bel.size), h.lo, h.lor, h.far⟩
  · rintro (e | e | e) <;> contradiction
  · rintro (e | e | e) <;> contradiction
  · rintro (e | e | e) <;> contradiction
theorem Two.r (h : Two w W p L M q a b c D E) (hr : IsRef V q a b c E') (ht : Turn (DS q a b) W V) : Two w V p L M q a b c D E' := by
  obtain ⟨⟨f1, f2, f3⟩, ⟨f4, f5, f6⟩, f7, f8, f9⟩ := h.far
  refine ⟨h.dev.turn ht ?_ ?_ ?_, hr, h.bel.trans (ht.below h.loR h.bel.size), h.lo, h.lor, h.far⟩
  · rintro (e | e | e) <;> exact absurd e.symm (by assumption)
  · rintro (e | e | e) <;> exact absurd e.symm (by assumption)
  · rintro (e | e | e) <;> exact absurd e.symm (by assumption)
theorem Two.below (h : Two w W p L M q a b c D E) (hb : Below W.heap.size W V) : Two w V p L M q a b c D E :=
  ⟨h.dev.turn (Turn.ofBelow (S := fun _ => False) hb) (fun h => h) (fun h => h) (fun h => h), h.ref.turn (Turn.ofBelow (S := fun _ => False) hb) (fun h => h) (fun h => h) (fun h => h), h.bel.trans (hb.mono h.bel.size), h.lo, h.lor, h.far⟩
theorem Two.firm (h : Two w W p L M q a b c D E) {A : Option Addr} {l : List UInt8} (hr : Rd w w.heap.size A l) : Firm (D2 p L M q a b) W A l := (hr.below h.bel).firm h.bel.size h.lo2
theorem Two.notNew (h : Two w W p L M q a b c D E) : ¬ D2 p L M q a b W.heap.size := fun hk => by
  have := h.dev.lt
  have := h.ref.lt
  rcases hk with (e | e | e) | (e | e | e) <;> omega
theorem BoolsAt.bools {A : Option Addr} {n : Nat} {f : Nat → Bool} (hk : BoolsAt w A n f) (hb : Below w.heap.size w W) {X : Nat → Prop} (hX : ∀ k, X k → w.heap.size ≤ k) : Bools X W A n f := by
  rcases hk with h0 | ⟨b, o, e, hl, hc⟩
  · exact .inl h0
  · refine .inr ⟨b, o, e, fun i hi V hV => ?_⟩
    have h1 : W.cell? ⟨b, o + i, none⟩ = some (.bool (f i)) := (hb.cell (p := ⟨b, o + i, none⟩) hl).trans (hc i hi)
    exact hV.cell h1 (fun hk => by have h2 := hX _ hk; have h3 : b < w.heap.size := hl; have h4 : w.heap.size ≤ b := h2; omega)
end

end Go.Proofs.Ytaidjnpbjoncoaa
