/-
  The two logs of WalPlays, side by side in one struct: what stays when one of them turns.
-/
import Derived.Test.YtdjfahnnfhediaaGreatRef7A
import Derived.Test.YtdjfahnnfhediaaGreatRef7B
import Derived.Test.YtdjfahnnfhediaaGreatTheirs
import Derived.Test.YtdjfahnnfhediaaGreatIn7
namespace Go.Proofs.YtdjfahnnfhediaaGreat
set_option maxRecDepth 100000
open Go.RowKit Crc Wm

/-- the blocks that a deed may turn -/
def WS (z p L M m a b q x : Nat) (k : Nat) : Prop := k = z ∨ DS p L M k ∨ DS m a b k ∨ k = q ∨ k = x

/-- what the struct holds besides: what was answered at the last Open, the head and the epoch -/
structure Sl where
  e : Int
  A : Option Addr
  B : Option Addr
  n : Nat
  ca : Nat
  cb : Nat
  rs : List (Int × List UInt8)
  H : Int
  E : Int

/-- a log, where there is one -/
def lV (e : Int) (q : Nat) : Value := if e = 0 then ptr q else .pointer none
def slC (p m q x : Nat) (s : Sl) : Array Value := #[ptr p, ptr m, lV s.e q, lV s.e x, .slice s.A s.n s.ca, .slice s.B s.n s.cb, .int .i64 s.e, .int .i64 s.e, .int .i64 s.H, .int .i64 s.E]

/-- both devices, both logs, and what was told of them; all that was there in w is as it was -/
structure Wd (w W : World) (z p L M m a b c q x : Nat) (D E : Dv) (G R : Lg) (s : Sl) : Prop where
  own : W.heap[z]? = some (.cells (slC p m q x s) 38 (0, 0))
  dev : IsDev W p L M D
  ref : IsRef W m a b c E
  bel : Below w.heap.size w W
  lo : w.heap.size ≤ p ∧ w.heap.size ≤ L ∧ w.heap.size ≤ M
  mid : ∃ K, (p < K ∧ L < K ∧ M < K) ∧ (K ≤ m ∧ K ≤ a ∧ K ≤ b) ∧ (m < z ∧ a < z ∧ b < z)
  hi : (z ≤ q ∧ z ≤ x) ∧ q < W.heap.size ∧ x < W.heap.size
  log : s.e = 0 → IsLog W q p G ∧ IsRlog W x m R ∧ G.On D ∧ R.On E ∧ z < q ∧ q < x
  recs : ∀ V, Turn (WS z p L M m a b q x) W V → RsN V 0 s.A s.rs ∧ RsN V 0 s.B s.rs
  len : s.n = s.rs.length ∧ s.n ≤ 4096

section
variable {w W V : World} {z p L M m a b c q x : Nat} {D E D' E' : Dv} {G R G' R' : Lg} {s s' : Sl}
theorem Wd.loz (h : Wd w W z p L M m a b c q x D E G R s) : w.heap.size ≤ m ∧ w.heap.size ≤ a ∧ w.heap.size ≤ b ∧ w.heap.size ≤ z := by
  obtain ⟨K, h1, h2, h3⟩ := h.mid
  have := h.lo
  omega
theorem Wd.loW (h : Wd w W z p L M m a b c q x D E G R s) : ∀ k, WS z p L M m a b q x k → w.heap.size ≤ k := fun k hk => by
  have h1 := h.loz
  have h2 := h.lo
  have h3 := h.hi
  rcases hk with rfl | (rfl | rfl | rfl) | (rfl | rfl | rfl) | rfl | rfl <;> omega
theorem Wd.ltW (h : Wd w W z p L M m a b c q x D E G R s) : ∀ k, WS z p L M m a b q x k → k < W.heap.size := fun k hk => by
  have h3 := h.hi
  have h4 := h.dev.lt
  have h5 := h.ref.lt
  rcases hk with rfl | (rfl | rfl | rfl) | (rfl | rfl | rfl) | rfl | rfl <;> omega
theorem Wd.notNew (h : Wd w W z p L M m a b c q x D E G R s) : ¬ WS z p L M m a b q x W.heap.size := fun hk => Nat.lt_irrefl _ (h.ltW _ hk)
theorem Wd.dr (h : Wd w W z p L M m a b c q x D E G R s) : Dr w W p L M D := ⟨h.dev, h.bel, h.lo⟩

/-- one step: what turned is what may -/
theorem Wd.step (h : Wd w W z p L M m a b c q x D E G R s) (ht : Turn (WS z p L M m a b q x) W V) (ho : V.heap[z]? = some (.cells (slC p m q x s') 38 (0, 0))) (hd : IsDev V p L M D') (hr : IsRef V m a b c E')
    (hl : s'.e = 0 → IsLog V q p G' ∧ IsRlog V x m R' ∧ G'.On D' ∧ R'.On E' ∧ z < q ∧ q < x) (hs : s'.A = s.A ∧ s'.B = s.B ∧ s'.rs = s.rs ∧ s'.n = s.n) : Wd w V z p L M m a b c q x D' E' G' R' s' := by
  obtain ⟨e1, e2, e3, e4⟩ := hs
  refine ⟨ho, hd, hr, h.bel.trans (ht.below h.loW h.bel.size), h.lo, h.mid, ⟨h.hi.1, Nat.lt_of_lt_of_le h.hi.2.1 ht.size, Nat.lt_of_lt_of_le h.hi.2.2 ht.size⟩, hl, fun U hU => ?_, ?_⟩
  · rw [e1, e2, e3]
    exact h.recs U (ht.trans hU)
  · rw [e3, e4]
    exact h.len
theorem Wd.below (h : Wd w W z p L M m a b c q x D E G R s) (hb : Below W.heap.size W V) : Wd w V z p L M m a b c q x D E G R s := by
  refine h.step (Turn.ofBelow hb) ((hb.block z (h.ltW z (.inl rfl))).trans h.own) ?_ ?_ (fun he => ?_) ⟨rfl, rfl, rfl, rfl⟩
  · exact h.dev.turn (Turn.ofBelow (S := fun _ => False) hb) (fun h => h) (fun h => h) (fun h => h)
  · exact h.ref.turn (Turn.ofBelow (S := fun _ => False) hb) (fun h => h) (fun h => h) (fun h => h)
  · obtain ⟨h1, h2, h3⟩ := h.log he
    exact ⟨h1.below hb, h2.below hb, h3⟩
/-- the program's device turns -/
theorem Wd.d (h : Wd w W z p L M m a b c q x D E G R s) (hd : IsDev V p L M D') (ht : Turn (DS p L M) W V) (hn : D'.n = D.n) : Wd w V z p L M m a b c q x D' E G R s := by
  obtain ⟨K, h1, h2, h3⟩ := h.mid
  refine h.step (ht.mono fun k hk => .inr (.inl hk)) ((ht.block z (h.ltW z (.inl rfl)) (by rintro (e | e | e) <;> omega)).trans h.own) hd (h.ref.turn ht (by rintro (e | e | e) <;> omega) (by rintro (e | e | e) <;> omega) (by rintro (e | e | e) <;> omega)) (fun he => ?_) ⟨rfl, rfl, rfl, rfl⟩
  obtain ⟨k1, k2, k3, k4, k5, k6⟩ := h.log he
  exact ⟨k1.turn ht (by rintro (e | e | e) <;> omega), k2.turn ht (by rintro (e | e | e) <;> omega), k3.dev hn, k4, k5, k6⟩
/-- the document's device turns -/
theorem Wd.r (h : Wd w W z p L M m a b c q x D E G R s) (hr : IsRef V m a b c E') (ht : Turn (DS m a b) W V) (hn : E'.n = E.n) : Wd w V z p L M m a b c q x D E' G R s := by
  obtain ⟨K, h1, h2, h3⟩ := h.mid
  refine h.step (ht.mono fun k hk => .inr (.inr (.inl hk))) ((ht.block z (h.ltW z (.inl rfl)) (by rintro (e | e | e) <;> omega)).trans h.own) (h.dev.turn ht (by rintro (e | e | e) <;> omega) (by rintro (e | e | e) <;> omega) (by rintro (e | e | e) <;> omega)) hr (fun he => ?_) ⟨rfl, rfl, rfl, rfl⟩
  obtain ⟨k1, k2, k3, k4, k5, k6⟩ := h.log he
  exact ⟨k1.turn ht (by rintro (e | e | e) <;> omega), k2.turn ht (by rintro (e | e | e) <;> omega), k3, k4.dev hn, k5, k6⟩
/-- the program's log turns, and its device -/
theorem Wd.l (h : Wd w W z p L M m a b c q x D E G R s) (he : s.e = 0) (hl : IsLog V q p G') (hd : IsDev V p L M D') (ht : Turn (LS q p L M) W V) (hon : G'.On D') : Wd w V z p L M m a b c q x D' E G' R s := by
  obtain ⟨K, h1, h2, h3⟩ := h.mid
  obtain ⟨k1, k2, k3, k4, k5, k6⟩ := h.log he
  refine h.step (ht.mono fun k hk => ?_) ((ht.block z (h.ltW z (.inl rfl)) (by rintro ((e | e | e) | e) <;> omega)).trans h.own) hd (h.ref.turn ht (by rintro ((e | e | e) | e) <;> omega) (by rintro ((e | e | e) | e) <;> omega) (by rintro ((e | e | e) | e) <;> omega)) (fun he => ?_) ⟨rfl, rfl, rfl, rfl⟩
  · rcases hk with hk | hk
    · exact .inr (.inl hk)
    · exact .inr (.inr (.inr (.inl hk)))
  · exact ⟨hl, k2.turn ht (by rintro ((e | e | e) | e) <;> omega), hon, k4, k5, k6⟩
/-- the document's log turns, and its device -/
theorem Wd.lx (h : Wd w W z p L M m a b c q x D E G R s) (he : s.e = 0) (hl : IsRlog V x m R') (hr : IsRef V m a b c E') (ht : Turn (LS x m a b) W V) (hon : R'.On E') : Wd w V z p L M m a b c q x D E' G R' s := by
  obtain ⟨K, h1, h2, h3⟩ := h.mid
  obtain ⟨k1, k2, k3, k4, k5, k6⟩ := h.log he
  refine h.step (ht.mono fun k hk => ?_) ((ht.block z (h.ltW z (.inl rfl)) (by rintro ((e | e | e) | e) <;> omega)).trans h.own) (h.dev.turn ht (by rintro ((e | e | e) | e) <;> omega) (by rintro ((e | e | e) | e) <;> omega) (by rintro ((e | e | e) | e) <;> omega)) hr (fun he => ?_) ⟨rfl, rfl, rfl, rfl⟩
  · rcases hk with hk | hk
    · exact .inr (.inr (.inl hk))
    · exact .inr (.inr (.inr (.inr hk)))
  · exact ⟨k1.turn ht (by rintro ((e | e | e) | e) <;> omega), hl, k3, hon, k5, k6⟩

theorem Wd.c0 (h : Wd w W z p L M m a b c q x D E G R s) : W.cell? ⟨z, 0, none⟩ = some (ptr p) := by rw [cell_of_row _ _ _ _ _ _ h.own]; rfl
theorem Wd.c1 (h : Wd w W z p L M m a b c q x D E G R s) : W.cell? ⟨z, 1, none⟩ = some (ptr m) := by rw [cell_of_row _ _ _ _ _ _ h.own]; rfl
theorem Wd.c2 (h : Wd w W z p L M m a b c q x D E G R s) (he : s.e = 0) : W.cell? ⟨z, 2, none⟩ = some (ptr q) := by rw [cell_of_row _ _ _ _ _ _ h.own]; show some (lV s.e q) = _; unfold lV; rw [if_pos he]
theorem Wd.c3 (h : Wd w W z p L M m a b c q x D E G R s) (he : s.e = 0) : W.cell? ⟨z, 3, none⟩ = some (ptr x) := by rw [cell_of_row _ _ _ _ _ _ h.own]; show some (lV s.e x) = _; unfold lV; rw [if_pos he]
theorem Wd.c2n (h : Wd w W z p L M m a b c q x D E G R s) (he : s.e ≠ 0) : W.cell? ⟨z, 2, none⟩ = some (.pointer none) := by rw [cell_of_row _ _ _ _ _ _ h.own]; show some (lV s.e q) = _; unfold lV; rw [if_neg he]
theorem Wd.c4 (h : Wd w W z p L M m a b c q x D E G R s) : W.cell? ⟨z, 4, none⟩ = some (.slice s.A s.n s.ca) := by rw [cell_of_row _ _ _ _ _ _ h.own]; rfl
theorem Wd.c5 (h : Wd w W z p L M m a b c q x D E G R s) : W.cell? ⟨z, 5, none⟩ = some (.slice s.B s.n s.cb) := by rw [cell_of_row _ _ _ _ _ _ h.own]; rfl
theorem Wd.c6 (h : Wd w W z p L M m a b c q x D E G R s) : W.cell? ⟨z, 6, none⟩ = some (.int .i64 s.e) := by rw [cell_of_row _ _ _ _ _ _ h.own]; rfl
theorem Wd.c7 (h : Wd w W z p L M m a b c q x D E G R s) : W.cell? ⟨z, 7, none⟩ = some (.int .i64 s.e) := by rw [cell_of_row _ _ _ _ _ _ h.own]; rfl
theorem Wd.c8 (h : Wd w W z p L M m a b c q x D E G R s) : W.cell? ⟨z, 8, none⟩ = some (.int .i64 s.H) := by rw [cell_of_row _ _ _ _ _ _ h.own]; rfl
theorem Wd.c9 (h : Wd w W z p L M m a b c q x D E G R s) : W.cell? ⟨z, 9, none⟩ = some (.int .i64 s.E) := by rw [cell_of_row _ _ _ _ _ _ h.own]; rfl
theorem Wd.k2 (h : Wd w W z p L M m a b c q x D E G R s) : W.cell? ⟨z, 2, none⟩ = some (lV s.e q) := by rw [cell_of_row _ _ _ _ _ _ h.own]; rfl
theorem Wd.k3 (h : Wd w W z p L M m a b c q x D E G R s) : W.cell? ⟨z, 3, none⟩ = some (lV s.e x) := by rw [cell_of_row _ _ _ _ _ _ h.own]; rfl
theorem Wd.fr (h : Wd w W z p L M m a b c q x D E G R s) (i : Nat) : W.frozen? ⟨z, i, none⟩ = false := frozen_of_row _ _ _ _ _ h.own

/-- the struct's own turn -/
theorem Wd.lz (h : Wd w W z p L M m a b c q x D E G R s) (ho : V.heap[z]? = some (.cells (slC p m q x s') 38 (0, 0))) (ht : Turn (· = z) W V) (hs : s'.A = s.A ∧ s'.B = s.B ∧ s'.rs = s.rs ∧ s'.n = s.n ∧ s'.e = s.e) : Wd w V z p L M m a b c q x D E G R s' := by
  obtain ⟨K, h1, h2, h3⟩ := h.mid
  obtain ⟨e1, e2, e3, e4, e5⟩ := hs
  refine h.step (ht.mono fun k hk => .inl hk) ho (h.dev.turn ht (by show ¬ p = z; omega) (by show ¬ L = z; omega) (by show ¬ M = z; omega)) (h.ref.turn ht (by show ¬ m = z; omega) (by show ¬ a = z; omega) (by show ¬ b = z; omega)) (fun he => ?_) ⟨e1, e2, e3, e4⟩
  obtain ⟨k1, k2, k3, k4, k5, k6⟩ := h.log (by rw [← e5]; exact he)
  exact ⟨k1.turn ht (by show ¬ q = z; omega), k2.turn ht (by show ¬ x = z; omega), k3, k4, k5, k6⟩
theorem Wd.head (h : Wd w W z p L M m a b c q x D E G R s) (t : Int) : Wd w (W.setCell ⟨z, 8, none⟩ (.int .i64 t)) z p L M m a b c q x D E G R { s with H := t } :=
  h.lz (heap_setCell_same _ _ _ _ _ _ h.own) ((Turn.refl _ _).setCell ⟨z, 8, none⟩ _ (.inl rfl)) ⟨rfl, rfl, rfl, rfl, rfl⟩
theorem Wd.epoch (h : Wd w W z p L M m a b c q x D E G R s) (t : Int) : Wd w (W.setCell ⟨z, 9, none⟩ (.int .i64 t)) z p L M m a b c q x D E G R { s with E := t } :=
  h.lz (heap_setCell_same _ _ _ _ _ _ h.own) ((Turn.refl _ _).setCell ⟨z, 9, none⟩ _ (.inl rfl)) ⟨rfl, rfl, rfl, rfl, rfl⟩

/-- bytes, and bools, that came in -/
theorem Wd.firm (h : Wd w W z p L M m a b c q x D E G R s) {A : Option Addr} {l : List UInt8} (hr : Rd w w.heap.size A l) : Firm (WS z p L M m a b q x) W A l := (hr.below h.bel).firm h.bel.size h.loW
theorem Wd.bools (h : Wd w W z p L M m a b c q x D E G R s) {A : Option Addr} {n : Nat} {f : Nat → Bool} (hk : BoolsAt w A n f) : Bools (WS z p L M m a b q x) W A n f := by
  rcases hk with h0 | ⟨b', o, e, hl, hc⟩
  · exact .inl h0
  · refine .inr ⟨b', o, e, fun i hi V hV => ?_⟩
    have h1 : W.cell? ⟨b', o + i, none⟩ = some (.bool (f i)) := (h.bel.cell (p := ⟨b', o + i, none⟩) hl).trans (hc i hi)
    exact hV.cell h1 (fun hk => by have h2 := h.loW _ hk; have h3 : b' < w.heap.size := hl; have h4 : w.heap.size ≤ b' := h2; omega)
end

theorem Turn.cut {X : Nat → Prop} {W V : World} (h : Turn X W V) : Turn (fun k => X k ∧ k < W.heap.size) W V := ⟨h.os, h.tape, h.output, h.size, fun k hk hn => h.block k hk fun hx => hn ⟨hx, hk⟩⟩

/-- both devices, and a struct that holds them, a head and an epoch: what an Open finds -/
structure Wo (w W : World) (z p L M m a b c : Nat) (D : Dv) (H E : Int) : Prop where
  own : ∃ l2 l3 a4 b5 e6 f7, W.heap[z]? = some (.cells #[ptr p, ptr m, l2, l3, a4, b5, e6, f7, .int .i64 H, .int .i64 E] 38 (0, 0))
  dev : IsDev W p L M D
  ref : IsRef W m a b c D
  bel : Below w.heap.size w W
  lo : w.heap.size ≤ p ∧ w.heap.size ≤ L ∧ w.heap.size ≤ M
  mid : ∃ K, (p < K ∧ L < K ∧ M < K) ∧ (K ≤ m ∧ K ≤ a ∧ K ≤ b) ∧ (m < z ∧ a < z ∧ b < z)
theorem Wd.wo {w W : World} {z p L M m a b c q x : Nat} {D : Dv} {G R : Lg} {s : Sl} (h : Wd w W z p L M m a b c q x D D G R s) : Wo w W z p L M m a b c D s.H s.E := ⟨⟨_, _, _, _, _, _, h.own⟩, h.dev, h.ref, h.bel, h.lo, h.mid⟩
section
variable {w W V : World} {z p L M m a b c : Nat} {D : Dv} {H E : Int}
theorem Wo.ltz (h : Wo w W z p L M m a b c D H E) : z < W.heap.size := by obtain ⟨_, _, _, _, _, _, h⟩ := h.own; exact lt_of_block h
theorem Wo.loz (h : Wo w W z p L M m a b c D H E) : w.heap.size ≤ m ∧ w.heap.size ≤ a ∧ w.heap.size ≤ b ∧ w.heap.size ≤ z := by
  obtain ⟨K, h1, h2, h3⟩ := h.mid
  have := h.lo
  omega
theorem Wo.below (h : Wo w W z p L M m a b c D H E) (hb : Below W.heap.size W V) : Wo w V z p L M m a b c D H E := by
  obtain ⟨l2, l3, a4, b5, e6, f7, ho⟩ := h.own
  exact ⟨⟨l2, l3, a4, b5, e6, f7, (hb.block z h.ltz).trans ho⟩, h.dev.turn (Turn.ofBelow (S := fun _ => False) hb) (fun h => h) (fun h => h) (fun h => h), h.ref.turn (Turn.ofBelow (S := fun _ => False) hb) (fun h => h) (fun h => h) (fun h => h), h.bel.trans (hb.mono h.bel.size), h.lo, h.mid⟩
theorem Wo.c0 (h : Wo w W z p L M m a b c D H E) : W.cell? ⟨z, 0, none⟩ = some (ptr p) := by obtain ⟨_, _, _, _, _, _, h⟩ := h.own; rw [cell_of_row _ _ _ _ _ _ h]; rfl
theorem Wo.c1 (h : Wo w W z p L M m a b c D H E) : W.cell? ⟨z, 1, none⟩ = some (ptr m) := by obtain ⟨_, _, _, _, _, _, h⟩ := h.own; rw [cell_of_row _ _ _ _ _ _ h]; rfl
theorem Wo.c8 (h : Wo w W z p L M m a b c D H E) : W.cell? ⟨z, 8, none⟩ = some (.int .i64 H) := by obtain ⟨_, _, _, _, _, _, h⟩ := h.own; rw [cell_of_row _ _ _ _ _ _ h]; rfl
theorem Wo.c9 (h : Wo w W z p L M m a b c D H E) : W.cell? ⟨z, 9, none⟩ = some (.int .i64 E) := by obtain ⟨_, _, _, _, _, _, h⟩ := h.own; rw [cell_of_row _ _ _ _ _ _ h]; rfl
theorem Wo.fr (h : Wo w W z p L M m a b c D H E) (i : Nat) : W.frozen? ⟨z, i, none⟩ = false := by obtain ⟨_, _, _, _, _, _, h⟩ := h.own; exact frozen_of_row _ _ _ _ _ h
theorem Wo.six (h : Wo w W z p L M m a b c D H E) : ∃ l2 l3 a4 b5 e6 f7, W.cell? ⟨z, 2, none⟩ = some l2 ∧ W.cell? ⟨z, 3, none⟩ = some l3 ∧ W.cell? ⟨z, 4, none⟩ = some a4 ∧ W.cell? ⟨z, 5, none⟩ = some b5 ∧ W.cell? ⟨z, 6, none⟩ = some e6 ∧ W.cell? ⟨z, 7, none⟩ = some f7 := by
  obtain ⟨l2, l3, a4, b5, e6, f7, ho⟩ := h.own
  refine ⟨l2, l3, a4, b5, e6, f7, ?_, ?_, ?_, ?_, ?_, ?_⟩ <;> (rw [cell_of_row _ _ _ _ _ _ ho]; rfl)
end

/-- both were opened: there is a log -/
theorem Wo.opened {w W V1 V2 : World} {z p L M m a b c q x : Nat} {D : Dv} {H E : Int} (h : Wo w W z p L M m a b c D H E) {F S t t' : Int} {rs rs' : List (Int × List UInt8)} {A B : Option Addr} {n ca n' cb : Nat} (ho : openE D F S H E = 0)
    (h1 : n = rs.length) (h2 : n ≤ 4096) (h3 : RsN V1 (q + 1) A rs) (h4 : Fnd (ringL D ⟨F, S, H, H⟩) H E rs t) (h5 : IsLog V1 q p ⟨⟨F, S, H, t⟩, E, t, false⟩) (h6 : Below W.heap.size W V1) (h7 : W.heap.size ≤ q)
    (k1 : n' = rs'.length) (k3 : RsN V2 (x + 1) B rs') (k4 : Fnd (ringL D ⟨F, S, H, H⟩) H E rs' t') (k5 : IsRlog V2 x m ⟨⟨F, S, H, t'⟩, E, t', false⟩) (k6 : Below V1.heap.size V1 V2) (k7 : V1.heap.size ≤ x) :
    n' = n ∧ ∃ U, U = (((((V2.setCell ⟨z, 2, none⟩ (ptr q)).setCell ⟨z, 4, none⟩ (.slice A n ca)).setCell ⟨z, 6, none⟩ (.int .i64 0)).setCell ⟨z, 3, none⟩ (ptr x)).setCell ⟨z, 5, none⟩ (.slice B n cb)).setCell ⟨z, 7, none⟩ (.int .i64 0) ∧
      Wd w U z p L M m a b c q x D D ⟨⟨F, S, H, t⟩, E, t, false⟩ ⟨⟨F, S, H, t⟩, E, t, false⟩ ⟨0, A, B, n, ca, cb, rs, H, E⟩ := by
  obtain ⟨e1, e2⟩ := h4.det k4
  subst e1 e2
  have hnn : n' = n := by rw [k1, h1]
  subst hnn
  refine ⟨rfl, _, rfl, ?_⟩
  obtain ⟨K, m1, m2, m3⟩ := h.mid
  have hW1 : W.heap.size ≤ V1.heap.size := h6.size
  have hq1 : q < V1.heap.size := h5.lt
  have hx2 : x < V2.heap.size := k5.lt
  have hz : z < W.heap.size := h.ltz
  have hv2 : Wo w V2 z p L M m a b c D H E := (h.below h6).below k6
  obtain ⟨l2, l3, a4, b5, e6, f7, hown⟩ := hv2.own
  have hon : (Lg.mk ⟨F, S, H, t⟩ E t false).On D := by
    have hgn : D.gone = false := by
      cases hgn : D.gone with
      | false => rfl
      | true => unfold openE at ho; rw [if_pos hgn] at ho; exact absurd ho (by decide)
    have hon : 0 ≤ F ∧ 1 ≤ S ∧ F + S ≤ D.n ∧ 0 ≤ H ∧ H ≤ 1099511627776 ∧ 1 ≤ E ∧ E ≤ 4294967295 := by
      unfold openE at ho
      rw [hgn, if_neg Bool.false_ne_true] at ho
      split at ho
      · next h => exact h
      · exact absurd ho (by decide)
    have htop := h.dev.ok.top
    have hin := h4.in_ hon.2.2.2.2.1
    have hlen : ((ringL D ⟨F, S, H, H⟩).length : Int) = S := by
      rw [length_ringL]
      show ((S.toNat : Nat) : Int) = S
      omega
    exact ⟨⟨hon.1, by show F ≤ 4096; omega, hon.2.1, by show S ≤ 4096; omega, hon.2.2.2.1, by show H ≤ t; omega, by show t ≤ 1099511627776; omega, by show t - H ≤ S; omega⟩, hon.2.2.1, ⟨hon.2.2.2.2.2.1, hon.2.2.2.2.2.2⟩, ⟨by show 0 ≤ t; omega, by show t ≤ 1099511627776; omega⟩⟩
  have hT : Turn (· = z) V2 ((((((V2.setCell ⟨z, 2, none⟩ (ptr q)).setCell ⟨z, 4, none⟩ (.slice A n' ca)).setCell ⟨z, 6, none⟩ (.int .i64 0)).setCell ⟨z, 3, none⟩ (ptr x)).setCell ⟨z, 5, none⟩ (.slice B n' cb)).setCell ⟨z, 7, none⟩ (.int .i64 0)) :=
    ((((((Turn.refl (· = z) V2).setCell ⟨z, 2, none⟩ _ (.inl rfl)).setCell ⟨z, 4, none⟩ _ (.inl rfl)).setCell ⟨z, 6, none⟩ _ (.inl rfl)).setCell ⟨z, 3, none⟩ _ (.inl rfl)).setCell ⟨z, 5, none⟩ _ (.inl rfl)).setCell ⟨z, 7, none⟩ _ (.inl rfl)
  have hO := heap_setCell_same _ z 7 _ _ (.int .i64 0) (heap_setCell_same _ z 5 _ _ (.slice B n' cb) (heap_setCell_same _ z 3 _ _ (ptr x) (heap_setCell_same _ z 6 _ _ (.int .i64 0) (heap_setCell_same _ z 4 _ _ (.slice A n' ca) (heap_setCell_same _ z 2 _ _ (ptr q) hown)))))
  generalize ((((((V2.setCell ⟨z, 2, none⟩ (ptr q)).setCell ⟨z, 4, none⟩ (.slice A n' ca)).setCell ⟨z, 6, none⟩ (.int .i64 0)).setCell ⟨z, 3, none⟩ (ptr x)).setCell ⟨z, 5, none⟩ (.slice B n' cb)).setCell ⟨z, 7, none⟩ (.int .i64 0)) = U at *
  refine ⟨hO, hv2.dev.turn hT (by show ¬ p = z; omega) (by show ¬ L = z; omega) (by show ¬ M = z; omega), hv2.ref.turn hT (by show ¬ m = z; omega) (by show ¬ a = z; omega) (by show ¬ b = z; omega), hv2.bel.trans (hT.below (fun k hk => by have := h.loz; show _ ≤ k; rw [show k = z from hk]; exact this.2.2.2) hv2.bel.size), h.lo, h.mid, ⟨by omega, Nat.lt_of_lt_of_le (by have := k6.size; omega) hT.size, Nat.lt_of_lt_of_le hx2 hT.size⟩, fun _ => ⟨(h5.below k6).turn hT (by show ¬ q = z; omega), k5.turn hT (by show ¬ x = z; omega), hon, hon, by omega, by omega⟩, fun U' hU => ?_, ⟨h1, h2⟩⟩
  have hTz : Turn (WS z p L M m a b q x) V2 U' := (hT.mono fun k hk => .inl hk).trans hU
  have hdl := h.dev.lt
  constructor
  · refine (RsN.turn h3 (((Turn.ofBelow (S := WS z p L M m a b q x) k6).trans hTz).cut) (fun k hk => ?_)).le (Nat.zero_le _)
    obtain ⟨hk, hlt⟩ := hk
    rcases hk with rfl | (rfl | rfl | rfl) | (rfl | rfl | rfl) | rfl | rfl <;> omega
  · refine (RsN.turn k3 hTz (fun k hk => ?_)).le (Nat.zero_le _)
    rcases hk with rfl | (rfl | rfl | rfl) | (rfl | rfl | rfl) | rfl | rfl <;> omega

/-- both were opened: there is none -/
theorem Wo.shut {w W V2 : World} {z p L M m a b c : Nat} {D : Dv} {H E : Int} (h : Wo w W z p L M m a b c D H E) (G0 : Lg) {e : Int} (he : e ≠ 0) (h6 : Below W.heap.size W V2) : ∃ U, U = (((((V2.setCell ⟨z, 2, none⟩ (.pointer none)).setCell ⟨z, 4, none⟩ (.slice none 0 0)).setCell ⟨z, 6, none⟩ (.int .i64 e)).setCell ⟨z, 3, none⟩ (.pointer none)).setCell ⟨z, 5, none⟩ (.slice none 0 0)).setCell ⟨z, 7, none⟩ (.int .i64 e) ∧
      Wd w U z p L M m a b c z z D D G0 G0 ⟨e, none, none, 0, 0, 0, [], H, E⟩ := by
  refine ⟨_, rfl, ?_⟩
  obtain ⟨K, m1, m2, m3⟩ := h.mid
  have hz : z < W.heap.size := h.ltz
  have hv2 : Wo w V2 z p L M m a b c D H E := h.below h6
  obtain ⟨l2, l3, a4, b5, e6, f7, hown⟩ := hv2.own
  have hz2 : z < V2.heap.size := hv2.ltz
  have hT : Turn (· = z) V2 ((((((V2.setCell ⟨z, 2, none⟩ (.pointer none)).setCell ⟨z, 4, none⟩ (.slice none 0 0)).setCell ⟨z, 6, none⟩ (.int .i64 e)).setCell ⟨z, 3, none⟩ (.pointer none)).setCell ⟨z, 5, none⟩ (.slice none 0 0)).setCell ⟨z, 7, none⟩ (.int .i64 e)) :=
    ((((((Turn.refl (· = z) V2).setCell ⟨z, 2, none⟩ _ (.inl rfl)).setCell ⟨z, 4, none⟩ _ (.inl rfl)).setCell ⟨z, 6, none⟩ _ (.inl rfl)).setCell ⟨z, 3, none⟩ _ (.inl rfl)).setCell ⟨z, 5, none⟩ _ (.inl rfl)).setCell ⟨z, 7, none⟩ _ (.inl rfl)
  have hO := heap_setCell_same _ z 7 _ _ (.int .i64 e) (heap_setCell_same _ z 5 _ _ (.slice none 0 0) (heap_setCell_same _ z 3 _ _ (.pointer none) (heap_setCell_same _ z 6 _ _ (.int .i64 e) (heap_setCell_same _ z 4 _ _ (.slice none 0 0) (heap_setCell_same _ z 2 _ _ (.pointer none) hown)))))
  generalize ((((((V2.setCell ⟨z, 2, none⟩ (.pointer none)).setCell ⟨z, 4, none⟩ (.slice none 0 0)).setCell ⟨z, 6, none⟩ (.int .i64 e)).setCell ⟨z, 3, none⟩ (.pointer none)).setCell ⟨z, 5, none⟩ (.slice none 0 0)).setCell ⟨z, 7, none⟩ (.int .i64 e)) = U at *
  have hl : lV e z = .pointer none := by unfold lV; rw [if_neg he]
  refine ⟨?_, hv2.dev.turn hT (by show ¬ p = z; omega) (by show ¬ L = z; omega) (by show ¬ M = z; omega), hv2.ref.turn hT (by show ¬ m = z; omega) (by show ¬ a = z; omega) (by show ¬ b = z; omega), hv2.bel.trans (hT.below (fun k hk => by have := h.loz; show _ ≤ k; rw [show k = z from hk]; exact this.2.2.2) hv2.bel.size), h.lo, h.mid, ⟨⟨Nat.le_refl _, Nat.le_refl _⟩, Nat.lt_of_lt_of_le hz2 hT.size, Nat.lt_of_lt_of_le hz2 hT.size⟩, fun h0 => absurd h0 he, fun U' hU => ⟨.inl rfl, .inl rfl⟩, ⟨rfl, Nat.zero_le _⟩⟩
  have e1 : slC p m z z ⟨e, none, none, 0, 0, 0, [], H, E⟩ = #[ptr p, ptr m, .pointer none, .pointer none, .slice none 0 0, .slice none 0 0, .int .i64 e, .int .i64 e, .int .i64 H, .int .i64 E] := by unfold slC; rw [hl]
  rw [e1]
  exact hO

end Go.Proofs.YtdjfahnnfhediaaGreat

namespace Go.Proofs.YtdjfahnnfhediaaGreat
set_option maxRecDepth 100000
open Go.RowKit Crc Wm

/-- both were opened -/
def WOpenOut (w : World) (z p L M m a b c : Nat) (D : Dv) (H E : Int) (e : Ending) (V : World) : Prop :=
  e = .returned (.tuple #[]) ∧ ∃ q x G s, Wd w V z p L M m a b c q x D D G G s ∧ s.H = H ∧ s.E = E

theorem wopen_any {w W : World} {z p L M m a b c : Nat} {D : Dv} {sH sE : Int} (h : Wo w W z p L M m a b c D sH sE) (F S : Int) :
    Calls Tryz.prog 8 #[ptr z, .int .i64 F, .int .i64 S] W (WOpenOut w z p L M m a b c D sH sE) := by
  have HW := Lib.hid h
  have HOUT : Hid (∀ V, (∃ q x G s', Wd w V z p L M m a b c q x D D G G s' ∧ s'.H = sH ∧ s'.E = sE) → WOpenOut w z p L M m a b c D sH sE (.returned (.tuple #[])) V) := fun V hV => ⟨rfl, hV⟩
  have v0 : ∀ V, Since W V → V.cell? ⟨z, 0, none⟩ = some (ptr p) := fun V hV => (h.below hV).c0
  have v8 : ∀ V, Since W V → V.cell? ⟨z, 8, none⟩ = some (.int .i64 sH) := fun V hV => (h.below hV).c8
  have v9 : ∀ V, Since W V → V.cell? ⟨z, 9, none⟩ = some (.int .i64 sE) := fun V hV => (h.below hV).c9
  by_cases ho : openE D F S sH sE = 0
  · have HO := Lib.hid ho
    have HP1 : Hid (∀ V, Since W V → Calls Tryz.prog 11 #[ptr p, .int .i64 F, .int .i64 S, .int .i64 sH, .int .i64 sE] V (OpenOut V p D F S sH sE)) := fun V hV => open_yes (h.below hV).dev F S sH sE HO.out
    have HP2 : Hid (∀ V, Since W V → Calls Tryz.prog 15 #[ptr m, .int .i64 F, .int .i64 S, .int .i64 sH, .int .i64 sE] V (ROpenOut V m D F S sH sE)) := fun V hV => refopen_yes (h.below hV).ref F S sH sE HO.out
    have HOP := Lib.hid (fun (V1 V2 : World) (q' x' : Nat) (t t' : Int) (rs rs' : List (Int × List UInt8)) (A B : Option Addr) (n ca n' cb : Nat) => @Wo.opened w W V1 V2 z p L M m a b c q' x' D sH sE HW.out F S t t' rs rs' A B n ca n' cb HO.out)
    clear h ho
    go_enter Tryz.func8, Tryz.ntmps8
    go_upto_region 0 with fail
    refine wp_region_since (by kernel_rfl) ?_
    have hS : Since W (World.drew W) := (Below.refl _ _).drew
    refine wpAnyH_take (i := 0) (oi := ⟨some 13, _, _, _, _, _⟩) (v := ?_) rfl (by kernel_rfl) (by kernel_rfl) (by kernel_rfl) (fun _ _ _ h => h) (Or.inl ⟨by rfl, ?_⟩) hS ?_
    rotate_left
    · intro W hW; go_simp; with_reducible rfl
    try simp only [Act.put, List.setIfInBounds_toArray, List.set_cons_zero, List.set_cons_succ]
    refine wpAnyH_take (i := 1) (oi := ⟨some 14, _, _, _, _, _⟩) (v := ?_) rfl (by kernel_rfl) (by kernel_rfl) (by kernel_rfl) (fun _ _ _ h => h) (Or.inl ⟨by rfl, ?_⟩) hS ?_
    rotate_left
    · intro W hW; go_simp; with_reducible rfl
    try simp only [Act.put, List.setIfInBounds_toArray, List.set_cons_zero, List.set_cons_succ]
    refine wpAnyH_take (i := 2) (oi := ⟨some 15, _, _, _, _, _⟩) (v := ?_) rfl (by kernel_rfl) (by kernel_rfl) (by kernel_rfl) (fun _ _ _ h => h) (Or.inl ⟨by rfl, ?_⟩) hS ?_
    rotate_left
    · intro W hW; go_simp; with_reducible rfl
    try simp only [Act.put, List.setIfInBounds_toArray, List.set_cons_zero, List.set_cons_succ]
    refine wpAnyH_take (i := 3) (oi := ⟨some 16, _, _, _, _, _⟩) (v := ?_) rfl (by kernel_rfl) (by kernel_rfl) (by kernel_rfl) (fun _ _ _ h => h) (Or.inl ⟨by rfl, ?_⟩) hS ?_
    rotate_left
    · intro W hW; go_simp; with_reducible rfl
    try simp only [Act.put, List.setIfInBounds_toArray, List.set_cons_zero, List.set_cons_succ]
    refine wpAnyH_take (i := 4) (oi := ⟨some 17, _, _, _, _, _⟩) (v := ?_) rfl (by kernel_rfl) (by kernel_rfl) (by kernel_rfl) (fun _ _ _ h => h) (Or.inl ⟨by rfl, ?_⟩) hS ?_
    rotate_left
    · intro W hW; go_simp; with_reducible rfl
    try simp only [Act.put, List.setIfInBounds_toArray, List.set_cons_zero, List.set_cons_succ]
    refine wpAnyH_take (i := 5) (oi := ⟨some 18, _, _, _, _, _⟩) (v := ?_) rfl (by kernel_rfl) (by kernel_rfl) (by kernel_rfl) (fun _ _ _ h => h) (Or.inl ⟨by rfl, ?_⟩) hS ?_
    rotate_left
    · intro W hW; go_simp; with_reducible rfl
    try simp only [Act.put, List.setIfInBounds_toArray, List.set_cons_zero, List.set_cons_succ]
    refine wpAnyH_take (i := 6) (oi := ⟨some 19, _, _, _, _, _⟩) (v := ?_) rfl (by kernel_rfl) (by kernel_rfl) (by kernel_rfl) (fun _ _ _ h => h) (Or.inl ⟨by rfl, ?_⟩) hS ?_
    rotate_left
    · intro W hW; go_simp; with_reducible rfl
    try simp only [Act.put, List.setIfInBounds_toArray, List.set_cons_zero, List.set_cons_succ]
    refine wpAnyH_take (i := 7) (oi := ⟨some 20, _, _, _, _, _⟩) (v := ?_) rfl (by kernel_rfl) (by kernel_rfl) (by kernel_rfl) (fun _ _ _ h => h) (Or.inl ⟨by rfl, ?_⟩) hS ?_
    rotate_left
    · intro W hW; go_simp; with_reducible rfl
    try simp only [Act.put, List.setIfInBounds_toArray, List.set_cons_zero, List.set_cons_succ]
    refine wpAnyH_take (i := 8) (oi := ⟨some 21, _, _, _, _, _⟩) (v := ?_) rfl (by kernel_rfl) (by kernel_rfl) (by kernel_rfl) (fun _ _ _ h => h) (Or.inl ⟨by rfl, ?_⟩) hS ?_
    rotate_left
    · intro W hW; go_simp; with_reducible rfl
    try simp only [Act.put, List.setIfInBounds_toArray, List.set_cons_zero, List.set_cons_succ]
    refine wpAnyH_take (i := 9) (oi := ⟨some 22, _, _, _, _, _⟩) (v := ?_) rfl (by kernel_rfl) (by kernel_rfl) (by kernel_rfl) (fun _ _ _ h => h) (Or.inl ⟨by rfl, ?_⟩) hS ?_
    rotate_left
    · intro W hW; go_simp; with_reducible rfl
    try simp only [Act.put, List.setIfInBounds_toArray, List.set_cons_zero, List.set_cons_succ]
    refine wpAnyH_take (i := 10) (oi := ⟨some 23, _, _, _, _, _⟩) (v := ?_) rfl (by kernel_rfl) (by kernel_rfl) (by kernel_rfl) (fun _ _ _ h => h) (Or.inl ⟨by rfl, ?_⟩) hS ?_
    rotate_left
    · intro W hW; go_simp; with_reducible rfl
    try simp only [Act.put, List.setIfInBounds_toArray, List.set_cons_zero, List.set_cons_succ]
    refine wpAnyH_take (i := 11) (oi := ⟨some 24, _, _, _, _, _⟩) (v := ?_) rfl (by kernel_rfl) (by kernel_rfl) (by kernel_rfl) (fun _ _ _ h => h) (Or.inl ⟨by rfl, ?_⟩) hS ?_
    rotate_left
    · intro W hW; go_simp; with_reducible rfl
    try simp only [Act.put, List.setIfInBounds_toArray, List.set_cons_zero, List.set_cons_succ]
    refine wpAnyH_take (i := 12) (oi := ⟨some 25, _, _, _, _, _⟩) (v := ?_) rfl (by kernel_rfl) (by kernel_rfl) (by kernel_rfl) (fun _ _ _ h => h) (Or.inl ⟨by rfl, ?_⟩) hS ?_
    rotate_left
    · intro W hW; go_simp; with_reducible rfl
    try simp only [Act.put, List.setIfInBounds_toArray, List.set_cons_zero, List.set_cons_succ]
    refine wpAnyH_take (i := 13) (oi := ⟨some 26, _, _, _, _, _⟩) (v := ?_) rfl (by kernel_rfl) (by kernel_rfl) (by kernel_rfl) (fun _ _ _ h => h) (Or.inl ⟨by rfl, ?_⟩) hS ?_
    rotate_left
    · intro W hW; go_simp; with_reducible rfl
    try simp only [Act.put, List.setIfInBounds_toArray, List.set_cons_zero, List.set_cons_succ]
    refine wpAnyH_ready (rs := [14]) (by kernel_rfl) (by simp) ?_
    refine AllReadyH.cons (o := ⟨some 27, _, _, _, _, _⟩) rfl (fun Kr hKr => ?_) AllReadyH.nil
    -- operation 14: a call
    go_simp
    refine (HP1.out _ hS).mono ?_
    rintro e V1 ⟨q1, rs, t, A, n, ca, rfl, h1, h2, h2', h3, h4, h5, h6, h7⟩
    have HB1 : Hid (Since W V1) := below_two hS h6
    have HY1 := Lib.hid (show _ ∧ _ ∧ _ ∧ _ ∧ _ ∧ _ from ⟨h1, h2, h3, h4, h5, h7⟩)
    clear h1 h2 h2' h3 h4 h5 h6 h7
    show Kr _ _
    refine hKr.out _ _ ?_ (fun _ => ?_)
    · exact HB1.out
    clear hKr Kr
    replace hS : Since W V1 := HB1.out
    try simp only [Act.put, List.setIfInBounds_toArray, List.set_cons_zero, List.set_cons_succ]
    refine wpAnyH_take (i := 15) (oi := ⟨some 12, _, _, _, _, _⟩) (v := ?_) rfl (by kernel_rfl) (by kernel_rfl) (by kernel_rfl) (fun _ _ _ h => h) (Or.inl ⟨by rfl, ?_⟩) hS ?_
    rotate_left
    · intro W hW; go_simp; with_reducible rfl
    try simp only [Act.put, List.setIfInBounds_toArray, List.set_cons_zero, List.set_cons_succ]
    refine wpAnyH_take (i := 16) (oi := ⟨some 28, _, _, _, _, _⟩) (v := ?_) rfl (by kernel_rfl) (by kernel_rfl) (by kernel_rfl) (fun _ _ _ h => h) (Or.inl ⟨by rfl, ?_⟩) hS ?_
    rotate_left
    · intro W hW; go_simp; with_reducible rfl
    try simp only [Act.put, List.setIfInBounds_toArray, List.set_cons_zero, List.set_cons_succ]
    refine wpAnyH_take (i := 17) (oi := ⟨some 29, _, _, _, _, _⟩) (v := ?_) rfl (by kernel_rfl) (by kernel_rfl) (by kernel_rfl) (fun _ _ _ h => h) (Or.inl ⟨by rfl, ?_⟩) hS ?_
    rotate_left
    · intro W hW; go_simp; with_reducible rfl
    try simp only [Act.put, List.setIfInBounds_toArray, List.set_cons_zero, List.set_cons_succ]
    refine wpAnyH_take (i := 18) (oi := ⟨some 30, _, _, _, _, _⟩) (v := ?_) rfl (by kernel_rfl) (by kernel_rfl) (by kernel_rfl) (fun _ _ _ h => h) (Or.inl ⟨by rfl, ?_⟩) hS ?_
    rotate_left
    · intro W hW; go_simp; with_reducible rfl
    try simp only [Act.put, List.setIfInBounds_toArray, List.set_cons_zero, List.set_cons_succ]
    refine wpAnyH_take (i := 19) (oi := ⟨some 6, _, _, _, _, _⟩) (v := ?_) rfl (by kernel_rfl) (by kernel_rfl) (by kernel_rfl) (fun _ _ _ h => h) (Or.inl ⟨by rfl, ?_⟩) hS ?_
    rotate_left
    · intro W hW; go_simp; with_reducible rfl
    try simp only [Act.put, List.setIfInBounds_toArray, List.set_cons_zero, List.set_cons_succ]
    refine wpAnyH_take (i := 20) (oi := ⟨some 7, _, _, _, _, _⟩) (v := ?_) rfl (by kernel_rfl) (by kernel_rfl) (by kernel_rfl) (fun _ _ _ h => h) (Or.inl ⟨by rfl, ?_⟩) hS ?_
    rotate_left
    · intro W hW; go_simp; with_reducible rfl
    try simp only [Act.put, List.setIfInBounds_toArray, List.set_cons_zero, List.set_cons_succ]
    refine wpAnyH_take (i := 21) (oi := ⟨some 8, _, _, _, _, _⟩) (v := ?_) rfl (by kernel_rfl) (by kernel_rfl) (by kernel_rfl) (fun _ _ _ h => h) (Or.inl ⟨by rfl, ?_⟩) hS ?_
    rotate_left
    · intro W hW; go_simp; with_reducible rfl
    try simp only [Act.put, List.setIfInBounds_toArray, List.set_cons_zero, List.set_cons_succ]
    refine wpAnyH_done (by kernel_rfl) ?_ _
    have u1 : ∀ V, Since V1 V → V.cell? ⟨z, 1, none⟩ = some (ptr m) := fun V hV => (HW.out.below (below_two HB1.out hV)).c1
    have u8 : ∀ V, Since V1 V → V.cell? ⟨z, 8, none⟩ = some (.int .i64 sH) := fun V hV => v8 V (below_two HB1.out hV)
    have u9 : ∀ V, Since V1 V → V.cell? ⟨z, 9, none⟩ = some (.int .i64 sE) := fun V hV => v9 V (below_two HB1.out hV)
    clear hS v0
    go_upto_region 1 with fail
    refine wp_region_since (by kernel_rfl) ?_
    have hS : Since V1 (World.drew V1) := (Below.refl _ _).drew
    refine wpAnyH_take (i := 0) (oi := ⟨some 32, _, _, _, _, _⟩) (v := ?_) rfl (by kernel_rfl) (by kernel_rfl) (by kernel_rfl) (fun _ _ _ h => h) (Or.inl ⟨by rfl, ?_⟩) hS ?_
    rotate_left
    · intro W hW; go_simp; with_reducible rfl
    try simp only [Act.put, List.setIfInBounds_toArray, List.set_cons_zero, List.set_cons_succ]
    refine wpAnyH_take (i := 1) (oi := ⟨some 33, _, _, _, _, _⟩) (v := ?_) rfl (by kernel_rfl) (by kernel_rfl) (by kernel_rfl) (fun _ _ _ h => h) (Or.inl ⟨by rfl, ?_⟩) hS ?_
    rotate_left
    · intro W hW; go_simp; with_reducible rfl
    try simp only [Act.put, List.setIfInBounds_toArray, List.set_cons_zero, List.set_cons_succ]
    refine wpAnyH_take (i := 2) (oi := ⟨some 34, _, _, _, _, _⟩) (v := ?_) rfl (by kernel_rfl) (by kernel_rfl) (by kernel_rfl) (fun _ _ _ h => h) (Or.inl ⟨by rfl, ?_⟩) hS ?_
    rotate_left
    · intro W hW; go_simp; with_reducible rfl
    try simp only [Act.put, List.setIfInBounds_toArray, List.set_cons_zero, List.set_cons_succ]
    refine wpAnyH_take (i := 3) (oi := ⟨some 35, _, _, _, _, _⟩) (v := ?_) rfl (by kernel_rfl) (by kernel_rfl) (by kernel_rfl) (fun _ _ _ h => h) (Or.inl ⟨by rfl, ?_⟩) hS ?_
    rotate_left
    · intro W hW; go_simp; with_reducible rfl
    try simp only [Act.put, List.setIfInBounds_toArray, List.set_cons_zero, List.set_cons_succ]
    refine wpAnyH_take (i := 4) (oi := ⟨some 36, _, _, _, _, _⟩) (v := ?_) rfl (by kernel_rfl) (by kernel_rfl) (by kernel_rfl) (fun _ _ _ h => h) (Or.inl ⟨by rfl, ?_⟩) hS ?_
    rotate_left
    · intro W hW; go_simp; with_reducible rfl
    try simp only [Act.put, List.setIfInBounds_toArray, List.set_cons_zero, List.set_cons_succ]
    refine wpAnyH_take (i := 5) (oi := ⟨some 37, _, _, _, _, _⟩) (v := ?_) rfl (by kernel_rfl) (by kernel_rfl) (by kernel_rfl) (fun _ _ _ h => h) (Or.inl ⟨by rfl, ?_⟩) hS ?_
    rotate_left
    · intro W hW; go_simp; with_reducible rfl
    try simp only [Act.put, List.setIfInBounds_toArray, List.set_cons_zero, List.set_cons_succ]
    refine wpAnyH_take (i := 6) (oi := ⟨some 38, _, _, _, _, _⟩) (v := ?_) rfl (by kernel_rfl) (by kernel_rfl) (by kernel_rfl) (fun _ _ _ h => h) (Or.inl ⟨by rfl, ?_⟩) hS ?_
    rotate_left
    · intro W hW; go_simp; with_reducible rfl
    try simp only [Act.put, List.setIfInBounds_toArray, List.set_cons_zero, List.set_cons_succ]
    refine wpAnyH_take (i := 7) (oi := ⟨some 39, _, _, _, _, _⟩) (v := ?_) rfl (by kernel_rfl) (by kernel_rfl) (by kernel_rfl) (fun _ _ _ h => h) (Or.inl ⟨by rfl, ?_⟩) hS ?_
    rotate_left
    · intro W hW; go_simp; with_reducible rfl
    try simp only [Act.put, List.setIfInBounds_toArray, List.set_cons_zero, List.set_cons_succ]
    refine wpAnyH_take (i := 8) (oi := ⟨some 40, _, _, _, _, _⟩) (v := ?_) rfl (by kernel_rfl) (by kernel_rfl) (by kernel_rfl) (fun _ _ _ h => h) (Or.inl ⟨by rfl, ?_⟩) hS ?_
    rotate_left
    · intro W hW; go_simp; with_reducible rfl
    try simp only [Act.put, List.setIfInBounds_toArray, List.set_cons_zero, List.set_cons_succ]
    refine wpAnyH_take (i := 9) (oi := ⟨some 41, _, _, _, _, _⟩) (v := ?_) rfl (by kernel_rfl) (by kernel_rfl) (by kernel_rfl) (fun _ _ _ h => h) (Or.inl ⟨by rfl, ?_⟩) hS ?_
    rotate_left
    · intro W hW; go_simp; with_reducible rfl
    try simp only [Act.put, List.setIfInBounds_toArray, List.set_cons_zero, List.set_cons_succ]
    refine wpAnyH_take (i := 10) (oi := ⟨some 42, _, _, _, _, _⟩) (v := ?_) rfl (by kernel_rfl) (by kernel_rfl) (by kernel_rfl) (fun _ _ _ h => h) (Or.inl ⟨by rfl, ?_⟩) hS ?_
    rotate_left
    · intro W hW; go_simp; with_reducible rfl
    try simp only [Act.put, List.setIfInBounds_toArray, List.set_cons_zero, List.set_cons_succ]
    refine wpAnyH_take (i := 11) (oi := ⟨some 43, _, _, _, _, _⟩) (v := ?_) rfl (by kernel_rfl) (by kernel_rfl) (by kernel_rfl) (fun _ _ _ h => h) (Or.inl ⟨by rfl, ?_⟩) hS ?_
    rotate_left
    · intro W hW; go_simp; with_reducible rfl
    try simp only [Act.put, List.setIfInBounds_toArray, List.set_cons_zero, List.set_cons_succ]
    refine wpAnyH_take (i := 12) (oi := ⟨some 44, _, _, _, _, _⟩) (v := ?_) rfl (by kernel_rfl) (by kernel_rfl) (by kernel_rfl) (fun _ _ _ h => h) (Or.inl ⟨by rfl, ?_⟩) hS ?_
    rotate_left
    · intro W hW; go_simp; with_reducible rfl
    try simp only [Act.put, List.setIfInBounds_toArray, List.set_cons_zero, List.set_cons_succ]
    refine wpAnyH_take (i := 13) (oi := ⟨some 45, _, _, _, _, _⟩) (v := ?_) rfl (by kernel_rfl) (by kernel_rfl) (by kernel_rfl) (fun _ _ _ h => h) (Or.inl ⟨by rfl, ?_⟩) hS ?_
    rotate_left
    · intro W hW; go_simp; with_reducible rfl
    try simp only [Act.put, List.setIfInBounds_toArray, List.set_cons_zero, List.set_cons_succ]
    refine wpAnyH_ready (rs := [14]) (by kernel_rfl) (by simp) ?_
    refine AllReadyH.cons (o := ⟨some 46, _, _, _, _, _⟩) rfl (fun Kr hKr => ?_) AllReadyH.nil
    -- operation 14: a call
    go_simp
    refine (HP2.out _ (below_two HB1.out hS)).mono ?_
    rintro e V2 ⟨x1, rs2, t2, B, n2, cb, rfl, h1, h2, h2', h3, h4, h5, h6, h7⟩
    have HB2 : Hid (Since V1 V2) := below_two hS h6
    have HY2 := Lib.hid (show _ ∧ _ ∧ _ ∧ _ ∧ _ from ⟨h1, h3, h4, h5, h7⟩)
    clear h1 h2 h2' h3 h4 h5 h6 h7
    show Kr _ _
    refine hKr.out _ _ ?_ (fun _ => ?_)
    · exact HB2.out
    clear hKr Kr
    replace hS : Since V1 V2 := HB2.out
    try simp only [Act.put, List.setIfInBounds_toArray, List.set_cons_zero, List.set_cons_succ]
    refine wpAnyH_take (i := 15) (oi := ⟨some 31, _, _, _, _, _⟩) (v := ?_) rfl (by kernel_rfl) (by kernel_rfl) (by kernel_rfl) (fun _ _ _ h => h) (Or.inl ⟨by rfl, ?_⟩) hS ?_
    rotate_left
    · intro W hW; go_simp; with_reducible rfl
    try simp only [Act.put, List.setIfInBounds_toArray, List.set_cons_zero, List.set_cons_succ]
    refine wpAnyH_take (i := 16) (oi := ⟨some 47, _, _, _, _, _⟩) (v := ?_) rfl (by kernel_rfl) (by kernel_rfl) (by kernel_rfl) (fun _ _ _ h => h) (Or.inl ⟨by rfl, ?_⟩) hS ?_
    rotate_left
    · intro W hW; go_simp; with_reducible rfl
    try simp only [Act.put, List.setIfInBounds_toArray, List.set_cons_zero, List.set_cons_succ]
    refine wpAnyH_take (i := 17) (oi := ⟨some 48, _, _, _, _, _⟩) (v := ?_) rfl (by kernel_rfl) (by kernel_rfl) (by kernel_rfl) (fun _ _ _ h => h) (Or.inl ⟨by rfl, ?_⟩) hS ?_
    rotate_left
    · intro W hW; go_simp; with_reducible rfl
    try simp only [Act.put, List.setIfInBounds_toArray, List.set_cons_zero, List.set_cons_succ]
    refine wpAnyH_take (i := 18) (oi := ⟨some 49, _, _, _, _, _⟩) (v := ?_) rfl (by kernel_rfl) (by kernel_rfl) (by kernel_rfl) (fun _ _ _ h => h) (Or.inl ⟨by rfl, ?_⟩) hS ?_
    rotate_left
    · intro W hW; go_simp; with_reducible rfl
    try simp only [Act.put, List.setIfInBounds_toArray, List.set_cons_zero, List.set_cons_succ]
    refine wpAnyH_take (i := 19) (oi := ⟨some 9, _, _, _, _, _⟩) (v := ?_) rfl (by kernel_rfl) (by kernel_rfl) (by kernel_rfl) (fun _ _ _ h => h) (Or.inl ⟨by rfl, ?_⟩) hS ?_
    rotate_left
    · intro W hW; go_simp; with_reducible rfl
    try simp only [Act.put, List.setIfInBounds_toArray, List.set_cons_zero, List.set_cons_succ]
    refine wpAnyH_take (i := 20) (oi := ⟨some 10, _, _, _, _, _⟩) (v := ?_) rfl (by kernel_rfl) (by kernel_rfl) (by kernel_rfl) (fun _ _ _ h => h) (Or.inl ⟨by rfl, ?_⟩) hS ?_
    rotate_left
    · intro W hW; go_simp; with_reducible rfl
    try simp only [Act.put, List.setIfInBounds_toArray, List.set_cons_zero, List.set_cons_succ]
    refine wpAnyH_take (i := 21) (oi := ⟨some 11, _, _, _, _, _⟩) (v := ?_) rfl (by kernel_rfl) (by kernel_rfl) (by kernel_rfl) (fun _ _ _ h => h) (Or.inl ⟨by rfl, ?_⟩) hS ?_
    rotate_left
    · intro W hW; go_simp; with_reducible rfl
    try simp only [Act.put, List.setIfInBounds_toArray, List.set_cons_zero, List.set_cons_succ]
    refine wpAnyH_done (by kernel_rfl) ?_ _
    clear hS u1 u8 u9 v8 v9
    obtain ⟨h1, h2, h3, h4, h5, h7⟩ := HY1.out
    obtain ⟨k1, k3, k4, k5, k7⟩ := HY2.out
    obtain ⟨hnn, U, hU, hWd⟩ := HOP.out V1 V2 q1 x1 t t2 rs rs2 A B n ca n2 cb h1 h2 h3 h4 h5 HB1.out h7 k1 k3 k4 k5 HB2.out k7
    subst hnn
    subst hU
    have HWD := Lib.hid hWd
    have HV2 := Lib.hid (HW.out.below (below_two HB1.out HB2.out))
    clear h1 h2 h3 h4 h5 h7 k1 k3 k4 k5 k7 hWd HY1 HY2 HOP HP1 HP2
    obtain ⟨l2, l3, a4, b5, e6, f7', c2, c3, c4, c5, c6, c7⟩ := HV2.out.six
    have f2 := HV2.out.fr 2
    have f3 := HV2.out.fr 3
    have f4 := HV2.out.fr 4
    have f5 := HV2.out.fr 5
    have f6 := HV2.out.fr 6
    have f7 := HV2.out.fr 7
    go_wp2_with fail
    go_end0
    exact HOUT.out _ ⟨_, _, _, _, HWD.out, rfl, rfl⟩
  · have HO := Lib.hid ho
    have HP1 : Hid (∀ V, Since W V → Calls Tryz.prog 11 #[ptr p, .int .i64 F, .int .i64 S, .int .i64 sH, .int .i64 sE] V (fun e w' => e = .returned (.tuple #[.pointer none, .slice none 0 0, .int .i64 (openE D F S sH sE)]) ∧ Below V.heap.size V w')) := fun V hV => open_no (h.below hV).dev F S sH sE HO.out
    have HP2 : Hid (∀ V, Since W V → Calls Tryz.prog 15 #[ptr m, .int .i64 F, .int .i64 S, .int .i64 sH, .int .i64 sE] V (fun e w' => e = .returned (.tuple #[.pointer none, .slice none 0 0, .int .i64 (openE D F S sH sE)]) ∧ Below V.heap.size V w')) := fun V hV => refopen_no (h.below hV).ref F S sH sE HO.out
    have HSH := Lib.hid (fun (V2 : World) => @Wo.shut w W V2 z p L M m a b c D sH sE HW.out ⟨⟨0, 0, 0, 0⟩, 0, 0, false⟩ _ HO.out)
    clear h ho
    generalize openE D F S sH sE = oe at *
    go_enter Tryz.func8, Tryz.ntmps8
    go_upto_region 0 with fail
    refine wp_region_since (by kernel_rfl) ?_
    have hS : Since W (World.drew W) := (Below.refl _ _).drew
    refine wpAnyH_take (i := 0) (oi := ⟨some 13, _, _, _, _, _⟩) (v := ?_) rfl (by kernel_rfl) (by kernel_rfl) (by kernel_rfl) (fun _ _ _ h => h) (Or.inl ⟨by rfl, ?_⟩) hS ?_
    rotate_left
    · intro W hW; go_simp; with_reducible rfl
    try simp only [Act.put, List.setIfInBounds_toArray, List.set_cons_zero, List.set_cons_succ]
    refine wpAnyH_take (i := 1) (oi := ⟨some 14, _, _, _, _, _⟩) (v := ?_) rfl (by kernel_rfl) (by kernel_rfl) (by kernel_rfl) (fun _ _ _ h => h) (Or.inl ⟨by rfl, ?_⟩) hS ?_
    rotate_left
    · intro W hW; go_simp; with_reducible rfl
    try simp only [Act.put, List.setIfInBounds_toArray, List.set_cons_zero, List.set_cons_succ]
    refine wpAnyH_take (i := 2) (oi := ⟨some 15, _, _, _, _, _⟩) (v := ?_) rfl (by kernel_rfl) (by kernel_rfl) (by kernel_rfl) (fun _ _ _ h => h) (Or.inl ⟨by rfl, ?_⟩) hS ?_
    rotate_left
    · intro W hW; go_simp; with_reducible rfl
    try simp only [Act.put, List.setIfInBounds_toArray, List.set_cons_zero, List.set_cons_succ]
    refine wpAnyH_take (i := 3) (oi := ⟨some 16, _, _, _, _, _⟩) (v := ?_) rfl (by kernel_rfl) (by kernel_rfl) (by kernel_rfl) (fun _ _ _ h => h) (Or.inl ⟨by rfl, ?_⟩) hS ?_
    rotate_left
    · intro W hW; go_simp; with_reducible rfl
    try simp only [Act.put, List.setIfInBounds_toArray, List.set_cons_zero, List.set_cons_succ]
    refine wpAnyH_take (i := 4) (oi := ⟨some 17, _, _, _, _, _⟩) (v := ?_) rfl (by kernel_rfl) (by kernel_rfl) (by kernel_rfl) (fun _ _ _ h => h) (Or.inl ⟨by rfl, ?_⟩) hS ?_
    rotate_left
    · intro W hW; go_simp; with_reducible rfl
    try simp only [Act.put, List.setIfInBounds_toArray, List.set_cons_zero, List.set_cons_succ]
    refine wpAnyH_take (i := 5) (oi := ⟨some 18, _, _, _, _, _⟩) (v := ?_) rfl (by kernel_rfl) (by kernel_rfl) (by kernel_rfl) (fun _ _ _ h => h) (Or.inl ⟨by rfl, ?_⟩) hS ?_
    rotate_left
    · intro W hW; go_simp; with_reducible rfl
    try simp only [Act.put, List.setIfInBounds_toArray, List.set_cons_zero, List.set_cons_succ]
    refine wpAnyH_take (i := 6) (oi := ⟨some 19, _, _, _, _, _⟩) (v := ?_) rfl (by kernel_rfl) (by kernel_rfl) (by kernel_rfl) (fun _ _ _ h => h) (Or.inl ⟨by rfl, ?_⟩) hS ?_
    rotate_left
    · intro W hW; go_simp; with_reducible rfl
    try simp only [Act.put, List.setIfInBounds_toArray, List.set_cons_zero, List.set_cons_succ]
    refine wpAnyH_take (i := 7) (oi := ⟨some 20, _, _, _, _, _⟩) (v := ?_) rfl (by kernel_rfl) (by kernel_rfl) (by kernel_rfl) (fun _ _ _ h => h) (Or.inl ⟨by rfl, ?_⟩) hS ?_
    rotate_left
    · intro W hW; go_simp; with_reducible rfl
    try simp only [Act.put, List.setIfInBounds_toArray, List.set_cons_zero, List.set_cons_succ]
    refine wpAnyH_take (i := 8) (oi := ⟨some 21, _, _, _, _, _⟩) (v := ?_) rfl (by kernel_rfl) (by kernel_rfl) (by kernel_rfl) (fun _ _ _ h => h) (Or.inl ⟨by rfl, ?_⟩) hS ?_
    rotate_left
    · intro W hW; go_simp; with_reducible rfl
    try simp only [Act.put, List.setIfInBounds_toArray, List.set_cons_zero, List.set_cons_succ]
    refine wpAnyH_take (i := 9) (oi := ⟨some 22, _, _, _, _, _⟩) (v := ?_) rfl (by kernel_rfl) (by kernel_rfl) (by kernel_rfl) (fun _ _ _ h => h) (Or.inl ⟨by rfl, ?_⟩) hS ?_
    rotate_left
    · intro W hW; go_simp; with_reducible rfl
    try simp only [Act.put, List.setIfInBounds_toArray, List.set_cons_zero, List.set_cons_succ]
    refine wpAnyH_take (i := 10) (oi := ⟨some 23, _, _, _, _, _⟩) (v := ?_) rfl (by kernel_rfl) (by kernel_rfl) (by kernel_rfl) (fun _ _ _ h => h) (Or.inl ⟨by rfl, ?_⟩) hS ?_
    rotate_left
    · intro W hW; go_simp; with_reducible rfl
    try simp only [Act.put, List.setIfInBounds_toArray, List.set_cons_zero, List.set_cons_succ]
    refine wpAnyH_take (i := 11) (oi := ⟨some 24, _, _, _, _, _⟩) (v := ?_) rfl (by kernel_rfl) (by kernel_rfl) (by kernel_rfl) (fun _ _ _ h => h) (Or.inl ⟨by rfl, ?_⟩) hS ?_
    rotate_left
    · intro W hW; go_simp; with_reducible rfl
    try simp only [Act.put, List.setIfInBounds_toArray, List.set_cons_zero, List.set_cons_succ]
    refine wpAnyH_take (i := 12) (oi := ⟨some 25, _, _, _, _, _⟩) (v := ?_) rfl (by kernel_rfl) (by kernel_rfl) (by kernel_rfl) (fun _ _ _ h => h) (Or.inl ⟨by rfl, ?_⟩) hS ?_
    rotate_left
    · intro W hW; go_simp; with_reducible rfl
    try simp only [Act.put, List.setIfInBounds_toArray, List.set_cons_zero, List.set_cons_succ]
    refine wpAnyH_take (i := 13) (oi := ⟨some 26, _, _, _, _, _⟩) (v := ?_) rfl (by kernel_rfl) (by kernel_rfl) (by kernel_rfl) (fun _ _ _ h => h) (Or.inl ⟨by rfl, ?_⟩) hS ?_
    rotate_left
    · intro W hW; go_simp; with_reducible rfl
    try simp only [Act.put, List.setIfInBounds_toArray, List.set_cons_zero, List.set_cons_succ]
    refine wpAnyH_ready (rs := [14]) (by kernel_rfl) (by simp) ?_
    refine AllReadyH.cons (o := ⟨some 27, _, _, _, _, _⟩) rfl (fun Kr hKr => ?_) AllReadyH.nil
    -- operation 14: a call
    go_simp
    refine (HP1.out _ hS).mono ?_
    rintro e V1 ⟨rfl, h6⟩
    have HB1 : Hid (Since W V1) := below_two hS h6
    clear h6
    show Kr _ _
    refine hKr.out _ _ ?_ (fun _ => ?_)
    · exact HB1.out
    clear hKr Kr
    replace hS : Since W V1 := HB1.out
    try simp only [Act.put, List.setIfInBounds_toArray, List.set_cons_zero, List.set_cons_succ]
    refine wpAnyH_take (i := 15) (oi := ⟨some 12, _, _, _, _, _⟩) (v := ?_) rfl (by kernel_rfl) (by kernel_rfl) (by kernel_rfl) (fun _ _ _ h => h) (Or.inl ⟨by rfl, ?_⟩) hS ?_
    rotate_left
    · intro W hW; go_simp; with_reducible rfl
    try simp only [Act.put, List.setIfInBounds_toArray, List.set_cons_zero, List.set_cons_succ]
    refine wpAnyH_take (i := 16) (oi := ⟨some 28, _, _, _, _, _⟩) (v := ?_) rfl (by kernel_rfl) (by kernel_rfl) (by kernel_rfl) (fun _ _ _ h => h) (Or.inl ⟨by rfl, ?_⟩) hS ?_
    rotate_left
    · intro W hW; go_simp; with_reducible rfl
    try simp only [Act.put, List.setIfInBounds_toArray, List.set_cons_zero, List.set_cons_succ]
    refine wpAnyH_take (i := 17) (oi := ⟨some 29, _, _, _, _, _⟩) (v := ?_) rfl (by kernel_rfl) (by kernel_rfl) (by kernel_rfl) (fun _ _ _ h => h) (Or.inl ⟨by rfl, ?_⟩) hS ?_
    rotate_left
    · intro W hW; go_simp; with_reducible rfl
    try simp only [Act.put, List.setIfInBounds_toArray, List.set_cons_zero, List.set_cons_succ]
    refine wpAnyH_take (i := 18) (oi := ⟨some 30, _, _, _, _, _⟩) (v := ?_) rfl (by kernel_rfl) (by kernel_rfl) (by kernel_rfl) (fun _ _ _ h => h) (Or.inl ⟨by rfl, ?_⟩) hS ?_
    rotate_left
    · intro W hW; go_simp; with_reducible rfl
    try simp only [Act.put, List.setIfInBounds_toArray, List.set_cons_zero, List.set_cons_succ]
    refine wpAnyH_take (i := 19) (oi := ⟨some 6, _, _, _, _, _⟩) (v := ?_) rfl (by kernel_rfl) (by kernel_rfl) (by kernel_rfl) (fun _ _ _ h => h) (Or.inl ⟨by rfl, ?_⟩) hS ?_
    rotate_left
    · intro W hW; go_simp; with_reducible rfl
    try simp only [Act.put, List.setIfInBounds_toArray, List.set_cons_zero, List.set_cons_succ]
    refine wpAnyH_take (i := 20) (oi := ⟨some 7, _, _, _, _, _⟩) (v := ?_) rfl (by kernel_rfl) (by kernel_rfl) (by kernel_rfl) (fun _ _ _ h => h) (Or.inl ⟨by rfl, ?_⟩) hS ?_
    rotate_left
    · intro W hW; go_simp; with_reducible rfl
    try simp only [Act.put, List.setIfInBounds_toArray, List.set_cons_zero, List.set_cons_succ]
    refine wpAnyH_take (i := 21) (oi := ⟨some 8, _, _, _, _, _⟩) (v := ?_) rfl (by kernel_rfl) (by kernel_rfl) (by kernel_rfl) (fun _ _ _ h => h) (Or.inl ⟨by rfl, ?_⟩) hS ?_
    rotate_left
    · intro W hW; go_simp; with_reducible rfl
    try simp only [Act.put, List.setIfInBounds_toArray, List.set_cons_zero, List.set_cons_succ]
    refine wpAnyH_done (by kernel_rfl) ?_ _
    have u1 : ∀ V, Since V1 V → V.cell? ⟨z, 1, none⟩ = some (ptr m) := fun V hV => (HW.out.below (below_two HB1.out hV)).c1
    have u8 : ∀ V, Since V1 V → V.cell? ⟨z, 8, none⟩ = some (.int .i64 sH) := fun V hV => v8 V (below_two HB1.out hV)
    have u9 : ∀ V, Since V1 V → V.cell? ⟨z, 9, none⟩ = some (.int .i64 sE) := fun V hV => v9 V (below_two HB1.out hV)
    clear hS v0
    go_upto_region 1 with fail
    refine wp_region_since (by kernel_rfl) ?_
    have hS : Since V1 (World.drew V1) := (Below.refl _ _).drew
    refine wpAnyH_take (i := 0) (oi := ⟨some 32, _, _, _, _, _⟩) (v := ?_) rfl (by kernel_rfl) (by kernel_rfl) (by kernel_rfl) (fun _ _ _ h => h) (Or.inl ⟨by rfl, ?_⟩) hS ?_
    rotate_left
    · intro W hW; go_simp; with_reducible rfl
    try simp only [Act.put, List.setIfInBounds_toArray, List.set_cons_zero, List.set_cons_succ]
    refine wpAnyH_take (i := 1) (oi := ⟨some 33, _, _, _, _, _⟩) (v := ?_) rfl (by kernel_rfl) (by kernel_rfl) (by kernel_rfl) (fun _ _ _ h => h) (Or.inl ⟨by rfl, ?_⟩) hS ?_
    rotate_left
    · intro W hW; go_simp; with_reducible rfl
    try simp only [Act.put, List.setIfInBounds_toArray, List.set_cons_zero, List.set_cons_succ]
    refine wpAnyH_take (i := 2) (oi := ⟨some 34, _, _, _, _, _⟩) (v := ?_) rfl (by kernel_rfl) (by kernel_rfl) (by kernel_rfl) (fun _ _ _ h => h) (Or.inl ⟨by rfl, ?_⟩) hS ?_
    rotate_left
    · intro W hW; go_simp; with_reducible rfl
    try simp only [Act.put, List.setIfInBounds_toArray, List.set_cons_zero, List.set_cons_succ]
    refine wpAnyH_take (i := 3) (oi := ⟨some 35, _, _, _, _, _⟩) (v := ?_) rfl (by kernel_rfl) (by kernel_rfl) (by kernel_rfl) (fun _ _ _ h => h) (Or.inl ⟨by rfl, ?_⟩) hS ?_
    rotate_left
    · intro W hW; go_simp; with_reducible rfl
    try simp only [Act.put, List.setIfInBounds_toArray, List.set_cons_zero, List.set_cons_succ]
    refine wpAnyH_take (i := 4) (oi := ⟨some 36, _, _, _, _, _⟩) (v := ?_) rfl (by kernel_rfl) (by kernel_rfl) (by kernel_rfl) (fun _ _ _ h => h) (Or.inl ⟨by rfl, ?_⟩) hS ?_
    rotate_left
    · intro W hW; go_simp; with_reducible rfl
    try simp only [Act.put, List.setIfInBounds_toArray, List.set_cons_zero, List.set_cons_succ]
    refine wpAnyH_take (i := 5) (oi := ⟨some 37, _, _, _, _, _⟩) (v := ?_) rfl (by kernel_rfl) (by kernel_rfl) (by kernel_rfl) (fun _ _ _ h => h) (Or.inl ⟨by rfl, ?_⟩) hS ?_
    rotate_left
    · intro W hW; go_simp; with_reducible rfl
    try simp only [Act.put, List.setIfInBounds_toArray, List.set_cons_zero, List.set_cons_succ]
    refine wpAnyH_take (i := 6) (oi := ⟨some 38, _, _, _, _, _⟩) (v := ?_) rfl (by kernel_rfl) (by kernel_rfl) (by kernel_rfl) (fun _ _ _ h => h) (Or.inl ⟨by rfl, ?_⟩) hS ?_
    rotate_left
    · intro W hW; go_simp; with_reducible rfl
    try simp only [Act.put, List.setIfInBounds_toArray, List.set_cons_zero, List.set_cons_succ]
    refine wpAnyH_take (i := 7) (oi := ⟨some 39, _, _, _, _, _⟩) (v := ?_) rfl (by kernel_rfl) (by kernel_rfl) (by kernel_rfl) (fun _ _ _ h => h) (Or.inl ⟨by rfl, ?_⟩) hS ?_
    rotate_left
    · intro W hW; go_simp; with_reducible rfl
    try simp only [Act.put, List.setIfInBounds_toArray, List.set_cons_zero, List.set_cons_succ]
    refine wpAnyH_take (i := 8) (oi := ⟨some 40, _, _, _, _, _⟩) (v := ?_) rfl (by kernel_rfl) (by kernel_rfl) (by kernel_rfl) (fun _ _ _ h => h) (Or.inl ⟨by rfl, ?_⟩) hS ?_
    rotate_left
    · intro W hW; go_simp; with_reducible rfl
    try simp only [Act.put, List.setIfInBounds_toArray, List.set_cons_zero, List.set_cons_succ]
    refine wpAnyH_take (i := 9) (oi := ⟨some 41, _, _, _, _, _⟩) (v := ?_) rfl (by kernel_rfl) (by kernel_rfl) (by kernel_rfl) (fun _ _ _ h => h) (Or.inl ⟨by rfl, ?_⟩) hS ?_
    rotate_left
    · intro W hW; go_simp; with_reducible rfl
    try simp only [Act.put, List.setIfInBounds_toArray, List.set_cons_zero, List.set_cons_succ]
    refine wpAnyH_take (i := 10) (oi := ⟨some 42, _, _, _, _, _⟩) (v := ?_) rfl (by kernel_rfl) (by kernel_rfl) (by kernel_rfl) (fun _ _ _ h => h) (Or.inl ⟨by rfl, ?_⟩) hS ?_
    rotate_left
    · intro W hW; go_simp; with_reducible rfl
    try simp only [Act.put, List.setIfInBounds_toArray, List.set_cons_zero, List.set_cons_succ]
    refine wpAnyH_take (i := 11) (oi := ⟨some 43, _, _, _, _, _⟩) (v := ?_) rfl (by kernel_rfl) (by kernel_rfl) (by kernel_rfl) (fun _ _ _ h => h) (Or.inl ⟨by rfl, ?_⟩) hS ?_
    rotate_left
    · intro W hW; go_simp; with_reducible rfl
    try simp only [Act.put, List.setIfInBounds_toArray, List.set_cons_zero, List.set_cons_succ]
    refine wpAnyH_take (i := 12) (oi := ⟨some 44, _, _, _, _, _⟩) (v := ?_) rfl (by kernel_rfl) (by kernel_rfl) (by kernel_rfl) (fun _ _ _ h => h) (Or.inl ⟨by rfl, ?_⟩) hS ?_
    rotate_left
    · intro W hW; go_simp; with_reducible rfl
    try simp only [Act.put, List.setIfInBounds_toArray, List.set_cons_zero, List.set_cons_succ]
    refine wpAnyH_take (i := 13) (oi := ⟨some 45, _, _, _, _, _⟩) (v := ?_) rfl (by kernel_rfl) (by kernel_rfl) (by kernel_rfl) (fun _ _ _ h => h) (Or.inl ⟨by rfl, ?_⟩) hS ?_
    rotate_left
    · intro W hW; go_simp; with_reducible rfl
    try simp only [Act.put, List.setIfInBounds_toArray, List.set_cons_zero, List.set_cons_succ]
    refine wpAnyH_ready (rs := [14]) (by kernel_rfl) (by simp) ?_
    refine AllReadyH.cons (o := ⟨some 46, _, _, _, _, _⟩) rfl (fun Kr hKr => ?_) AllReadyH.nil
    -- operation 14: a call
    go_simp
    refine (HP2.out _ (below_two HB1.out hS)).mono ?_
    rintro e V2 ⟨rfl, h6⟩
    have HB2 : Hid (Since V1 V2) := below_two hS h6
    clear h6
    show Kr _ _
    refine hKr.out _ _ ?_ (fun _ => ?_)
    · exact HB2.out
    clear hKr Kr
    replace hS : Since V1 V2 := HB2.out
    try simp only [Act.put, List.setIfInBounds_toArray, List.set_cons_zero, List.set_cons_succ]
    refine wpAnyH_take (i := 15) (oi := ⟨some 31, _, _, _, _, _⟩) (v := ?_) rfl (by kernel_rfl) (by kernel_rfl) (by kernel_rfl) (fun _ _ _ h => h) (Or.inl ⟨by rfl, ?_⟩) hS ?_
    rotate_left
    · intro W hW; go_simp; with_reducible rfl
    try simp only [Act.put, List.setIfInBounds_toArray, List.set_cons_zero, List.set_cons_succ]
    refine wpAnyH_take (i := 16) (oi := ⟨some 47, _, _, _, _, _⟩) (v := ?_) rfl (by kernel_rfl) (by kernel_rfl) (by kernel_rfl) (fun _ _ _ h => h) (Or.inl ⟨by rfl, ?_⟩) hS ?_
    rotate_left
    · intro W hW; go_simp; with_reducible rfl
    try simp only [Act.put, List.setIfInBounds_toArray, List.set_cons_zero, List.set_cons_succ]
    refine wpAnyH_take (i := 17) (oi := ⟨some 48, _, _, _, _, _⟩) (v := ?_) rfl (by kernel_rfl) (by kernel_rfl) (by kernel_rfl) (fun _ _ _ h => h) (Or.inl ⟨by rfl, ?_⟩) hS ?_
    rotate_left
    · intro W hW; go_simp; with_reducible rfl
    try simp only [Act.put, List.setIfInBounds_toArray, List.set_cons_zero, List.set_cons_succ]
    refine wpAnyH_take (i := 18) (oi := ⟨some 49, _, _, _, _, _⟩) (v := ?_) rfl (by kernel_rfl) (by kernel_rfl) (by kernel_rfl) (fun _ _ _ h => h) (Or.inl ⟨by rfl, ?_⟩) hS ?_
    rotate_left
    · intro W hW; go_simp; with_reducible rfl
    try simp only [Act.put, List.setIfInBounds_toArray, List.set_cons_zero, List.set_cons_succ]
    refine wpAnyH_take (i := 19) (oi := ⟨some 9, _, _, _, _, _⟩) (v := ?_) rfl (by kernel_rfl) (by kernel_rfl) (by kernel_rfl) (fun _ _ _ h => h) (Or.inl ⟨by rfl, ?_⟩) hS ?_
    rotate_left
    · intro W hW; go_simp; with_reducible rfl
    try simp only [Act.put, List.setIfInBounds_toArray, List.set_cons_zero, List.set_cons_succ]
    refine wpAnyH_take (i := 20) (oi := ⟨some 10, _, _, _, _, _⟩) (v := ?_) rfl (by kernel_rfl) (by kernel_rfl) (by kernel_rfl) (fun _ _ _ h => h) (Or.inl ⟨by rfl, ?_⟩) hS ?_
    rotate_left
    · intro W hW; go_simp; with_reducible rfl
    try simp only [Act.put, List.setIfInBounds_toArray, List.set_cons_zero, List.set_cons_succ]
    refine wpAnyH_take (i := 21) (oi := ⟨some 11, _, _, _, _, _⟩) (v := ?_) rfl (by kernel_rfl) (by kernel_rfl) (by kernel_rfl) (fun _ _ _ h => h) (Or.inl ⟨by rfl, ?_⟩) hS ?_
    rotate_left
    · intro W hW; go_simp; with_reducible rfl
    try simp only [Act.put, List.setIfInBounds_toArray, List.set_cons_zero, List.set_cons_succ]
    refine wpAnyH_done (by kernel_rfl) ?_ _
    clear hS u1 u8 u9 v8 v9
    obtain ⟨U, hU, hWd⟩ := HSH.out V2 (below_two HB1.out HB2.out)
    subst hU
    have HWD := Lib.hid hWd
    have HV2 := Lib.hid (HW.out.below (below_two HB1.out HB2.out))
    clear hWd HSH HP1 HP2
    obtain ⟨l2, l3, a4, b5, e6, f7', c2, c3, c4, c5, c6, c7⟩ := HV2.out.six
    have f2 := HV2.out.fr 2
    have f3 := HV2.out.fr 3
    have f4 := HV2.out.fr 4
    have f5 := HV2.out.fr 5
    have f6 := HV2.out.fr 6
    have f7 := HV2.out.fr 7
    go_wp2_with fail
    go_end0
    exact HOUT.out _ ⟨_, _, _, _, HWD.out, rfl, rfl⟩

end Go.Proofs.YtdjfahnnfhediaaGreat

namespace Go.Proofs.YtdjfahnnfhediaaGreat
set_option maxRecDepth 100000
open Go.RowKit Crc Wm

/-- one thing that is done -/
structure Deed where
  what : Int
  N : Int
  c : UInt8
  up : Int
  b : List UInt8
  kn : Nat
  keep : Nat → Bool

def deedC (o : Deed) (A : Option Addr) (ca : Nat) (K : Option Addr) (ck : Nat) : Array Value := #[.int .i64 o.what, .int .i64 o.N, .int .u8 (o.c.toNat : Int), .int .i64 o.up, .slice A o.b.length ca, .slice K o.kn ck]
/-- it lies in a block -/
def OAt (V : World) (g : Nat) (o : Deed) (A : Option Addr) (ca : Nat) (K : Option Addr) (ck : Nat) : Prop := V.heap[g]? = some (.cells (deedC o A ca K ck) 44 (0, 0))

/-- the blocks that may turn, but for the struct's own -/
def WT (z p L M m a b q x : Nat) (k : Nat) : Prop := WS z p L M m a b q x k ∧ k ≠ z

section
variable {w W V : World} {z p L M m a b c q x g : Nat} {D E : Dv} {G R : Lg} {s : Sl} {o : Deed} {A K : Option Addr} {ca ck : Nat}
theorem OAt.turn (h : OAt W g o A ca K ck) {X : Nat → Prop} (ht : Turn X W V) (hg : ¬ X g) : OAt V g o A ca K ck := (ht.block g (lt_of_block h) hg).trans h
theorem OAt.c0 (h : OAt W g o A ca K ck) : W.cell? ⟨g, 0, none⟩ = some (.int .i64 o.what) := by rw [cell_of_row _ _ _ _ _ _ h]; rfl
theorem OAt.c1 (h : OAt W g o A ca K ck) : W.cell? ⟨g, 1, none⟩ = some (.int .i64 o.N) := by rw [cell_of_row _ _ _ _ _ _ h]; rfl
theorem OAt.c2 (h : OAt W g o A ca K ck) : W.cell? ⟨g, 2, none⟩ = some (.int .u8 (o.c.toNat : Int)) := by rw [cell_of_row _ _ _ _ _ _ h]; rfl
theorem OAt.c3 (h : OAt W g o A ca K ck) : W.cell? ⟨g, 3, none⟩ = some (.int .i64 o.up) := by rw [cell_of_row _ _ _ _ _ _ h]; rfl
theorem OAt.c4 (h : OAt W g o A ca K ck) : W.cell? ⟨g, 4, none⟩ = some (.slice A o.b.length ca) := by rw [cell_of_row _ _ _ _ _ _ h]; rfl
theorem OAt.c5 (h : OAt W g o A ca K ck) : W.cell? ⟨g, 5, none⟩ = some (.slice K o.kn ck) := by rw [cell_of_row _ _ _ _ _ _ h]; rfl

theorem Wd.tD (h : Wd w W z p L M m a b c q x D E G R s) (ht : Turn (DS p L M) W V) : Turn (WT z p L M m a b q x) W V := by
  obtain ⟨K, h1, h2, h3⟩ := h.mid
  exact ht.mono fun k hk => ⟨.inr (.inl hk), by rcases hk with e | e | e <;> omega⟩
theorem Wd.tR (h : Wd w W z p L M m a b c q x D E G R s) (ht : Turn (DS m a b) W V) : Turn (WT z p L M m a b q x) W V := by
  obtain ⟨K, h1, h2, h3⟩ := h.mid
  exact ht.mono fun k hk => ⟨.inr (.inr (.inl hk)), by rcases hk with e | e | e <;> omega⟩
theorem Wd.tL (h : Wd w W z p L M m a b c q x D E G R s) (he : s.e = 0) (ht : Turn (LS q p L M) W V) : Turn (WT z p L M m a b q x) W V := by
  obtain ⟨K, h1, h2, h3⟩ := h.mid
  obtain ⟨_, _, _, _, h5, h6⟩ := h.log he
  refine ht.mono fun k hk => ⟨?_, by rcases hk with (e | e | e) | e <;> omega⟩
  rcases hk with hk | hk
  · exact .inr (.inl hk)
  · exact .inr (.inr (.inr (.inl hk)))
theorem Wd.tX (h : Wd w W z p L M m a b c q x D E G R s) (he : s.e = 0) (ht : Turn (LS x m a b) W V) : Turn (WT z p L M m a b q x) W V := by
  obtain ⟨K, h1, h2, h3⟩ := h.mid
  obtain ⟨_, _, _, _, h5, h6⟩ := h.log he
  refine ht.mono fun k hk => ⟨?_, by rcases hk with (e | e | e) | e <;> omega⟩
  rcases hk with hk | hk
  · exact .inr (.inr (.inl hk))
  · exact .inr (.inr (.inr (.inr hk)))
/-- what the struct holds, while others turn -/
theorem Wd.zT (h : Wd w W z p L M m a b c q x D E G R s) (ht : Turn (WT z p L M m a b q x) W V) : V.heap[z]? = some (.cells (slC p m q x s) 38 (0, 0)) :=
  (ht.block z (h.ltW z (.inl rfl)) (fun hk => hk.2 rfl)).trans h.own
theorem Wd.t0 (h : Wd w W z p L M m a b c q x D E G R s) (ht : Turn (WT z p L M m a b q x) W V) : V.cell? ⟨z, 0, none⟩ = some (ptr p) := by rw [cell_of_row _ _ _ _ _ _ (h.zT ht)]; rfl
theorem Wd.t1 (h : Wd w W z p L M m a b c q x D E G R s) (ht : Turn (WT z p L M m a b q x) W V) : V.cell? ⟨z, 1, none⟩ = some (ptr m) := by rw [cell_of_row _ _ _ _ _ _ (h.zT ht)]; rfl
theorem Wd.t2 (h : Wd w W z p L M m a b c q x D E G R s) (he : s.e = 0) (ht : Turn (WT z p L M m a b q x) W V) : V.cell? ⟨z, 2, none⟩ = some (ptr q) := by rw [cell_of_row _ _ _ _ _ _ (h.zT ht)]; show some (lV s.e q) = _; unfold lV; rw [if_pos he]
theorem Wd.t3 (h : Wd w W z p L M m a b c q x D E G R s) (he : s.e = 0) (ht : Turn (WT z p L M m a b q x) W V) : V.cell? ⟨z, 3, none⟩ = some (ptr x) := by rw [cell_of_row _ _ _ _ _ _ (h.zT ht)]; show some (lV s.e x) = _; unfold lV; rw [if_pos he]
theorem Wd.eLog (h : Wd w W z p L M m a b c q x D E G R s) (he : s.e = 0) : IsLog W q p G ∧ IsRlog W x m R ∧ G.On D ∧ R.On E := by
  obtain ⟨h1, h2, h3, h4, _⟩ := h.log he
  exact ⟨h1, h2, h3, h4⟩

/-- calls on both devices, and on both logs -/
theorem Wd.write (h : Wd w W z p L M m a b c q x D E G R s) (hsp : D.spent ≤ 1000000) (at_ : Int) {A : Option Addr} {l : List UInt8} (hr : Rd w w.heap.size A l) (n cc : Nat) (hn : l.length = n) : Calls Tryz.prog 19 #[ptr p, .int .i64 at_, .slice A n cc] W fun e V => e = .returned (.int .i64 (D.writeE at_ l)) ∧ Wd w V z p L M m a b c q x (D.write at_ l) E G R s ∧ Turn (WT z p L M m a b q x) W V := by
  refine (dwrite_any h.dev hsp at_ ((h.firm hr).mono fun k hk => .inr (.inl hk)) n cc hn).mono ?_
  rintro e V ⟨rfl, h1, h2⟩
  exact ⟨rfl, h.d h1 h2 (Dv.write_n _ _), h.tD h2⟩
theorem Wd.rwrite (h : Wd w W z p L M m a b c q x D E G R s) (hsp : E.spent ≤ 1000000) (at_ : Int) {A : Option Addr} {l : List UInt8} (hr : Rd w w.heap.size A l) (n cc : Nat) (hn : l.length = n) : Calls Tryz.prog 20 #[ptr m, .int .i64 at_, .slice A n cc] W fun e V => e = .returned (.int .i64 (E.writeE at_ l)) ∧ Wd w V z p L M m a b c q x D (E.write at_ l) G R s ∧ Turn (WT z p L M m a b q x) W V := by
  refine (drefwrite_any h.ref hsp at_ ((h.firm hr).mono fun k hk => .inr (.inr (.inl hk))) n cc hn).mono ?_
  rintro e V ⟨rfl, h1, h2⟩
  exact ⟨rfl, h.r h1 h2 (Dv.write_n _ _), h.tR h2⟩
theorem Wd.flush (h : Wd w W z p L M m a b c q x D E G R s) (hsp : D.spent ≤ 1000000) : Calls Tryz.prog 21 #[ptr p] W fun e V => e = .returned (.int .i64 D.flushE) ∧ Wd w V z p L M m a b c q x D.flush E G R s ∧ Turn (WT z p L M m a b q x) W V := by
  refine (flush_any h.dev hsp).mono ?_
  rintro e V ⟨rfl, h1, h2⟩
  exact ⟨rfl, h.d h1 h2 Dv.flush_n, h.tD h2⟩
theorem Wd.rflush (h : Wd w W z p L M m a b c q x D E G R s) (hsp : E.spent ≤ 1000000) : Calls Tryz.prog 22 #[ptr m] W fun e V => e = .returned (.int .i64 E.flushE) ∧ Wd w V z p L M m a b c q x D E.flush G R s ∧ Turn (WT z p L M m a b q x) W V := by
  refine (refflush_any h.ref hsp).mono ?_
  rintro e V ⟨rfl, h1, h2⟩
  exact ⟨rfl, h.r h1 h2 Dv.flush_n, h.tR h2⟩
theorem Wd.budget (h : Wd w W z p L M m a b c q x D E G R s) (k : Nat) (hk : k < 1000) : Calls Tryz.prog 16 #[ptr p, .int .i64 (k : Int)] W fun e V => e = .returned (.tuple #[]) ∧ Wd w V z p L M m a b c q x (D.budget k) E G R s ∧ Turn (WT z p L M m a b q x) W V := by
  refine (budget_any h.dev (k : Int) (by omega)).mono ?_
  rintro e V ⟨rfl, h1, h2⟩
  exact ⟨rfl, h.d h1 h2 rfl, h.tD h2⟩
theorem Wd.rbudget (h : Wd w W z p L M m a b c q x D E G R s) (k : Nat) (hk : k < 1000) : Calls Tryz.prog 17 #[ptr m, .int .i64 (k : Int)] W fun e V => e = .returned (.tuple #[]) ∧ Wd w V z p L M m a b c q x D (E.budget k) G R s ∧ Turn (WT z p L M m a b q x) W V := by
  refine (refbudget_any h.ref (k : Int) (by omega)).mono ?_
  rintro e V ⟨rfl, h1, h2⟩
  exact ⟨rfl, h.r h1 h2 rfl, h.tR h2⟩
theorem Wd.crash (h : Wd w W z p L M m a b c q x D E G R s) (hsp : D.spent ≤ 1000000) {K : Option Addr} {kn : Nat} (ck : Nat) {f : Nat → Bool} (hk : BoolsAt w K kn f) : Calls Tryz.prog 14 #[ptr p, .slice K kn ck] W fun e V => e = .returned (.tuple #[]) ∧ Wd w V z p L M m a b c q x (D.crash (kp kn f)) E G R s ∧ Turn (WT z p L M m a b q x) W V := by
  refine (crash_any h.dev (by omega) ck ((h.bools hk).mono fun k hk => .inr (.inl hk))).mono ?_
  rintro e V ⟨rfl, h1, h2⟩
  exact ⟨rfl, h.d h1 h2 rfl, h.tD h2⟩
theorem Wd.rcrash (h : Wd w W z p L M m a b c q x D E G R s) {K : Option Addr} {kn : Nat} (ck : Nat) {f : Nat → Bool} (hk : BoolsAt w K kn f) : Calls Tryz.prog 18 #[ptr m, .slice K kn ck] W fun e V => e = .returned (.tuple #[]) ∧ Wd w V z p L M m a b c q x D (E.crash (kp kn f)) G R s ∧ Turn (WT z p L M m a b q x) W V := by
  refine (refcrash_any h.ref ck ((h.bools hk).mono fun k hk => .inr (.inr (.inl hk)))).mono ?_
  rintro e V ⟨rfl, h1, h2⟩
  exact ⟨rfl, h.r h1 h2 rfl, h.tR h2⟩
theorem Wd.append (h : Wd w W z p L M m a b c q x D E G R s) (he : s.e = 0) (hsp : D.spent ≤ 900000) (A : Option Addr) (n cc : Nat) (l : List UInt8) (hb : Lies W A cc n l) (hn : n ≤ 1000000) : Calls Tryz.prog 12 #[ptr q, .slice A n cc] W fun e V => e = .returned (.tuple #[.int .i64 (G.appAt D l), .int .i64 (G.appE D l)]) ∧ Wd w V z p L M m a b c q x (G.appD D l) E (G.appG D l) R s ∧ Turn (WT z p L M m a b q x) W V := by
  obtain ⟨k1, k2, k3, k4⟩ := h.eLog he
  refine (append_any k1 h.dev k3 hsp A n cc l hb hn).mono ?_
  rintro e V ⟨rfl, h1, h2, h3⟩
  exact ⟨rfl, h.l he h1 h2 h3 (k3.app l), h.tL he h3⟩
theorem Wd.rappend (h : Wd w W z p L M m a b c q x D E G R s) (he : s.e = 0) (hsp : E.spent ≤ 900000) (A : Option Addr) (n cc : Nat) (l : List UInt8) (hb : Lies W A cc n l) (hn : n ≤ 1000000) : Calls Tryz.prog 24 #[ptr x, .slice A n cc] W fun e V => e = .returned (.tuple #[.int .i64 (R.appAt E l), .int .i64 (R.appE E l)]) ∧ Wd w V z p L M m a b c q x D (R.appD E l) G (R.appG E l) s ∧ Turn (WT z p L M m a b q x) W V := by
  obtain ⟨k1, k2, k3, k4⟩ := h.eLog he
  refine (refappend_any k2 h.ref k4 hsp A n cc l hb hn).mono ?_
  rintro e V ⟨rfl, h1, h2, h3⟩
  exact ⟨rfl, h.lx he h1 h2 h3 (k4.app l), h.tX he h3⟩
theorem Wd.force (h : Wd w W z p L M m a b c q x D E G R s) (he : s.e = 0) (hsp : D.spent ≤ 1000000) : Calls Tryz.prog 13 #[ptr q] W fun e V => e = .returned (.int .i64 (G.forE D)) ∧ Wd w V z p L M m a b c q x (G.forD D) E (G.forG D) R s ∧ Turn (WT z p L M m a b q x) W V := by
  obtain ⟨k1, k2, k3, k4⟩ := h.eLog he
  refine (force_any k1 h.dev hsp).mono ?_
  rintro e V ⟨rfl, h1, h2, h3⟩
  exact ⟨rfl, h.l he h1 h2 h3 k3.for, h.tL he h3⟩
theorem Wd.rforce (h : Wd w W z p L M m a b c q x D E G R s) (he : s.e = 0) (hsp : E.spent ≤ 1000000) : Calls Tryz.prog 25 #[ptr x] W fun e V => e = .returned (.int .i64 (R.forE E)) ∧ Wd w V z p L M m a b c q x D (R.forD E) G (R.forG E) s ∧ Turn (WT z p L M m a b q x) W V := by
  obtain ⟨k1, k2, k3, k4⟩ := h.eLog he
  refine (refforce_any k2 h.ref hsp).mono ?_
  rintro e V ⟨rfl, h1, h2, h3⟩
  exact ⟨rfl, h.lx he h1 h2 h3 k4.for, h.tX he h3⟩
theorem Wd.drop (h : Wd w W z p L M m a b c q x D E G R s) (he : s.e = 0) (t : Int) : Calls Tryz.prog 26 #[ptr q, .int .i64 t] W fun e V => e = .returned (.int .i64 (G.dropE t)) ∧ Wd w V z p L M m a b c q x D E (G.dropG t) R s ∧ Turn (WT z p L M m a b q x) W V := by
  obtain ⟨k1, k2, k3, k4⟩ := h.eLog he
  have hne := log_ne k1 h.dev
  refine (ldrop_any k1 t).mono ?_
  rintro e V ⟨rfl, h1, h2⟩
  have h3 : Turn (LS q p L M) W V := h2.mono (fun k hk => .inr hk)
  exact ⟨rfl, h.l he h1 (h.dev.turn h2 (fun e => hne (e ▸ .inl rfl)) (fun e => hne (e ▸ .inr (.inl rfl))) (fun e => hne (e ▸ .inr (.inr rfl)))) h3 (k3.drop t), h.tL he h3⟩
theorem Wd.rdrop (h : Wd w W z p L M m a b c q x D E G R s) (he : s.e = 0) (t : Int) : Calls Tryz.prog 28 #[ptr x, .int .i64 t] W fun e V => e = .returned (.int .i64 (R.dropE t)) ∧ Wd w V z p L M m a b c q x D E G (R.dropG t) s ∧ Turn (WT z p L M m a b q x) W V := by
  obtain ⟨k1, k2, k3, k4⟩ := h.eLog he
  have hne := rlog_ne k2 h.ref
  refine (refldrop_any k2 t).mono ?_
  rintro e V ⟨rfl, h1, h2⟩
  have h3 : Turn (LS x m a b) W V := h2.mono (fun k hk => .inr hk)
  exact ⟨rfl, h.lx he h1 (h.ref.turn h2 (fun e => hne (e ▸ .inl rfl)) (fun e => hne (e ▸ .inr (.inl rfl))) (fun e => hne (e ▸ .inr (.inr rfl)))) h3 (k4.drop t), h.tX he h3⟩
end

/-- what a deed answers, and leaves -/
def WDoOut (w : World) (z p L M m a b c : Nat) (D : Dv) (E : Int) (e : Ending) (V : World) : Prop :=
  e = .returned (.bool true) ∧ ∃ q x D' G s, Wd w V z p L M m a b c q x D' D' G G s ∧ D'.spent ≤ D.spent + 100 ∧ E ≤ s.E ∧ s.E ≤ E + 3

theorem need_255 {n : Nat} {c : UInt8} (h : n ≤ 255) : needN (someB n c) ≤ 6 := by
  have h2 := needN_bd (someB n c)
  rw [length_someB] at h2
  omega

end Go.Proofs.YtdjfahnnfhediaaGreat
