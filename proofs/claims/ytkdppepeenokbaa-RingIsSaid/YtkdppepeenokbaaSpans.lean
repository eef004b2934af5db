/-
  The program's Spans: every ring, every place, every number.
-/
import Derived.Test.YtkdppepeenokbaaLots
import Derived.Test.YtkdppepeenokbaaSmall
namespace Go.Proofs.Ytkdppepeenokbaa
open Go.RowKit

theorem lt_new2 (w : World) (p q : Int × Int) (g : Nat) (hg : w.heap.size = g) (t : TypeId) : Lt (w.alloc (.cells #[.int .i64 p.1, .int .i64 p.2, .int .i64 q.1, .int .i64 q.2] t)) (w.alloc (.cells #[.int .i64 p.1, .int .i64 p.2, .int .i64 q.1, .int .i64 q.2] t)).heap.size (some ⟨g, 0, none⟩) [p, q] := by
  subst hg
  refine .inr ⟨_, rfl, by simp, fun j x hx => ?_⟩
  match j, hx with
  | 0, hx =>
    simp at hx
    subst hx
    constructor <;> (rw [cell_of_row _ _ _ _ _ _ (heap_alloc_new w _)]; rfl)
  | 1, hx =>
    simp at hx
    subst hx
    constructor <;> (rw [cell_of_row _ _ _ _ _ _ (heap_alloc_new w _)]; rfl)
  | j + 2, hx => simp at hx

theorem Rg.may_iff {r : Rg} {at_ n : Int} : r.may at_ n = true ↔ r.Ok ∧ (0 ≤ at_ ∧ at_ ≤ 2199023255552) ∧ 0 ≤ n ∧ n ≤ r.S := by
  unfold Rg.may
  simp only [Bool.and_eq_true, decide_eq_true_eq, Rg.asked_iff]
  constructor
  · rintro ⟨⟨h1, h2⟩, h3⟩; exact ⟨h1, h2, h3⟩
  · rintro ⟨h1, h2, h3⟩; exact ⟨⟨h1, h2⟩, h3⟩

theorem spans_some {r : Rg} {at_ n : Int} (h : r.may at_ n = true) (k a : Int) (hk : k = at_ % r.S) (ha : a = min n (r.S - k)) : some1 [(r.F + k, a), (r.F, n - a)] = r.spans at_ n := by
  obtain ⟨ok, ⟨h1, h2⟩, h3, h4⟩ := Rg.may_iff.1 h
  have := ok.s0
  have g1 := Int.emod_nonneg at_ (b := r.S) (by omega)
  have g2 := Int.emod_lt_of_pos at_ (b := r.S) (by omega)
  unfold Rg.spans
  rw [if_pos h, ← hk]
  rw [← hk] at g1 g2
  unfold some1
  by_cases e0 : n = 0
  · subst e0
    obtain rfl : a = 0 := by omega
    rw [if_pos rfl]
    simp
  · rw [if_neg e0]
    by_cases e1 : n ≤ r.S - k
    · rw [if_pos e1]
      obtain rfl : a = n := by omega
      have : 0 < a := by omega
      simp [this]
    · rw [if_neg e1]
      obtain rfl : a = r.S - k := by omega
      simp
      omega

set_option maxHeartbeats 1000000 in
theorem spans_any (r : Rg) (at_ n : Int) (w : World) : Calls Try.prog 27 #[rgV r, .int .i64 at_, .int .i64 n] w (Lots w (r.spans at_ n)) := by
  have hs := asked_any r at_
  have ht := sector_any r at_
  have HU : Hid (r.may at_ n = (r.asked at_ && rises [0, n, r.S])) := by show _ = _; rw [rises3]; rfl
  have HN : Hid (r.may at_ n = false → r.spans at_ n = []) := fun h => by unfold Rg.spans; rw [h]; rfl
  have HS : Hid (r.may at_ n = true → ∀ k a : Int, k = at_ % r.S → a = min n (r.S - k) → some1 [(r.F + k, a), (r.F, n - a)] = r.spans at_ n) := fun h k a => spans_some h k a
  have HW : Hid (r.may at_ n = true → r.sector at_ = r.F + at_ % r.S ∧ r.Ok ∧ 0 ≤ at_ % r.S ∧ at_ % r.S < r.S ∧ 0 ≤ n ∧ n ≤ r.S) := fun h => by
    obtain ⟨ok, h1, h3, h4⟩ := Rg.may_iff.1 h
    have := ok.s0
    refine ⟨?_, ok, Int.emod_nonneg at_ (by omega), Int.emod_lt_of_pos at_ (by omega), h3, h4⟩
    unfold Rg.sector
    rw [if_pos (Rg.asked_iff.2 ⟨ok, h1⟩)]
  have HX := Lib.hid (Bx.new w r 25)
  have HB := Lib.hid (below_new w (.cells (rgC r) 25))
  obtain ⟨F, S, H, T⟩ := r
  go_enter Try.func27, Try.ntmps27
  go_wp2_with fail
  refine (hs _).mono ?_
  rintro e w1 ⟨rfl, hb1⟩
  have HX1 := Lib.hid (HX.out.below hb1)
  have HB1 := Lib.hid (below_two HB.out hb1)
  clear hb1 HX HB hs
  have c1 := HX1.out.c1
  generalize (Rg.mk F S H T).asked at_ = b at *
  cases b with
  | false =>
    go_wp2_with fail
    go_ret
    exact ⟨none, 0, 0, rfl, by rw [HN.out (by rw [HU.out]; rfl)]; rfl, .inl (HN.out (by rw [HU.out]; rfl)), HB1.out⟩
  | true =>
    go_wp2_with fail
    refine (rising3 0 n S _ _ (by simp)).mono ?_
    rintro e w2 ⟨rfl, hb2⟩
    have HX2 := Lib.hid (HX1.out.below hb2)
    have HB2 := Lib.hid (below_two HB1.out hb2)
    clear hb2 HX1 HB1 c1
    simp only [Bool.true_and] at HU
    replace HU : Hid ((Rg.mk F S H T).may at_ n = rises [0, n, S]) := HU
    rw [← HU.out]
    have c0 := HX2.out.c0
    have c1 := HX2.out.c1
    have c2 := HX2.out.c2
    have c3 := HX2.out.c3
    clear HU
    generalize (Rg.mk F S H T).may at_ n = b at *
    cases b with
    | false =>
      go_wp2_with fail
      go_ret
      exact ⟨none, 0, 0, rfl, by rw [HN.out trivial]; rfl, .inl (HN.out trivial), HB2.out⟩
    | true =>
      obtain ⟨es, ok, g1, g2, g3, g4⟩ := HW.out rfl
      rw [es] at ht
      have hs := HS.out rfl
      have HS2 := Lib.hid hs
      obtain ⟨q1, q2, q3, q4, q5, q6, q7, q8⟩ := ok
      simp only at q1 q2 q3 q4 q5 q6 q7 q8 g1 g2 g3 g4 ht HS2
      clear HN HS HW hs es
      obtain ⟨k, HK⟩ : ∃ k, Hid (k = at_ % S) := ⟨_, Lib.hid rfl⟩
      rw [← HK.out] at ht g1 g2
      go_wp2_with fail
      refine (ht _).mono ?_
      rintro e w3 ⟨rfl, hb3⟩
      have HX3 := Lib.hid (HX2.out.below hb3)
      have HB3 := Lib.hid (below_two HB2.out hb3)
      clear hb3 HX2 HB2 c0 c1 c2 c3 ht
      have c0 := HX3.out.c0
      have c1 := HX3.out.c1
      have hw1 : IntKind.i64.wrap (F + S) = F + S := by rw [IntKind.wrap_i64]; omega
      have hw2 : IntKind.i64.wrap (F + S - (F + k)) = S - k := by rw [IntKind.wrap_i64]; omega
      go_wp2_with fail
      · have e := HS2.out k (S - k) HK.out (by omega)
        have hl := lots_any w3.heap.size 2 2 [(F + k, S - k), (F, n - (S - k))] (Lib.hid rfl) (by omega) (by omega) _ (lt_new2 w3 (F + k, S - k) (F, n - (S - k)) _ rfl 47)
        rw [e] at hl
        clear e HS2
        refine hl.mono ?_
        rintro e w4 ⟨A, n4, c4, rfl, hn4, hl4, hb4⟩
        have HN4 := Lib.hid hn4
        clear hn4
        go_wp2_with fail
        go_ret
        exact ⟨A, n4, c4, rfl, HN4.out, hl4, below_two HB3.out (below_two (below_new _ _) hb4)⟩
      · have e := HS2.out k n HK.out (by omega)
        rw [Int.sub_self] at e
        have hl := lots_any w3.heap.size 2 2 [(F + k, n), (F, 0)] (Lib.hid rfl) (by omega) (by omega) _ (lt_new2 w3 (F + k, n) (F, 0) _ rfl 47)
        rw [e] at hl
        clear e HS2
        refine hl.mono ?_
        rintro e w4 ⟨A, n4, c4, rfl, hn4, hl4, hb4⟩
        have HN4 := Lib.hid hn4
        clear hn4
        go_wp2_with fail
        go_ret
        exact ⟨A, n4, c4, rfl, HN4.out, hl4, below_two HB3.out (below_two (below_new _ _) hb4)⟩

end Go.Proofs.Ytkdppepeenokbaa
