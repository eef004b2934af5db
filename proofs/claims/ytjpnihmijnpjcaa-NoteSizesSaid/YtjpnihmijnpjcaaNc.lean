/-
  May a note be? The document's answer.
-/
import Derived.Test.YtjpnihmijnpjcaaNb
import Derived.BigQuiet
namespace Go.Proofs.Ytjpnihmijnpjcaa
set_option maxRecDepth 100000
set_option linter.unusedVariables false
set_option linter.unusedSimpArgs false
open Go.RowKit Wm Nn

theorem sane_no {x : Nt} (h : ¬ San x) : sane x = false := by unfold sane; simp [h]
theorem sane_yes {x : Nt} (h : San x) : sane x = true := by unfold sane; simp [h]
theorem gt_yes {a b : Int} (h : b < a) : decide (a > b) = true ∧ decide (b < a) = true := ⟨decide_eq_true (by omega), decide_eq_true (by omega)⟩
theorem gt_no {a b : Int} (h : ¬ b < a) : decide (a > b) = false ∧ decide (b < a) = false := ⟨decide_eq_false (by omega), decide_eq_false (by omega)⟩
theorem gtn_yes {a b : Nat} (h : b < a) : decide (a > b) = true ∧ decide (b < a) = true := ⟨decide_eq_true (by omega), decide_eq_true (by omega)⟩
theorem gtn_no {a b : Nat} (h : ¬ b < a) : decide (a > b) = false ∧ decide (b < a) = false := ⟨decide_eq_false (by omega), decide_eq_false (by omega)⟩
theorem kind_two {k : Int} (h : k = 1 ∨ k = 2) : (k = 1 ∧ ((k == 1) = true ∧ (k != 1) = false) ∧ (k == 2) = false ∧ (k != 2) = true) ∨ (k = 2 ∧ ((k == 1) = false ∧ (k != 1) = true) ∧ (k == 2) = true ∧ (k != 2) = false) := by
  rcases h with rfl | rfl <;> simp

/-- the head's tests -/
inductive HeadWay (x : Nt) (n m : Nat) : Prop
  | kind (h : x.kind ≠ 1) (h' : x.kind ≠ 2)
  | neg (hk : x.kind = 1 ∨ x.kind = 2) (h : x.seq < 0)
  | much (hk : x.kind = 1 ∨ x.kind = 2) (h0 : ¬ x.seq < 0) (h : 1099511627776 < x.seq)
  | ims (hk : x.kind = 1 ∨ x.kind = 2) (h0 : ¬ x.seq < 0) (h1 : ¬ 1099511627776 < x.seq) (h : 256 < n)
  | ops (hk : x.kind = 1 ∨ x.kind = 2) (h0 : ¬ x.seq < 0) (h1 : ¬ 1099511627776 < x.seq) (h2 : ¬ 256 < n) (h : 256 < m)
  | end_ (hk : x.kind = 2) (h0 : ¬ x.seq < 0) (h1 : ¬ 1099511627776 < x.seq) (h2 : ¬ 256 < n) (h3 : ¬ 256 < m) (h : 0 < n + m)
theorem head_way {x : Nt} {n m : Nat} (hn : x.im.length = n) (hm : x.op.length = m) (h : ¬ Head x) : HeadWay x n m := by
  by_cases hk : x.kind = 1 ∨ x.kind = 2
  · by_cases h0 : x.seq < 0
    · exact .neg hk h0
    by_cases h1 : 1099511627776 < x.seq
    · exact .much hk h0 h1
    by_cases h2 : 256 < n
    · exact .ims hk h0 h1 h2
    by_cases h3 : 256 < m
    · exact .ops hk h0 h1 h2 h3
    refine .end_ ?_ h0 h1 h2 h3 ?_
    · rcases hk with hk | hk
      · exact absurd ⟨.inl hk, ⟨by omega, by omega⟩, by omega, by omega, fun e => by omega⟩ h
      · exact hk
    · rcases Nat.eq_zero_or_pos (n + m) with hz | hz
      · exact absurd ⟨hk, ⟨by omega, by omega⟩, by omega, by omega, fun _ => by omega⟩ h
      · exact hz
  · exact .kind (fun e => hk (.inl e)) (fun e => hk (.inr e))

set_option maxHeartbeats 2000000 in
theorem sane_head_no (x : Nt) (r : Nr) (w : World) (hx : NtAt w x r) (hsm : SmallN x) (hh : ¬ Head x) : Calls Try.prog 19 #[ntV x r] w fun e w' => e = .returned (.bool (sane x)) ∧ Below w.heap.size w w' := by
  rw [sane_no (fun h => hh h.1)]
  obtain ⟨A1, k1, c1, B1, l1, d1, e1⟩ := r
  obtain ⟨HX, HB, HN⟩ := nt_boxed w x _ hx 25
  clear hx
  unfold ntV
  obtain ⟨C, hC⟩ : ∃ C, C = ntC x ⟨A1, k1, c1, B1, l1, d1, e1⟩ := ⟨_, rfl⟩
  rw [← hC] at HX HB HN ⊢
  clear hC
  obtain ⟨n1, n2, n3, n4⟩ := HN.out.n_
  simp only at n1 n2 n3 n4
  have hw := head_way n1 n3 hh
  have hk1 : k1 ≤ 1000 := by have := hsm.1; omega
  have hl1 : l1 ≤ 1000 := by have := hsm.2.1; omega
  clear hsm hh n1 n3
  rcases hw with ⟨h, h'⟩ | ⟨hk, h⟩ | ⟨hk, h0, h⟩ | ⟨hk, h0, h1, h⟩ | ⟨hk, h0, h1, h2, h⟩ | ⟨hk, h0, h1, h2, h3, h⟩
  · obtain ⟨p1, p2⟩ := ne_no h
    obtain ⟨p3, p4⟩ := ne_no h'
    clear h h'
    go_enter Try.func19, Try.ntmps19
    go_upto_region 1 with fail
    generalize w.alloc (.cells C 25) = w0 at *
    have a0 := HX.out.c0
    go_wp2_with fail
    go_ret
    exact ⟨rfl, HB.out⟩
  · obtain ⟨q1, q2⟩ := gt_yes h
    rcases kind_two hk with ⟨hk, ⟨p1, p2⟩, p3, p4⟩ | ⟨hk, ⟨p1, p2⟩, p3, p4⟩
    all_goals
      clear hk h
      go_enter Try.func19, Try.ntmps19
      go_upto_region 1 with fail
      generalize w.alloc (.cells C 25) = w0 at *
      have a0 := HX.out.c0
      have a1 := HX.out.c1
      go_wp2_with fail
      go_ret
      exact ⟨rfl, HB.out⟩
  · obtain ⟨q1, q2⟩ := gt_no h0
    obtain ⟨q3, q4⟩ := gt_yes h
    rcases kind_two hk with ⟨hk, ⟨p1, p2⟩, p3, p4⟩ | ⟨hk, ⟨p1, p2⟩, p3, p4⟩
    all_goals
      clear hk h h0
      go_enter Try.func19, Try.ntmps19
      go_upto_region 1 with fail
      generalize w.alloc (.cells C 25) = w0 at *
      have a0 := HX.out.c0
      have a1 := HX.out.c1
      go_wp2_with fail
      go_ret
      exact ⟨rfl, HB.out⟩
  · obtain ⟨q1, q2⟩ := gt_no h0
    obtain ⟨q3, q4⟩ := gt_no h1
    obtain ⟨q5, q6⟩ := gtn_yes h
    obtain ⟨q7, q8⟩ := gt_yes (a := (k1 : Int)) (b := 256) (by omega)
    rcases kind_two hk with ⟨hk, ⟨p1, p2⟩, p3, p4⟩ | ⟨hk, ⟨p1, p2⟩, p3, p4⟩
    all_goals
      clear hk h h0 h1
      go_enter Try.func19, Try.ntmps19
      go_upto_region 1 with fail
      generalize w.alloc (.cells C 25) = w0 at *
      have a0 := HX.out.c0
      have a1 := HX.out.c1
      have a2 := HX.out.c2
      simp only at a2
      go_wp2_with fail
      go_ret
      exact ⟨rfl, HB.out⟩
  · obtain ⟨q1, q2⟩ := gt_no h0
    obtain ⟨q3, q4⟩ := gt_no h1
    obtain ⟨q5, q6⟩ := gtn_no h2
    obtain ⟨q7, q8⟩ := gt_no (a := (k1 : Int)) (b := 256) (by omega)
    obtain ⟨q9, qa⟩ := gtn_yes h
    obtain ⟨qb, qc⟩ := gt_yes (a := (l1 : Int)) (b := 256) (by omega)
    rcases kind_two hk with ⟨hk, ⟨p1, p2⟩, p3, p4⟩ | ⟨hk, ⟨p1, p2⟩, p3, p4⟩
    all_goals
      clear hk h h0 h1 h2
      go_enter Try.func19, Try.ntmps19
      go_upto_region 1 with fail
      generalize w.alloc (.cells C 25) = w0 at *
      have a0 := HX.out.c0
      have a1 := HX.out.c1
      have a2 := HX.out.c2
      have a3 := HX.out.c3
      simp only at a2 a3
      go_wp2_with fail
      go_ret
      exact ⟨rfl, HB.out⟩
  · obtain ⟨q1, q2⟩ := gt_no h0
    obtain ⟨q3, q4⟩ := gt_no h1
    obtain ⟨q5, q6⟩ := gtn_no h2
    obtain ⟨q7, q8⟩ := gt_no (a := (k1 : Int)) (b := 256) (by omega)
    obtain ⟨q9, qa⟩ := gtn_no h3
    obtain ⟨qb, qc⟩ := gt_no (a := (l1 : Int)) (b := 256) (by omega)
    obtain ⟨qd, qe⟩ := gtn_yes h
    obtain ⟨qf, qg⟩ := gt_yes (a := (k1 : Int) + (l1 : Int)) (b := 0) (by omega)
    obtain ⟨p1, p2⟩ := ne_no (show x.kind ≠ 1 by omega)
    obtain ⟨p3, p4⟩ := ne_yes hk
    clear hk h h0 h1
    go_enter Try.func19, Try.ntmps19
    go_upto_region 1 with fail
    generalize w.alloc (.cells C 25) = w0 at *
    have a0 := HX.out.c0
    have a1 := HX.out.c1
    have a2 := HX.out.c2
    have a3 := HX.out.c3
    simp only at a2 a3
    go_wp2_with fail
    go_ret
    exact ⟨rfl, HB.out⟩

end Go.Proofs.Ytjpnihmijnpjcaa
