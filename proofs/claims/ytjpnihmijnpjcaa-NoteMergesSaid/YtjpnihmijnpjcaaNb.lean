/-
  Few parts; notes from, and as, the document's.
-/
import Derived.Test.YtjpnihmijnpjcaaNa
namespace Go.Proofs.Ytjpnihmijnpjcaa
set_option maxRecDepth 100000
set_option linter.unusedVariables false
open Go.RowKit Wm Nn

def FewOut (w : World) (x : Nt) (most : Nat) (e : Ending) (w' : World) : Prop := Below w.heap.size w w' ∧ ((e = .returned (.bool true) ∧ Few x most) ∨ e = .returned (.bool false))

/-- a note's variable, boxed -/
theorem nt_boxed (w : World) (x : Nt) (r : Nr) (hx : NtAt w x r) (ty : TypeId) : Hid (NtB (w.alloc (.cells (ntC x r) ty)) w.heap.size ty x r) ∧ Hid (Below w.heap.size w (w.alloc (.cells (ntC x r) ty))) ∧ Hid (NtAt (w.alloc (.cells (ntC x r) ty)) x r) :=
  ⟨Lib.hid (NtB.new _ _ _ _), Lib.hid (below_new _ _), Lib.hid (hx.below (below_new _ _))⟩

set_option maxHeartbeats 1000000 in
theorem few_any (x : Nt) (r : Nr) (most : Nat) (w : World) (hx : NtAt w x r) (hm : most ≤ 1000) : Calls Try.prog 10 #[ntV x r, .int .i64 (most : Int)] w (FewOut w x most) := by
  obtain ⟨A1, k1, c1, B1, l1, d1, e1⟩ := r
  obtain ⟨HX, HB, HN⟩ := nt_boxed w x _ hx 25
  clear hx
  unfold ntV
  obtain ⟨C, hC⟩ : ∃ C, C = ntC x ⟨A1, k1, c1, B1, l1, d1, e1⟩ := ⟨_, rfl⟩
  rw [← hC] at HX HB HN ⊢
  clear hC
  obtain ⟨n1, n2, n3, n4⟩ := HN.out.n_
  simp only at n1 n2 n3 n4
  by_cases h1 : k1 ≤ most
  · have e1 : decide ((most : Int) < (k1 : Int)) = false := decide_eq_false (by omega)
    have f1 : decide (most < k1) = false := decide_eq_false (by omega)
    by_cases h2 : l1 ≤ most
    · have e2 : decide ((most : Int) < (l1 : Int)) = false := decide_eq_false (by omega)
      have f2 : decide (most < l1) = false := decide_eq_false (by omega)
      have HLN := Lib.hid (And.intro n1 n3)
      clear n1 n3
      go_enter Try.func10, Try.ntmps10
      go_upto_region 1 with fail
      generalize w.alloc (.cells C 25) = w0 at *
      have a2 := HX.out.c2
      have a3 := HX.out.c3
      simp only at a2 a3
      go_wp2_with fail
      clear a3
      go_loopg [5] k1 (fun gn i wr => ∃ (j : Nat), i = .int .i64 (j : Int) ∧ j + gn = k1 ∧ wr = w0 ∧ Hid (∀ i x', i < j → x.im[i]? = some x' → x'.d.length ≤ 50))
      case atStart => exact ⟨0, rfl, by omega, rfl, Lib.hid (fun i _ hi => by omega)⟩
      case round =>
        obtain ⟨j, rfl, hog, rfl, HS⟩ := hrel
        rcases Nat.lt_or_ge j k1 with hlt | hge
        · have hdj : decide (j < k1) = true := decide_eq_true hlt
          have hdi : decide ((j : Int) < (k1 : Int)) = true := decide_eq_true (by omega)
          have him := HN.out.im
          obtain ⟨xi, ⟨ri, ra, rn, rc⟩, bx, ox, hxi, _, hX⟩ := him.get hlt
          have eA := hX.a
          simp only at eA
          subst eA
          have hc := hX.c1
          simp only at hc
          have HLI := Lib.hid hX.li
          have HXI := Lib.hid hxi
          clear hX hxi him
          by_cases h5 : rn ≤ 50
          · have e5 : decide ((50 : Int) < (rn : Int)) = false := decide_eq_false (by omega)
            go_wp2_with fail
            go_roundg (gk - 1)
            case measure => omega
            case rel => exact ⟨j + 1, by go_num, by omega, rfl, Lib.hid (fun i x' hi hx' => by
              rcases Nat.lt_or_ge i j with h | h
              · exact HS.out i x' h hx'
              · obtain rfl : i = j := by omega
                rw [HXI.out] at hx'
                injection hx' with hx'
                subst hx'
                have := HLI.out.len
                omega)⟩
          · have e5 : decide ((50 : Int) < (rn : Int)) = true := decide_eq_true (by omega)
            go_wp2_with fail
            go_ret
            exact ⟨HB.out, .inr rfl⟩
        · obtain rfl : j = k1 := by omega
          clear hge
          go_wp2_with fail
          go_ret
          exact ⟨HB.out, .inl ⟨rfl, by have := HLN.out.1; omega, by have := HLN.out.2; omega, fun i x' hx' => HS.out i x' (by have := HLN.out.1; have := (List.getElem?_eq_some_iff.1 hx').1; omega) hx'⟩⟩
    · have e2 : decide ((most : Int) < (l1 : Int)) = true := decide_eq_true (by omega)
      have f2 : decide (most < l1) = true := decide_eq_true (by omega)
      go_enter Try.func10, Try.ntmps10
      go_upto_region 1 with fail
      generalize w.alloc (.cells C 25) = w0 at *
      have a2 := HX.out.c2
      have a3 := HX.out.c3
      simp only at a2 a3
      go_wp2_with fail
      go_ret
      exact ⟨HB.out, .inr rfl⟩
  · have e1 : decide ((most : Int) < (k1 : Int)) = true := decide_eq_true (by omega)
    have f1 : decide (most < k1) = true := decide_eq_true (by omega)
    go_enter Try.func10, Try.ntmps10
    go_upto_region 1 with fail
    generalize w.alloc (.cells C 25) = w0 at *
    have a2 := HX.out.c2
    simp only at a2
    go_wp2_with fail
    go_ret
    exact ⟨HB.out, .inr rfl⟩

theorem two_new (w : World) (x : Nt) (r : Nr) (t1 t2 : TypeId) : ((w.alloc (.cells (ntC x r) t1)).alloc (.cells (ntC x r) t2)).heap[w.heap.size + 1]? = some (.cells (ntC x r) t2 (0, 0)) := by
  have h := heap_alloc_new (w.alloc (.cells (ntC x r) t1)) (.cells (ntC x r) t2)
  have hz : (w.alloc (.cells (ntC x r) t1)).heap.size = w.heap.size + 1 := by simp
  rw [hz] at h
  exact h
theorem two_below (w : World) (C D : Array Value) (t1 t2 : TypeId) : Below w.heap.size w ((w.alloc (.cells C t1)).alloc (.cells D t2)) :=
  (below_new w (.cells C t1)).trans ((below_new _ _).mono (by simp))

set_option maxHeartbeats 1000000 in
theorem ours_any (x : Nt) (r : Nr) (w : World) : Calls Try.prog 12 #[ntV x r] w fun e w' => e = .returned (ntV x r) ∧ Below w.heap.size w w' := by
  have h := two_new w x r 25 32
  have hb := two_below w (ntC x r) (ntC x r) 25 32
  unfold ntV
  unfold ntC at h hb ⊢
  go_enter Try.func12, Try.ntmps12
  go_wp2_with fail
  exact bodyPost_ret (results_cell_row rfl _ _ _ _ _ (0, 0) _ rfl h Try.underlying32 rfl (by kernel_rfl)) rfl ⟨rfl, hb⟩

set_option maxHeartbeats 1000000 in
theorem theirs_any (x : Nt) (r : Nr) (w : World) : Calls Try.prog 23 #[ntV x r] w fun e w' => e = .returned (ntV x r) ∧ Below w.heap.size w w' := by
  have h := two_new w x r 32 25
  have hb := two_below w (ntC x r) (ntC x r) 32 25
  unfold ntV
  unfold ntC at h hb ⊢
  go_enter Try.func23, Try.ntmps23
  go_wp2_with fail
  exact bodyPost_ret (results_cell_row rfl _ _ _ _ _ (0, 0) _ rfl h Try.underlying25 rfl (by kernel_rfl)) rfl ⟨rfl, hb⟩

end Go.Proofs.Ytjpnihmijnpjcaa
