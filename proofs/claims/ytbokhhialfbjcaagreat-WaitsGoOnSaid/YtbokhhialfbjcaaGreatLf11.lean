/-
  Who can go on that waits for nothing.
-/
import Derived.Test.YtbokhhialfbjcaaGreatWe11
import Derived.Test.YtbokhhialfbjcaaGreatQueueWalk
namespace Go.Proofs.YtbokhhialfbjcaaGreat
set_option maxRecDepth 100000
set_option linter.unusedVariables false
set_option linter.unusedSimpArgs false
open Go.RowKit Go.Shelf Go.Sort

theorem hasL_no {Q : List Wn} {i : Nat} (h : hasL Q (i : Int) = false) : ∀ y ∈ Q, y.x ≠ i := fun y hy e => by
  unfold hasL at h
  have h2 := List.any_eq_false.1 h y hy
  simp at h2
  omega
theorem hasL_yes {Q : List Wn} {i : Nat} (h : hasL Q (i : Int) = true) : ∃ y ∈ Q, y.x = i := by
  unfold hasL at h
  obtain ⟨y, hy, e⟩ := List.any_eq_true.1 h
  exact ⟨y, hy, by simp at e; omega⟩

def LeafOut (T : Tr) (Q : List Wn) (id : Nat) (w : World) (e : Ending) (w' : World) : Prop := ∃ r : Bool, e = .returned (.bool r) ∧ (r = true ↔ leafR T Q id) ∧ w' = w
theorem LeafOut.yes {T : Tr} {Q : List Wn} {id : Nat} {w : World} (h : leafR T Q id) : LeafOut T Q id w (.returned (.bool true)) w := ⟨true, rfl, ⟨fun _ => h, fun _ => rfl⟩, rfl⟩
theorem LeafOut.no {T : Tr} {Q : List Wn} {id : Nat} {w : World} (h : ¬ leafR T Q id) : LeafOut T Q id w (.returned (.bool false)) w := ⟨false, rfl, ⟨fun e => (by cases e), fun e => absurd e h⟩, rfl⟩
def GoesOut (T : Tr) (L : List Lk) (Q : List Wn) (w : World) (e : Ending) (w' : World) : Prop := ∃ r : Bool, e = .returned (.bool r) ∧ (r = true ↔ ((∃ x, leafR T Q x) ∨ rdyL T L Q ≠ [])) ∧ Below w.heap.size w w'
theorem GoesOut.of {T : Tr} {L : List Lk} {Q : List Wn} {w w' : World} {r : Bool} (h : r = true ↔ ((∃ x, leafR T Q x) ∨ rdyL T L Q ≠ [])) (hb : Below w.heap.size w w') : GoesOut T L Q w (.returned (.bool r)) w' := ⟨r, rfl, h, hb⟩

set_option maxHeartbeats 2000000 in
theorem leaf_any (p : Nat) (A : Option Addr) (n k : Nat) (c : Int) (T : Tr) (B : Option Addr) (m kb : Nat) (L : List Lk) (C : Option Addr) (nq kq : Nat) (Q : List Wn) (id : Nat) (hid : id < n) (hn24 : n ≤ 24) (hnq : nq ≤ 64) (w : World) (hw : Wp w p A n k c T B m kb L C nq kq Q) :
    Calls Tryz.prog 26 #[.pointer (some ⟨p, 0, none⟩), .int .i64 (id : Int)] w (LeafOut T Q id w) := by
  have HW := Lib.hid hw
  have c0 := hw.c0
  have HWA := Lib.hid (waiting_any p A n k c T B m kb L C nq kq Q (id : Int) hnq w hw)
  obtain ⟨bp, hAe, hbp, c1, c2, c3, c4⟩ := hw.x.get (i := id) (by rw [hw.hn]; exact hid)
  subst hAe
  obtain ⟨sid, hs⟩ : ∃ s, (T.tx id).s = s := ⟨_, rfl⟩
  rw [hs] at c2
  have HS := Lib.hid hs
  clear hw c1 c3 c4 hs hbp
  go_enter Tryz.func26, Tryz.ntmps26
  by_cases h1 : sid = 1
  · have h1b : (sid == 1) = true := by simpa using h1
    have h1n : (sid != 1) = false := by simpa using h1
    obtain ⟨wt, hwt⟩ : ∃ wt, wt = hasL Q (id : Int) := ⟨_, rfl⟩
    rw [← hwt] at HWA
    have HWT := Lib.hid hwt
    have HS1 := Lib.hid (show (T.tx id).s = 1 by rw [HS.out, h1])
    clear h1 hwt
    go_wp2_with fail
    refine HWA.out.mono ?_
    rintro e w2 ⟨rfl, hw2⟩
    replace hw2 := hw2.symm
    subst hw2
    cases wt
    · have HNO := Lib.hid (hasL_no HWT.out.symm)
      clear c2
      go_wp2_with fail
      go_loopw [5] (fun iv wr => ∃ i : Nat, iv = .int .i64 (i : Int) ∧ i ≤ n ∧ Hid (∀ j, j < i → (T.tx j).p = (id : Int) → (T.tx j).s ≠ 1) ∧ wr = w) (fun iv _ => n - (intOf iv).toNat)
      case atStart => exact ⟨0, rfl, Nat.zero_le _, (fun j hj => absurd hj (Nat.not_lt_zero _)), by first | trivial | rfl⟩
      case round =>
        obtain ⟨i, rfl, hi, HK, hww⟩ := hrel
        replace hww := hww.symm
        subst hww
        rcases Nat.lt_or_ge i n with hlt | hge
        · obtain ⟨bp', hAe, hbp, c1, c2, _, _⟩ := HW.out.x.get (i := i) (by rw [HW.out.hn]; exact hlt)
          injection hAe with hAe
          injection hAe with hAe
          subst hAe
          obtain ⟨pa, hpa⟩ : ∃ s, (T.tx i).p = s := ⟨_, rfl⟩
          obtain ⟨si, hsi⟩ : ∃ s, (T.tx i).s = s := ⟨_, rfl⟩
          rw [hpa] at c1
          rw [hsi] at c2
          have HPA := Lib.hid hpa
          have HSI := Lib.hid hsi
          clear hpa hsi hbp
          by_cases hp : pa = (id : Int)
          · have hpb : (pa == (id : Int)) = true := by simpa using hp
            by_cases hs : si = 1
            · have hsb : (si == 1) = true := by simpa using hs
              have HNL := Lib.hid (show ¬ leafR T Q id from fun h => h.2.2.2 i (by rw [HW.out.hn]; exact hlt) (by rw [HPA.out]; exact hp) (by rw [HSI.out]; exact hs))
              clear hp hs
              go_wp2_with fail
              go_ret
              exact LeafOut.no HNL.out
            · have hsb : (si == 1) = false := by simpa using hs
              have HK2 := Lib.hid (show ∀ j, j < i + 1 → (T.tx j).p = (id : Int) → (T.tx j).s ≠ 1 from fun j hj => by
                rcases Nat.lt_or_ge j i with h | h
                · exact HK.out j h
                · obtain rfl : j = i := by omega
                  intro _; rw [HSI.out]; exact hs)
              clear hp hs
              go_wp2_with fail
              go_roundw
              case rel => exact ⟨i + 1, by simp, by omega, HK2.out, by first | trivial | rfl⟩
              case measure => simp [intOf]; omega
          · have hpb : (pa == (id : Int)) = false := by simpa using hp
            have HK2 := Lib.hid (show ∀ j, j < i + 1 → (T.tx j).p = (id : Int) → (T.tx j).s ≠ 1 from fun j hj => by
              rcases Nat.lt_or_ge j i with h | h
              · exact HK.out j h
              · obtain rfl : j = i := by omega
                intro h2; rw [HPA.out] at h2; exact absurd h2 hp)
            clear hp
            go_wp2_with fail
            go_roundw
            case rel => exact ⟨i + 1, by simp, by omega, HK2.out, by first | trivial | rfl⟩
            case measure => simp [intOf]; omega
        · have hin : i = n := by omega
          subst hin
          have HLF := Lib.hid (show leafR T Q id from ⟨by rw [HW.out.hn]; exact hid, HS1.out, HNO.out, fun j hj => HK.out j (by rw [← HW.out.hn]; exact hj)⟩)
          go_wp2_with fail
          go_ret
          exact LeafOut.yes HLF.out
    · have HNL := Lib.hid (show ¬ leafR T Q id from fun h => by
        obtain ⟨y, hy, e⟩ := hasL_yes HWT.out.symm
        exact h.2.2.1 y hy e)
      go_wp2_with fail
      go_ret
      exact LeafOut.no HNL.out
  · have h1b : (sid == 1) = false := by simpa using h1
    have h1n : (sid != 1) = true := by simpa using h1
    have HNL := Lib.hid (show ¬ leafR T Q id from fun h => h1 (by rw [← HS.out]; exact h.2.1))
    clear h1
    go_wp2_with fail
    go_ret
    exact LeafOut.no HNL.out

set_option maxHeartbeats 2000000 in
theorem goes_any (p : Nat) (A : Option Addr) (n k : Nat) (c : Int) (T : Tr) (B : Option Addr) (m kb : Nat) (L : List Lk) (C : Option Addr) (nq kq : Nat) (Q : List Wn) (hn24 : n ≤ 24) (hwt : Wt T L Q) (hsq : SQ Q) (w : World) (hw : Wp w p A n k c T B m kb L C nq kq Q) :
    Calls Tryz.prog 9 #[.pointer (some ⟨p, 0, none⟩)] w (GoesOut T L Q w) := by
  have HW := Lib.hid hw
  have c0 := hw.c0
  have c1 := hw.c1
  have c2 := hw.c2
  have c3 := hw.c3
  obtain ⟨q, hq⟩ : ∃ q, q = (rdyL T L Q).length := ⟨_, rfl⟩
  have HQ := Lib.hid hq
  have hq64 : q ≤ 64 := by
    rw [hq]
    unfold rdyL rdyN
    rw [List.length_map]
    have h1 := List.length_filter_le (fun i => (outN T L Q i).isEmpty) (List.range Q.length)
    rw [List.length_range] at h1
    have := hsq.n
    omega
  have HRD := Lib.hid (show ∀ V, Since w V → Calls Tryz.prog 27 #[.agg #[.slice C nq kq], .agg #[.slice B m kb], .agg #[.slice A n k, .int .i64 c]] V fun e w' => ∃ R8 k8, e = .returned (.slice R8 q k8) ∧ Below V.heap.size V w' from fun V hV => by
    refine (ready_any C Q nq kq B L m kb A T n k c hsq hw.hq hwt.apt.tab hw.hm hw.hk hwt.apt.good hw.hn V (hw.below hV).q (hw.below hV).l (hw.below hV).x).mono ?_
    rintro e w' ⟨v, rfl, ho, hb⟩
    obtain ⟨R8, k8, rfl, h1, h2, h3⟩ := Rk.Own.form rw_ok ho
    exact ⟨R8, k8, by rw [HQ.out], hb⟩)
  have HNQ := Lib.hid (show nq ≤ 64 by rw [← hw.hq]; exact hsq.n)
  have s0 : ∀ V, Since w V → V.cell? ⟨p, 0, none⟩ = some (.slice A n k) := fun V hV => (HW.out.below hV).c0
  have s1 : ∀ V, Since w V → V.cell? ⟨p, 1, none⟩ = some (.int .i64 c) := fun V hV => (HW.out.below hV).c1
  have s2 : ∀ V, Since w V → V.cell? ⟨p, 2, none⟩ = some (.slice B m kb) := fun V hV => (HW.out.below hV).c2
  have s3 : ∀ V, Since w V → V.cell? ⟨p, 3, none⟩ = some (.slice C nq kq) := fun V hV => (HW.out.below hV).c3
  clear hw hwt hsq hq c1 c2 c3
  go_enter Tryz.func9, Tryz.ntmps9
  go_wp2_with fail
  go_loopw [3] (fun iv wr => ∃ i : Nat, iv = .int .i64 (i : Int) ∧ i ≤ n ∧ Hid (∀ j, j < i → ¬ leafR T Q j) ∧ wr = w) (fun iv _ => n - (intOf iv).toNat)
  case atStart => exact ⟨0, rfl, Nat.zero_le _, (fun j hj => absurd hj (Nat.not_lt_zero _)), by first | trivial | rfl⟩
  case round =>
    obtain ⟨i, rfl, hi, HK, hww⟩ := hrel
    replace hww := hww.symm
    subst hww
    rcases Nat.lt_or_ge i n with hlt | hge
    · go_wp2_with fail
      refine (leaf_any p A n k c T B m kb L C nq kq Q i hlt hn24 HNQ.out w HW.out).mono ?_
      rintro e w2 ⟨r, rfl, hr, hw2⟩
      replace hw2 := hw2.symm
      subst hw2
      cases r
      · have HK2 := Lib.hid (show ∀ j, j < i + 1 → ¬ leafR T Q j from fun j hj => by
          rcases Nat.lt_or_ge j i with h | h
          · exact HK.out j h
          · obtain rfl : j = i := by omega
            intro h2; have := hr.2 h2; cases this)
        clear hr
        go_wp2_with fail
        go_roundw
        case rel => exact ⟨i + 1, by simp, by omega, HK2.out, by first | trivial | rfl⟩
        case measure => simp [intOf]; omega
      · have HL := Lib.hid (hr.1 rfl)
        clear hr
        go_wp2_with fail
        go_ret
        exact GoesOut.of ⟨fun _ => .inl ⟨i, HL.out⟩, fun _ => rfl⟩ (Below.refl _ _)
    · have hin : i = n := by omega
      subst hin
      have HNL := Lib.hid (show ¬ ∃ x, leafR T Q x from fun ⟨x, hx⟩ => HK.out x (by have := hx.1; rw [HW.out.hn] at this; exact this) hx)
      have HEND := Lib.hid (show (0 < q ↔ ((∃ x, leafR T Q x) ∨ rdyL T L Q ≠ [])) by
        rw [HQ.out, List.length_pos_iff]
        exact ⟨.inr, fun h => h.resolve_left HNL.out⟩)
      go_upto_region 6 with fail
      refine wp_region_since (by kernel_rfl) ?_
      have hS : Since w (World.drew w) := (Below.refl _ _).drew
      refine wpAnyH_take (i := 0) (oi := ⟨some 17, _, _, _, _, _⟩) (v := ?_) rfl (by kernel_rfl) (by kernel_rfl) (by kernel_rfl) (fun _ _ _ h => h) (Or.inl ⟨by rfl, ?_⟩) hS ?_
      rotate_left
      · intro W hW; go_simp; with_reducible rfl
      try simp only [Act.put, List.setIfInBounds_toArray, List.set_cons_zero, List.set_cons_succ]
      refine wpAnyH_take (i := 1) (oi := ⟨some 18, _, _, _, _, _⟩) (v := ?_) rfl (by kernel_rfl) (by kernel_rfl) (by kernel_rfl) (fun _ _ _ h => h) (Or.inl ⟨by rfl, ?_⟩) hS ?_
      rotate_left
      · intro W hW; go_simp; with_reducible rfl
      try simp only [Act.put, List.setIfInBounds_toArray, List.set_cons_zero, List.set_cons_succ]
      refine wpAnyH_take (i := 2) (oi := ⟨some 19, _, _, _, _, _⟩) (v := ?_) rfl (by kernel_rfl) (by kernel_rfl) (by kernel_rfl) (fun _ _ _ h => h) (Or.inl ⟨by rfl, ?_⟩) hS ?_
      rotate_left
      · intro W hW; go_simp; with_reducible rfl
      try simp only [Act.put, List.setIfInBounds_toArray, List.set_cons_zero, List.set_cons_succ]
      refine wpAnyH_take (i := 3) (oi := ⟨some 20, _, _, _, _, _⟩) (v := ?_) rfl (by kernel_rfl) (by kernel_rfl) (by kernel_rfl) (fun _ _ _ h => h) (Or.inl ⟨by rfl, ?_⟩) hS ?_
      rotate_left
      · intro W hW; go_simp; with_reducible rfl
      try simp only [Act.put, List.setIfInBounds_toArray, List.set_cons_zero, List.set_cons_succ]
      refine wpAnyH_take (i := 4) (oi := ⟨some 21, _, _, _, _, _⟩) (v := ?_) rfl (by kernel_rfl) (by kernel_rfl) (by kernel_rfl) (fun _ _ _ h => h) (Or.inl ⟨by rfl, ?_⟩) hS ?_
      rotate_left
      · intro W hW; go_simp; with_reducible rfl
      try simp only [Act.put, List.setIfInBounds_toArray, List.set_cons_zero, List.set_cons_succ]
      refine wpAnyH_take (i := 5) (oi := ⟨some 22, _, _, _, _, _⟩) (v := ?_) rfl (by kernel_rfl) (by kernel_rfl) (by kernel_rfl) (fun _ _ _ h => h) (Or.inl ⟨by rfl, ?_⟩) hS ?_
      rotate_left
      · intro W hW; go_simp; with_reducible rfl
      try simp only [Act.put, List.setIfInBounds_toArray, List.set_cons_zero, List.set_cons_succ]
      refine wpAnyH_take (i := 6) (oi := ⟨some 23, _, _, _, _, _⟩) (v := ?_) rfl (by kernel_rfl) (by kernel_rfl) (by kernel_rfl) (fun _ _ _ h => h) (Or.inl ⟨by rfl, ?_⟩) hS ?_
      rotate_left
      · intro W hW; go_simp; with_reducible rfl
      try simp only [Act.put, List.setIfInBounds_toArray, List.set_cons_zero, List.set_cons_succ]
      refine wpAnyH_take (i := 7) (oi := ⟨some 24, _, _, _, _, _⟩) (v := ?_) rfl (by kernel_rfl) (by kernel_rfl) (by kernel_rfl) (fun _ _ _ h => h) (Or.inl ⟨by rfl, ?_⟩) hS ?_
      rotate_left
      · intro W hW; go_simp; with_reducible rfl
      try simp only [Act.put, List.setIfInBounds_toArray, List.set_cons_zero, List.set_cons_succ]
      refine wpAnyH_take (i := 8) (oi := ⟨some 25, _, _, _, _, _⟩) (v := ?_) rfl (by kernel_rfl) (by kernel_rfl) (by kernel_rfl) (fun _ _ _ h => h) (Or.inl ⟨by rfl, ?_⟩) hS ?_
      rotate_left
      · intro W hW; go_simp; with_reducible rfl
      try simp only [Act.put, List.setIfInBounds_toArray, List.set_cons_zero, List.set_cons_succ]
      refine wpAnyH_take (i := 9) (oi := ⟨some 26, _, _, _, _, _⟩) (v := ?_) rfl (by kernel_rfl) (by kernel_rfl) (by kernel_rfl) (fun _ _ _ h => h) (Or.inl ⟨by rfl, ?_⟩) hS ?_
      rotate_left
      · intro W hW; go_simp; with_reducible rfl
      try simp only [Act.put, List.setIfInBounds_toArray, List.set_cons_zero, List.set_cons_succ]
      refine wpAnyH_take (i := 10) (oi := ⟨some 27, _, _, _, _, _⟩) (v := ?_) rfl (by kernel_rfl) (by kernel_rfl) (by kernel_rfl) (fun _ _ _ h => h) (Or.inl ⟨by rfl, ?_⟩) hS ?_
      rotate_left
      · intro W hW; go_simp; with_reducible rfl
      try simp only [Act.put, List.setIfInBounds_toArray, List.set_cons_zero, List.set_cons_succ]
      refine wpAnyH_take (i := 11) (oi := ⟨some 28, _, _, _, _, _⟩) (v := ?_) rfl (by kernel_rfl) (by kernel_rfl) (by kernel_rfl) (fun _ _ _ h => h) (Or.inl ⟨by rfl, ?_⟩) hS ?_
      rotate_left
      · intro W hW; go_simp; with_reducible rfl
      try simp only [Act.put, List.setIfInBounds_toArray, List.set_cons_zero, List.set_cons_succ]
      refine wpAnyH_ready (rs := [12]) (by kernel_rfl) (by simp) ?_
      refine AllReadyH.cons (o := ⟨some 29, _, _, _, _, _⟩) rfl (fun Kr hKr => ?_) AllReadyH.nil
      -- operation 12: a call
      go_simp
      refine (HRD.out _ hS).mono ?_
      rintro e w3 ⟨R8, k8, rfl, hb3⟩
      show Kr _ _
      refine hKr.out _ _ ?_ (fun _ => ?_)
      · exact since_trans hS hb3
      clear hKr Kr
      replace hS : Since w w3 := since_trans hS hb3
      try simp only [Act.put, List.setIfInBounds_toArray, List.set_cons_zero, List.set_cons_succ]
      refine wpAnyH_take (i := 13) (oi := ⟨some 30, _, _, _, _, _⟩) (v := ?_) rfl (by kernel_rfl) (by kernel_rfl) (by kernel_rfl) (fun _ _ _ h => h) (Or.inl ⟨by rfl, ?_⟩) hS ?_
      rotate_left
      · intro W hW; go_simp; with_reducible rfl
      try simp only [Act.put, List.setIfInBounds_toArray, List.set_cons_zero, List.set_cons_succ]
      refine wpAnyH_take (i := 14) (oi := ⟨some 31, _, _, _, _, _⟩) (v := ?_) rfl (by kernel_rfl) (by kernel_rfl) (by kernel_rfl) (fun _ _ _ h => h) (Or.inl ⟨by rfl, ?_⟩) hS ?_
      rotate_left
      · intro W hW; go_simp; with_reducible rfl
      try simp only [Act.put, List.setIfInBounds_toArray, List.set_cons_zero, List.set_cons_succ]
      refine wpAnyH_take (i := 15) (oi := ⟨some 2, _, _, _, _, _⟩) (v := ?_) rfl (by kernel_rfl) (by kernel_rfl) (by kernel_rfl) (fun _ _ _ h => h) (Or.inl ⟨by rfl, ?_⟩) hS ?_
      rotate_left
      · intro W hW; go_simp; with_reducible rfl
      try simp only [Act.put, List.setIfInBounds_toArray, List.set_cons_zero, List.set_cons_succ]
      refine wpAnyH_done (by kernel_rfl) ?_ _
      have HB := Lib.hid hS
      clear hS hb3
      go_wp2_with fail
      go_ret
      exact GoesOut.of (by rw [← HEND.out]; simp) HB.out
end Go.Proofs.YtbokhhialfbjcaaGreat
