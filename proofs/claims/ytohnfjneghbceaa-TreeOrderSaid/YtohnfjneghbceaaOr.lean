/-
  The order in which kids are told: the comparison, and a row of IDs sorted by it.
-/
import Derived.Test.YtohnfjneghbceaaSane3
import Derived.Lib.RowBridge
import Derived.Lib.SortBridge
namespace Go.Proofs.Ytohnfjneghbceaa
set_option maxRecDepth 100000
set_option linter.unusedVariables false
open Go.RowKit Go.Shelf Go.Sort

theorem or_any (g : Nat) (x y : Int) (w : World) (hx : w.cell? ⟨g, 0, none⟩ = some (.int .i64 x)) (hy : w.cell? ⟨g, 1, none⟩ = some (.int .i64 y)) :
    Calls Try.prog 60 #[.slice (some ⟨g, 0, none⟩) 2 2] w fun e w' => e = .returned (.int .i64 (if x = 0 then y else x)) ∧ w' = w := by
  go_enter Try.func60, Try.ntmps60
  go_wp2_with fail
  go_loopw [8] (fun iv wr => ∃ j : Nat, iv = .int .i64 (j : Int) ∧ wr = w ∧ (j = 0 ∨ (j = 1 ∧ x = 0) ∨ (j = 2 ∧ x = 0 ∧ y = 0))) (fun iv _ => 2 - (intOf iv).toNat)
  case atStart => exact ⟨0, rfl, rfl, .inl rfl⟩
  case round =>
    obtain ⟨j, rfl, hwr, h⟩ := hrel
    replace hwr := hwr.symm
    subst hwr
    rcases h with rfl | ⟨rfl, h1⟩ | ⟨rfl, h1, h2⟩
    · by_cases h0 : x = 0
      · have hb : (x == 0) = true := by simpa using h0
        have H0 := Lib.hid h0
        clear h0
        go_wp2
        go_roundw
        case rel => exact ⟨1, by simp, by trivial, .inr (.inl ⟨rfl, H0.out⟩)⟩
        case measure => simp [intOf]
      · have hb : (x == 0) = false := by simpa using h0
        have H0 := Lib.hid h0
        clear h0
        go_wp2
        go_ret
        exact ⟨by first | rfl | (rw [if_neg H0.out]; rfl), rfl⟩
    · by_cases h0 : y = 0
      · have hb : (y == 0) = true := by simpa using h0
        have H0 := Lib.hid h0
        have H1 := Lib.hid h1
        clear h0 h1
        go_wp2
        go_roundw
        case rel => exact ⟨2, by simp, by trivial, .inr (.inr ⟨rfl, H1.out, H0.out⟩)⟩
        case measure => simp [intOf]
      · have hb : (y == 0) = false := by simpa using h0
        have H0 := Lib.hid h0
        have H1 := Lib.hid h1
        clear h0 h1
        go_wp2
        go_ret
        exact ⟨by first | rfl | (rw [if_pos H1.out]; rfl), rfl⟩
    · have H1 := Lib.hid h1
      have H2 := Lib.hid h2
      clear h1 h2
      go_wp2
      go_ret
      exact ⟨by first | (have h2 := H2.out; subst h2; first | rfl | (rw [if_pos H1.out]; rfl)) | (rw [if_pos H1.out, H2.out]; rfl), rfl⟩

/-- what the comparison answers -/
def Tr.cf (T : Tr) (a b : Nat) : Int := if Lib.compareInt (T.tx b).e (T.tx a).e = 0 then Lib.compareInt (b : Int) (a : Int) else Lib.compareInt (T.tx b).e (T.tx a).e
theorem cf_neg (T : Tr) (a b : Nat) : T.cf a b < 0 ↔ ((T.tx b).e < (T.tx a).e ∨ ((T.tx b).e = (T.tx a).e ∧ b < a)) := by
  unfold Tr.cf Lib.compareInt
  by_cases h1 : (T.tx b).e < (T.tx a).e
  · simp [h1]
  · by_cases h2 : (T.tx a).e < (T.tx b).e
    · simp [h1, h2]; omega
    · have h3 : (T.tx b).e = (T.tx a).e := by omega
      simp only [h3, if_true, Int.lt_irrefl, if_false]
      by_cases h4 : b < a
      · have : (b : Int) < (a : Int) := by omega
        simp [this, h4]
      · by_cases h5 : a < b
        · have h6 : (a : Int) < (b : Int) := by omega
          have h7 : ¬ (b : Int) < (a : Int) := by omega
          simp [h6, h7]; omega
        · have h6 : ¬ (a : Int) < (b : Int) := by omega
          have h7 : ¬ (b : Int) < (a : Int) := by omega
          simp [h6, h7]; omega

theorem below_grow (w : World) (q : Nat) (os : Array Obj) : Below w.heap.size w (grow (w.drewN q) os) :=
  ⟨rfl, rfl, rfl, by show w.heap.size ≤ (w.heap ++ os).size; simp, fun k hk => by show (w.heap ++ os)[k]? = _; rw [Array.getElem?_append_left hk]⟩

set_option maxHeartbeats 2000000 in
theorem less_any (A : Option Addr) (T : Tr) (N k : Nat) (c : Int) (g a b : Nat) (ha : a < N) (hb : b < N) (hN : T.l.length = N) (hn64 : N ≤ 64) (w : World) (hT : TB w g A N k c) (hX : TxAt w A T.l) :
    Calls Try.prog 59 #[.int .i64 (a : Int), .int .i64 (b : Int), .pointer (some ⟨g, 0, none⟩)] w fun e w' => e = .returned (.int .i64 (T.cf a b)) ∧ ∃ q os, w' = grow (w.drewN q) os := by
  obtain ⟨r, hAe, hr, _, _, _, e1⟩ := hX.get (i := a) (by rw [hN]; exact ha)
  obtain ⟨r', hAe', hr', _, _, _, e2⟩ := hX.get (i := b) (by rw [hN]; exact hb)
  subst hAe
  injection hAe' with hAe'
  injection hAe' with hAe'
  subst hAe'
  obtain ⟨ea, hea⟩ : ∃ q, q = (T.tx a).e := ⟨_, rfl⟩
  obtain ⟨eb, heb⟩ : ∃ q, q = (T.tx b).e := ⟨_, rfl⟩
  obtain ⟨E1, hE1⟩ : ∃ q, q = Lib.compareInt eb ea := ⟨_, rfl⟩
  obtain ⟨E2, hE2⟩ : ∃ q, q = Lib.compareInt (b : Int) (a : Int) := ⟨_, rfl⟩
  have HCF := Lib.hid (show T.cf a b = if E1 = 0 then E2 else E1 by unfold Tr.cf; rw [hE1, hE2, hea, heb])
  rw [← hea] at e1
  rw [← heb] at e2
  have hc1 : ∀ V, Calls Try.prog 61 #[.int .i64 eb, .int .i64 ea] V fun e w' => e = .returned (.int .i64 E1) ∧ w' = V := fun V => by rw [hE1]; exact AnyG.cmp_Compare_int (P := Try.prog) (ρ := Try.cmpL_ren) Try.cmpL eb ea V
  have hc2 : ∀ V, Calls Try.prog 61 #[.int .i64 (b : Int), .int .i64 (a : Int)] V fun e w' => e = .returned (.int .i64 E2) ∧ w' = V := fun V => by rw [hE2]; exact AnyG.cmp_Compare_int (P := Try.prog) (ρ := Try.cmpL_ren) Try.cmpL b a V
  have HC1 := Lib.hid hc1
  have HC2 := Lib.hid hc2
  have HTB := Lib.hid hT
  have HE1 := Lib.hid e1
  have HE2 := Lib.hid e2
  clear hc1 hc2 hT hX hea heb hE1 hE2 e1 e2
  go_enter Try.func59, Try.ntmps59
  go_upto_region 1 with fail
  have k0 : ∀ V, (∃ os, V = grow (w.drewN 1) os) → V.cell? ⟨g, 0, none⟩ = some (.slice (some ⟨r, 0, none⟩) N k) := fun V ⟨os, e⟩ => by rw [e]; exact (HTB.out.below (below_grow w 1 os)).c0
  have k1 : ∀ V, (∃ os, V = grow (w.drewN 1) os) → V.cell? ⟨r, a * 4 + 3, none⟩ = some (.int .i64 ea) := fun V ⟨os, e⟩ => by rw [e]; exact ((below_grow w 1 os).cell (p := ⟨r, a * 4 + 3, none⟩) hr).trans HE1.out
  have k2 : ∀ V, (∃ os, V = grow (w.drewN 1) os) → V.cell? ⟨r, b * 4 + 3, none⟩ = some (.int .i64 eb) := fun V ⟨os, e⟩ => by rw [e]; exact ((below_grow w 1 os).cell (p := ⟨r, b * 4 + 3, none⟩) hr).trans HE2.out
  refine wp_region_held_drew (S := (fun V => ∃ os, V = grow (w.drewN 1) os)) (by kernel_rfl) (⟨#[], by rw [grow_empty]; rfl⟩) (fun _ => ?_)
  have hS : ((fun V => ∃ os, V = grow (w.drewN 1) os)) (World.drew w) := ⟨#[], by rw [grow_empty]; rfl⟩
  refine wpAnyH_take (i := 0) (oi := ⟨some 6, _, _, _, _, _⟩) (v := ?_) rfl (by kernel_rfl) (by kernel_rfl) (by kernel_rfl) (fun _ _ _ h => h) (Or.inl ⟨by rfl, ?_⟩) hS ?_
  rotate_left
  · intro W hW; go_simp; with_reducible rfl
  try simp only [Act.put, List.setIfInBounds_toArray, List.set_cons_zero, List.set_cons_succ]
  refine wpAnyH_take (i := 1) (oi := ⟨some 7, _, _, _, _, _⟩) (v := ?_) rfl (by kernel_rfl) (by kernel_rfl) (by kernel_rfl) (fun _ _ _ h => h) (Or.inl ⟨by rfl, ?_⟩) hS ?_
  rotate_left
  · intro W hW; go_simp; with_reducible rfl
  try simp only [Act.put, List.setIfInBounds_toArray, List.set_cons_zero, List.set_cons_succ]
  refine wpAnyH_take (i := 2) (oi := ⟨some 8, _, _, _, _, _⟩) (v := ?_) rfl (by kernel_rfl) (by kernel_rfl) (by kernel_rfl) (fun _ _ _ h => h) (Or.inl ⟨by rfl, ?_⟩) hS ?_
  rotate_left
  · intro W hW; go_simp; with_reducible rfl
  try simp only [Act.put, List.setIfInBounds_toArray, List.set_cons_zero, List.set_cons_succ]
  refine wpAnyH_take (i := 3) (oi := ⟨some 9, _, _, _, _, _⟩) (v := ?_) rfl (by kernel_rfl) (by kernel_rfl) (by kernel_rfl) (fun _ _ _ h => h) (Or.inl ⟨by rfl, ?_⟩) hS ?_
  rotate_left
  · intro W hW; go_simp; with_reducible rfl
  try simp only [Act.put, List.setIfInBounds_toArray, List.set_cons_zero, List.set_cons_succ]
  refine wpAnyH_take (i := 4) (oi := ⟨some 10, _, _, _, _, _⟩) (v := ?_) rfl (by kernel_rfl) (by kernel_rfl) (by kernel_rfl) (fun _ _ _ h => h) (Or.inl ⟨by rfl, ?_⟩) hS ?_
  rotate_left
  · intro W hW; go_simp; with_reducible rfl
  try simp only [Act.put, List.setIfInBounds_toArray, List.set_cons_zero, List.set_cons_succ]
  refine wpAnyH_take (i := 5) (oi := ⟨some 11, _, _, _, _, _⟩) (v := ?_) rfl (by kernel_rfl) (by kernel_rfl) (by kernel_rfl) (fun _ _ _ h => h) (Or.inl ⟨by rfl, ?_⟩) hS ?_
  rotate_left
  · intro W hW; go_simp; with_reducible rfl
  try simp only [Act.put, List.setIfInBounds_toArray, List.set_cons_zero, List.set_cons_succ]
  refine wpAnyH_take (i := 6) (oi := ⟨some 12, _, _, _, _, _⟩) (v := ?_) rfl (by kernel_rfl) (by kernel_rfl) (by kernel_rfl) (fun _ _ _ h => h) (Or.inl ⟨by rfl, ?_⟩) hS ?_
  rotate_left
  · intro W hW; go_simp; with_reducible rfl
  try simp only [Act.put, List.setIfInBounds_toArray, List.set_cons_zero, List.set_cons_succ]
  refine wpAnyH_take (i := 7) (oi := ⟨some 13, _, _, _, _, _⟩) (v := ?_) rfl (by kernel_rfl) (by kernel_rfl) (by kernel_rfl) (fun _ _ _ h => h) (Or.inl ⟨by rfl, ?_⟩) hS ?_
  rotate_left
  · intro W hW; go_simp; with_reducible rfl
  try simp only [Act.put, List.setIfInBounds_toArray, List.set_cons_zero, List.set_cons_succ]
  refine wpAnyH_take (i := 8) (oi := ⟨some 14, _, _, _, _, _⟩) (v := ?_) rfl (by kernel_rfl) (by kernel_rfl) (by kernel_rfl) (fun _ _ _ h => h) (Or.inl ⟨by rfl, ?_⟩) hS ?_
  rotate_left
  · intro W hW; go_simp; with_reducible rfl
  try simp only [Act.put, List.setIfInBounds_toArray, List.set_cons_zero, List.set_cons_succ]
  refine wpAnyH_take (i := 9) (oi := ⟨some 15, _, _, _, _, _⟩) (v := ?_) rfl (by kernel_rfl) (by kernel_rfl) (by kernel_rfl) (fun _ _ _ h => h) (Or.inl ⟨by rfl, ?_⟩) hS ?_
  rotate_left
  · intro W hW; go_simp; with_reducible rfl
  try simp only [Act.put, List.setIfInBounds_toArray, List.set_cons_zero, List.set_cons_succ]
  refine wpAnyH_take (i := 10) (oi := ⟨some 16, _, _, _, _, _⟩) (v := ?_) rfl (by kernel_rfl) (by kernel_rfl) (by kernel_rfl) (fun _ _ _ h => h) (Or.inl ⟨by rfl, ?_⟩) hS ?_
  rotate_left
  · intro W hW; go_simp; with_reducible rfl
  try simp only [Act.put, List.setIfInBounds_toArray, List.set_cons_zero, List.set_cons_succ]
  refine wpAnyH_take (i := 11) (oi := ⟨some 17, _, _, _, _, _⟩) (v := ?_) rfl (by kernel_rfl) (by kernel_rfl) (by kernel_rfl) (fun _ _ _ h => h) (Or.inl ⟨by rfl, ?_⟩) hS ?_
  rotate_left
  · intro W hW; go_simp; with_reducible rfl
  try simp only [Act.put, List.setIfInBounds_toArray, List.set_cons_zero, List.set_cons_succ]
  refine wpAnyH_take (i := 13) (oi := ⟨some 19, _, _, _, _, _⟩) (v := ?_) rfl (by kernel_rfl) (by kernel_rfl) (by kernel_rfl) (fun _ _ _ h => h) (Or.inl ⟨by rfl, ?_⟩) hS ?_
  rotate_left
  · intro W hW; go_simp; with_reducible rfl
  try simp only [Act.put, List.setIfInBounds_toArray, List.set_cons_zero, List.set_cons_succ]
  refine wpAnyH_take (i := 14) (oi := ⟨some 20, _, _, _, _, _⟩) (v := ?_) rfl (by kernel_rfl) (by kernel_rfl) (by kernel_rfl) (fun _ _ _ h => h) (Or.inl ⟨by rfl, ?_⟩) hS ?_
  rotate_left
  · intro W hW; go_simp; with_reducible rfl
  try simp only [Act.put, List.setIfInBounds_toArray, List.set_cons_zero, List.set_cons_succ]
  refine wpAnyH_ready (rs := [12]) (by kernel_rfl) (by simp) ?_
  refine AllReadyH.cons (o := ⟨some 18, _, _, _, _, _⟩) rfl (fun Kr hKr => ?_) AllReadyH.nil
  -- operation 12: a call
  go_simp
  refine (HC1.out _).mono ?_
  rintro e V0 ⟨rfl, hv⟩
  subst hv
  show Kr _ _
  refine hKr.out _ _ ?_ (fun _ => ?_)
  · exact hS
  clear hKr Kr
  try simp only [Act.put, List.setIfInBounds_toArray, List.set_cons_zero, List.set_cons_succ]
  refine wpAnyH_ready (rs := [15]) (by kernel_rfl) (by simp) ?_
  refine AllReadyH.cons (o := ⟨some 21, _, _, _, _, _⟩) rfl (fun Kr hKr => ?_) AllReadyH.nil
  -- operation 15: a call
  go_simp
  refine (HC2.out _).mono ?_
  rintro e V0 ⟨rfl, hv⟩
  subst hv
  show Kr _ _
  refine hKr.out _ _ ?_ (fun _ => ?_)
  · exact hS
  clear hKr Kr
  try simp only [Act.put, List.setIfInBounds_toArray, List.set_cons_zero, List.set_cons_succ]
  refine wpAnyH_ready (rs := [16]) (by kernel_rfl) (by simp) ?_
  refine AllReadyH.cons (o := ⟨some 22, _, _, _, _, _⟩) rfl (fun Kr hKr => ?_) AllReadyH.nil
  -- operation 16: a step
  go_simp
  show Kr _ _
  refine hKr.out _ _ ?_ (fun _ => ?_)
  · exact ⟨_, (show World.drew (w.alloc (.cells #[.int .i64 E1, .int .i64 E2] 3)) = (w.drewN 1).alloc (.cells #[.int .i64 E1, .int .i64 E2] 3) from rfl).trans (alloc_eq_grow _ _)⟩
  clear hKr Kr
  replace hS : ((fun V => ∃ os, V = grow (w.drewN 1) os)) ((World.drew w).alloc (.cells #[.int .i64 E1, .int .i64 E2] 3)) := ⟨_, (show World.drew (w.alloc (.cells #[.int .i64 E1, .int .i64 E2] 3)) = (w.drewN 1).alloc (.cells #[.int .i64 E1, .int .i64 E2] 3) from rfl).trans (alloc_eq_grow _ _)⟩
  try simp only [Act.put, List.setIfInBounds_toArray, List.set_cons_zero, List.set_cons_succ]
  refine wpAnyH_ready (rs := [17]) (by kernel_rfl) (by simp) ?_
  refine AllReadyH.cons (o := ⟨some 23, _, _, _, _, _⟩) rfl (fun Kr hKr => ?_) AllReadyH.nil
  -- operation 17: a call
  go_simp
  refine (or_any w.heap.size E1 E2 _ ((cell_new (World.drew w) #[.int .i64 E1, .int .i64 E2] 3 0).trans rfl) ((cell_new (World.drew w) #[.int .i64 E1, .int .i64 E2] 3 1).trans rfl)).mono ?_
  rintro e V0 ⟨rfl, hv⟩
  subst hv
  show Kr _ _
  refine hKr.out _ _ ?_ (fun _ => ?_)
  · exact hS
  clear hKr Kr
  try simp only [Act.put, List.setIfInBounds_toArray, List.set_cons_zero, List.set_cons_succ]
  refine wpAnyH_take (i := 18) (oi := ⟨some 5, _, _, _, _, _⟩) (v := ?_) rfl (by kernel_rfl) (by kernel_rfl) (by kernel_rfl) (fun _ _ _ h => h) (Or.inl ⟨by rfl, ?_⟩) hS ?_
  rotate_left
  · intro W hW; go_simp; with_reducible rfl
  try simp only [Act.put, List.setIfInBounds_toArray, List.set_cons_zero, List.set_cons_succ]
  refine wpAnyH_done (by kernel_rfl) ?_ _
  have hfin := hS
  rw [← HCF.out]
  go_wp2
  go_ret
  exact ⟨rfl, 1, hfin⟩

end Go.Proofs.Ytohnfjneghbceaa
