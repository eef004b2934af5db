/-
  Rows cut; the pends of a counter; whether a counter stays in its bounds.
-/
import Derived.Test.YtogngghfdcpeaaaKd
namespace Go.Proofs.Ytogngghfdcpeaaa
set_option maxRecDepth 100000
set_option linter.unusedVariables false
set_option linter.unusedSimpArgs false
open Go.RowKit

section
variable {α : Type} {R : Rk α} {W : World} {A : Option Addr} {n c k : Nat} {l : List α}
/-- 'l[k:]', in every world -/
theorem Rk.cut_from (hR : R.Ok) (hu : Try.prog.underlying R.s = some (.slice (Try.prog.elem R.s))) (hsz : ∀ V : World, (Go.sizeOf (Try.prog.elem R.s)).run Try.prog V = .ok R.m V) (hl : R.At W A l) (hn : l.length = n) (hc : n ≤ c) (hs : c = 0 ∨ Sp A) (hk : k ≤ n) :
    ∃ A' c', R.At W A' (l.drop k) ∧ n - k ≤ c' ∧ (c' = 0 ∨ Sp A') ∧ (∀ b o, A' = some ⟨b, o, none⟩ → ∃ o', A = some ⟨b, o', none⟩) ∧
      (∀ V : World, (Instr.slice R.s (.slice A n c) (some (.int .i64 (k : Int))) none none).run Try.prog V = .ok (.slice A' (n - k) c') V) ∧
      (∀ V : World, (Instr.sliceAt R.s (.slice A n c) (some (.int .i64 (k : Int))) none none).run Try.prog V = .ok (.slice A' (n - k) c') V) := by
  have hrun : ∀ V : World, (Instr.slice R.s (.slice A n c) (some (.int .i64 (k : Int))) none none).run Try.prog V = .ok (sliced A k n c R.m) V := fun V => by
    rw [run_slice_l V R.s A n c hu .i64 (k : Int) (by omega) (by omega), hsz V]
    simp [Result.andThen]
  have hlen : (l.drop k).length = n - k := by rw [List.length_drop, hn]
  obtain ⟨A', hA1, hA2, hA4, hA3⟩ : ∃ A', R.At W A' (l.drop k) ∧ (c - k = 0 ∨ Sp A') ∧ (∀ b o, A' = some ⟨b, o, none⟩ → ∃ o', A = some ⟨b, o', none⟩) ∧ sliced A k n c R.m = .slice A' (n - k) (c - k) := by
    unfold sliced
    by_cases e : c = k
    · have h0 : l.drop k = [] := List.eq_nil_of_length_eq_zero (by omega)
      exact ⟨A, .inl h0, .inl (by omega), fun b o e => ⟨o, e⟩, by rw [if_pos e]⟩
    · rcases hs with h | h
      · omega
      · rcases h with rfl | ⟨b, o, rfl⟩
        · refine ⟨none, ?_, .inr (.inl rfl), (fun b o e => by cases e), by rw [if_neg e]; rfl⟩
          rcases hl with h | ⟨b, o, e, _⟩
          · rw [h]; exact .inl (by simp)
          · cases e
        · refine ⟨some ⟨b, o + k * R.m, none⟩, ?_, .inr (.inr ⟨_, _, rfl⟩), (fun b' o' e' => by injection e' with e'; injection e' with e1 e2; subst e1; exact ⟨o, rfl⟩), by rw [if_neg e, Option.map_some, addr_add]⟩
          have h1 := hl
          rw [← List.take_append_drop k l] at h1
          exact h1.right hR (n := k) (by rw [List.length_take, hn]; omega)
  refine ⟨A', c - k, hA1, by omega, hA2, hA4, fun V => by rw [hrun V, hA3], fun V => ?_⟩
  rw [run_sliceAt_slice V R.s _ _ _ _ hu, hrun V, hA3]
/-- 'l[:k]' -/
theorem Rk.cut_to (hR : R.Ok) (hu : Try.prog.underlying R.s = some (.slice (Try.prog.elem R.s))) (hsz : ∀ V : World, (Go.sizeOf (Try.prog.elem R.s)).run Try.prog V = .ok R.m V) (hl : R.At W A l) (hn : l.length = n) (hc : n ≤ c) (hs : c = 0 ∨ Sp A) (hk : k ≤ n) :
    ∃ A', R.At W A' (l.take k) ∧ (c = 0 ∨ Sp A') ∧
      (∀ V : World, (Instr.slice R.s (.slice A n c) none (some (.int .i64 (k : Int))) none).run Try.prog V = .ok (.slice A' k c) V) ∧
      (∀ V : World, (Instr.sliceAt R.s (.slice A n c) none (some (.int .i64 (k : Int))) none).run Try.prog V = .ok (.slice A' k c) V) := by
  have hrun : ∀ V : World, (Instr.slice R.s (.slice A n c) none (some (.int .i64 (k : Int))) none).run Try.prog V = .ok (sliced A 0 k c R.m) V := fun V => by
    rw [run_slice_h V R.s A n c hu .i64 (k : Int) (by omega) (by omega), hsz V]
    simp [Result.andThen]
  have hlen : (l.take k).length = k := by rw [List.length_take, hn]; omega
  obtain ⟨A', hA1, hA2, hA3⟩ : ∃ A', R.At W A' (l.take k) ∧ (c = 0 ∨ Sp A') ∧ sliced A 0 k c R.m = .slice A' k c := by
    unfold sliced
    by_cases e : c = 0
    · have h0 : l.take k = [] := List.eq_nil_of_length_eq_zero (by omega)
      exact ⟨A, .inl h0, .inl e, by rw [if_pos e]; rfl⟩
    · rcases hs with h | h
      · omega
      · refine ⟨A, hl.take k, .inr h, ?_⟩
        rw [if_neg e]
        rcases h with rfl | ⟨b, o, rfl⟩
        · rfl
        · rw [Nat.zero_mul, Option.map_some, addr_add]; rfl
  refine ⟨A', hA1, hA2, fun V => by rw [hrun V, hA3], fun V => ?_⟩
  rw [run_sliceAt_slice V R.s _ _ _ _ hu, hrun V, hA3]
end
theorem rp_sz : ∀ V : World, (Go.sizeOf (Try.prog.elem RPo.s)).run Try.prog V = .ok RPo.m V := fun V => Try.sizeOf75 V

set_option maxHeartbeats 1000000 in
theorem on_any (A B : Option Addr) (n a m b : Nat) (P : List Pd) (k : Int) (hk : -1000 ≤ k ∧ k ≤ 1000) (hr : Rise P) (hx : ∀ p ∈ P, 0 ≤ p.x) (hP : P.length = m) (hm : m ≤ 100000) (hmb : m ≤ b) (hsp : b = 0 ∨ Sp B) (w : World) (hB : RPo.At w B P) :
    Calls Try.prog 31 #[tbV A n a B m b, .int .i64 k] w fun e w' => ∃ A' n' c', e = .returned (.slice A' n' c') ∧ RPo.At w' A' (onL P k) ∧ (onL P k).length = n' ∧ Below w.heap.size w w' := by
  obtain ⟨L1, L2, hp, h1, h2⟩ := rise_split hr (keyP k 0)
  have hr2 : Rise L2 := hr.sub (by rw [hp]; exact List.sublist_append_right _ _)
  obtain ⟨M1, M2, hq, q1, q2⟩ := rise_split hr2 (keyP (k + 1) 0)
  have HON := Lib.hid (on_parts hx hp h1 h2 hq q1 q2)
  have hl1 : L1.length + L2.length = m := by rw [← hP, hp, List.length_append]
  have hl2 : M1.length + M2.length = L2.length := by rw [hq, List.length_append]
  have hp1 := fun V (hV : Below w.heap.size w V) => place_any B m b P L1 L2 0 k hP hm V (hB.below hV) hp h1 h2
  obtain ⟨A2, c2, k1, k2, k3, _, k4, k5⟩ := Rk.cut_from rp_oko Try.underlying32 rp_sz hB hP hmb hsp (k := L1.length) (by omega)
  have hd : P.drop L1.length = L2 := by rw [hp, List.drop_left]
  rw [hd] at k1
  have hlen2 : L2.length = m - L1.length := by omega
  have hp2 := fun V (hV : Below w.heap.size w V) => place_any A2 (m - L1.length) c2 L2 M1 M2 0 (k + 1) hlen2 (by omega) V (k1.below hV) hq q1 q2
  obtain ⟨A3, j1, j2, j3, j4⟩ := Rk.cut_to rp_oko Try.underlying32 rp_sz k1 hlen2 k2 k3 (k := M1.length) (by omega)
  have hd3 : L2.take M1.length = M1 := by rw [hq, List.take_left]
  rw [hd3] at j1
  have HJ := Lib.hid j1
  generalize thereB (keyP k 0) L2 = b1 at *
  generalize thereB (keyP (k + 1) 0) M2 = b2 at *
  rw [← HON.out]
  have HLM := Lib.hid (show M1.length = M1.length from rfl)
  obtain ⟨l1, e1⟩ : ∃ q, L1.length = q := ⟨_, rfl⟩
  obtain ⟨l2, e2⟩ : ∃ q, M1.length = q := ⟨_, rfl⟩
  have HL2 := Lib.hid e2
  rw [e1] at hp1 k4 k5 hp2 j3 j4
  rw [e2] at hp2 j3 j4
  obtain ⟨m2, e3⟩ : ∃ q, m - l1 = q := ⟨_, rfl⟩
  rw [e3] at k4 k5 hp2 j3 j4
  have hw : IntKind.i64.wrap (k + 1) = k + 1 := by rw [IntKind.wrap_i64]; omega
  have hle1 : (l1 : Int) ≤ (m : Int) := by omega
  replace k4 : ∀ V : World, (Instr.slice 32 (.slice B m b) (some (.int .i64 (l1 : Int))) none none).run Try.prog V = .ok (.slice A2 m2 c2) V := k4
  replace k5 : ∀ V : World, (Instr.sliceAt 32 (.slice B m b) (some (.int .i64 (l1 : Int))) none none).run Try.prog V = .ok (.slice A2 m2 c2) V := k5
  replace j3 : ∀ V : World, (Instr.slice 32 (.slice A2 m2 c2) none (some (.int .i64 (l2 : Int))) none).run Try.prog V = .ok (.slice A3 l2 c2) V := j3
  replace j4 : ∀ V : World, (Instr.sliceAt 32 (.slice A2 m2 c2) none (some (.int .i64 (l2 : Int))) none).run Try.prog V = .ok (.slice A3 l2 c2) V := j4
  have HX := Lib.hid (Bk.new w (tbC A n a B m b) 34)
  have HB := Lib.hid (below_new w (.cells (tbC A n a B m b) 34))
  clear hp h1 h2 hq q1 q2 hl1 hl2 hd hlen2 hd3 j1 k1 k2 k3 j2 hB hr hr2 hx hP e1 e2 e3 hsp hmb hk
  go_enter Try.func31, Try.ntmps31
  go_wp2_with fail
  refine (hp1 _ HB.out).mono ?_
  rintro e w1 ⟨rfl, hv⟩
  replace HX := Lib.hid (HX.out.below hv)
  replace HB := Lib.hid (HB.out.trans (hv.mono HB.out.size))
  clear hv hp1
  have x1 := HX.out.t1
  go_wp2_with fail
  refine (hp2 _ HB.out).mono ?_
  rintro e w2 ⟨rfl, hv⟩
  replace HX := Lib.hid (HX.out.below hv)
  replace HB := Lib.hid (HB.out.trans (hv.mono HB.out.size))
  clear hv hp2 x1
  have x1 := HX.out.t1
  go_wp2_with fail
  go_ret
  exact ⟨_, _, _, rfl, HJ.out.below HB.out, HL2.out, HB.out⟩

/-- does a counter stay in its bounds, whichever of these count? -/
def staysC (c : Ct) (l : List Int) : Bool := decide (reachE 0 l = 0) && fitsB c.lo c.hi c.v l
theorem fits_stays (t : Tb) (k : Nat) (z : Int) : t.fits k z = staysC (t.C.getD k ctD) (sumsOf t.P (k : Int) ++ [z]) := rfl
theorem stays_zero (c : Ct) (l : List Int) (hl : l.length < 4096) : staysC c (l ++ [0]) = staysC c l := by
  have e1 : ∀ v, loI v (l ++ [0]) = loI v l := fun v => by rw [lo_one]; simp
  have e2 : ∀ v, hiI v (l ++ [0]) = hiI v l := fun v => by rw [hi_one]; simp
  have e3 : ∀ v, reachE v (l ++ [0]) = reachE v l := fun v => by
    have a1 : ¬ 4096 < (l ++ [(0 : Int)]).length := by simp; omega
    have a2 : ¬ 4096 < l.length := by omega
    unfold reachE
    rw [e1, e2, if_neg a1, if_neg a2]
  unfold staysC fitsB
  rw [e3, e3, e1, e2]

set_option maxHeartbeats 1000000 in
theorem staysC_any (lo hi v : Int) (hv : okI v) (A : Option Addr) (n c : Nat) (l : List Int) (w : World) (hl : Ls w A n l) :
    Calls Try.prog 29 #[.agg #[.int .i64 lo, .int .i64 hi, .int .i64 v], .slice A n c] w fun e w' => e = .returned (.bool (staysC ⟨lo, hi, v⟩ l)) ∧ Below w.heap.size w w' := by
  have HX := Lib.hid (Bk.new w #[.int .i64 lo, .int .i64 hi, .int .i64 v] 67)
  have HB := Lib.hid (below_new w (.cells #[.int .i64 lo, .int .i64 hi, .int .i64 v] 67))
  have hr := fun V hV => reach_any 0 (by decide) A n c l V (hl.below hV)
  have hf := fun V hV => fits_any lo hi v hv A n c l V (hl.below hV)
  have HR := Lib.hid (show staysC ⟨lo, hi, v⟩ l = (decide (reachE 0 l = 0) && fitsB lo hi v l) from rfl)
  clear hl
  generalize staysC ⟨lo, hi, v⟩ l = res at *
  generalize fitsB lo hi v l = fb at *
  unfold reV at hr
  generalize reachE 0 l = re at *
  generalize reachL 0 l = rl at *
  generalize reachH 0 l = rh at *
  go_enter Try.func29, Try.ntmps29
  go_wp2_with fail
  refine (hr _ HB.out).mono ?_
  rintro e w5 ⟨rfl, hb5⟩
  have HX6 := Lib.hid ((HX.out.below hb5).al (.cells (spC rl rh) 53))
  have HB6 := Lib.hid ((HB.out.trans (hb5.mono HB.out.size)).trans ((below_new w5 (.cells (spC rl rh) 53)).mono (HB.out.trans (hb5.mono HB.out.size)).size))
  clear hb5 hr HX HB
  have y0 : (w5.alloc (.cells (spC rl rh) 53)).cell? ⟨w.heap.size, 0, none⟩ = some (.int .i64 lo) := HX6.out.c 0 _ rfl
  have y1 : (w5.alloc (.cells (spC rl rh) 53)).cell? ⟨w.heap.size, 1, none⟩ = some (.int .i64 hi) := HX6.out.c 1 _ rfl
  have y2 : (w5.alloc (.cells (spC rl rh) 53)).cell? ⟨w.heap.size, 2, none⟩ = some (.int .i64 v) := HX6.out.c 2 _ rfl
  rcases Classical.em (re = 0) with h0 | h0
  · subst h0
    have HRS := Lib.hid (show res = fb from by rw [HR.out]; rfl)
    go_wp2_with fail
    refine (hf _ HB6.out).mono ?_
    rintro e w7 ⟨rfl, hb7⟩
    have HB7 := Lib.hid (HB6.out.trans (hb7.mono HB6.out.size))
    clear hb7 hf
    go_wp2_with fail
    go_ret
    exact ⟨by rw [HRS.out]; rfl, HB7.out⟩
  · have hne : (re == 0) = false := by simpa using h0
    have HRS := Lib.hid (show res = false from by rw [HR.out, decide_eq_false h0]; rfl)
    clear h0
    go_wp2_with fail
    go_ret
    exact ⟨by rw [HRS.out]; rfl, HB6.out⟩
end Go.Proofs.Ytogngghfdcpeaaa
