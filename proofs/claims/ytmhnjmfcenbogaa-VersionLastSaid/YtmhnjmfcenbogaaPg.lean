/-
  Rows cut; a block's versions.
-/
import Derived.Test.YtmhnjmfcenbogaaPd
namespace Go.Proofs.Ytmhnjmfcenbogaa
set_option maxRecDepth 100000
set_option linter.unusedVariables false
set_option linter.unusedSimpArgs false
open Go.RowKit

section
variable {α : Type} {R : Rk α} {W : World} {A : Option Addr} {n c k : Nat} {l : List α}
/-- 'l[k:]', in every world -/
theorem Rk.cut_from (hR : R.Ok) (hu : Try.prog.underlying R.s = some (.slice (Try.prog.elem R.s))) (hsz : ∀ V : World, (Go.sizeOf (Try.prog.elem R.s)).run Try.prog V = .ok R.m V) (hl : R.At W A l) (hn : l.length = n) (hc : n ≤ c) (hs : c = 0 ∨ Sp A) (hk : k ≤ n) :
    ∃ A' c', R.At W A' (l.drop k) ∧ n - k ≤ c' ∧ (c' = 0 ∨ Sp A') ∧ (∀ b o, A' = some ⟨b, o, none⟩ → ∃ o', A = some ⟨b, o', none⟩) ∧
      (∀ V : World, (Instr.slice R.s (.slice A n c) (some (.int .i64 (k : Int))) none none).run Try.prog V = .ok (.slice A' (n - k) c') V) ∧
      (∀ V : World, (Instr.sliceAt R.s (.slice A n c) (some (.int .i64 (k : Int))) none none).run Try.prog V = .ok (.slice A' (n - k) c') V) := by
  have hrun : ∀ V : World, (Instr.slice R.s (.slice A n c) (some (.int .i64 (k : Int))) none none).run Try.prog V = .ok (sliced A k n c R.m) V := fun V => by
    rw [run_slice_l V R.s A n c hu .i64 (k : Int) (by omega) (by omega), hsz V]
    simp [Result.andThen]
  have hlen : (l.drop k).length = n - k := by rw [List.length_drop, hn]
  obtain ⟨A', hA1, hA2, hA4, hA3⟩ : ∃ A', R.At W A' (l.drop k) ∧ (c - k = 0 ∨ Sp A') ∧ (∀ b o, A' = some ⟨b, o, none⟩ → ∃ o', A = some ⟨b, o', none⟩) ∧ sliced A k n c R.m = .slice A' (n - k) (c - k) := by
    unfold sliced
    by_cases e : c = k
    · have h0 : l.drop k = [] := List.eq_nil_of_length_eq_zero (by omega)
      exact ⟨A, .inl h0, .inl (by omega), fun b o e => ⟨o, e⟩, by rw [if_pos e]⟩
    · rcases hs with h | h
      · omega
      · rcases h with rfl | ⟨b, o, rfl⟩
        · refine ⟨none, ?_, .inr (.inl rfl), (fun b o e => by cases e), by rw [if_neg e]; rfl⟩
          rcases hl with h | ⟨b, o, e, _⟩
          · rw [h]; exact .inl (by simp)
          · cases e
        · refine ⟨some ⟨b, o + k * R.m, none⟩, ?_, .inr (.inr ⟨_, _, rfl⟩), (fun b' o' e' => by injection e' with e'; injection e' with e1 e2; subst e1; exact ⟨o, rfl⟩), by rw [if_neg e, Option.map_some, addr_add]⟩
          have h1 := hl
          rw [← List.take_append_drop k l] at h1
          exact h1.right hR (n := k) (by rw [List.length_take, hn]; omega)
  refine ⟨A', c - k, hA1, by omega, hA2, hA4, fun V => by rw [hrun V, hA3], fun V => ?_⟩
  rw [run_sliceAt_slice V R.s _ _ _ _ hu, hrun V, hA3]
/-- 'l[:k]' -/
theorem Rk.cut_to (hR : R.Ok) (hu : Try.prog.underlying R.s = some (.slice (Try.prog.elem R.s))) (hsz : ∀ V : World, (Go.sizeOf (Try.prog.elem R.s)).run Try.prog V = .ok R.m V) (hl : R.At W A l) (hn : l.length = n) (hc : n ≤ c) (hs : c = 0 ∨ Sp A) (hk : k ≤ n) :
    ∃ A', R.At W A' (l.take k) ∧ (c = 0 ∨ Sp A') ∧
      (∀ V : World, (Instr.slice R.s (.slice A n c) none (some (.int .i64 (k : Int))) none).run Try.prog V = .ok (.slice A' k c) V) ∧
      (∀ V : World, (Instr.sliceAt R.s (.slice A n c) none (some (.int .i64 (k : Int))) none).run Try.prog V = .ok (.slice A' k c) V) := by
  have hrun : ∀ V : World, (Instr.slice R.s (.slice A n c) none (some (.int .i64 (k : Int))) none).run Try.prog V = .ok (sliced A 0 k c R.m) V := fun V => by
    rw [run_slice_h V R.s A n c hu .i64 (k : Int) (by omega) (by omega), hsz V]
    simp [Result.andThen]
  have hlen : (l.take k).length = k := by rw [List.length_take, hn]; omega
  obtain ⟨A', hA1, hA2, hA3⟩ : ∃ A', R.At W A' (l.take k) ∧ (c = 0 ∨ Sp A') ∧ sliced A 0 k c R.m = .slice A' k c := by
    unfold sliced
    by_cases e : c = 0
    · have h0 : l.take k = [] := List.eq_nil_of_length_eq_zero (by omega)
      exact ⟨A, .inl h0, .inl e, by rw [if_pos e]; rfl⟩
    · rcases hs with h | h
      · omega
      · refine ⟨A, hl.take k, .inr h, ?_⟩
        rw [if_neg e]
        rcases h with rfl | ⟨b, o, rfl⟩
        · rfl
        · rw [Nat.zero_mul, Option.map_some, addr_add]; rfl
  refine ⟨A', hA1, hA2, fun V => by rw [hrun V, hA3], fun V => ?_⟩
  rw [run_sliceAt_slice V R.s _ _ _ _ hu, hrun V, hA3]
end
theorem rv_sz : ∀ V : World, (Go.sizeOf (Try.prog.elem RVo.s)).run Try.prog V = .ok RVo.m V := fun V => Try.sizeOf74 V
section
variable {W : World} {A : Option Addr} {n k : Nat} {L : List Vn} {vs : List Vr}
theorem VrsAt.cutFrom (h : VrsAt RVo W A n L vs) {A' : Option Addr} (hk : k ≤ n) (ha : RVo.At W A' (vs.drop k)) : VrsAt RVo W A' (n - k) (L.drop k) (vs.drop k) :=
  ⟨by rw [List.length_drop, h.k], by rw [List.length_drop, h.l], ha, fun i r v h1 h2 => h.d (k + i) r v (by rw [← List.getElem?_drop]; exact h1) (by rw [← List.getElem?_drop]; exact h2)⟩
theorem VrsAt.cutTo (h : VrsAt RVo W A n L vs) {A' : Option Addr} (hk : k ≤ n) (ha : RVo.At W A' (vs.take k)) : VrsAt RVo W A' k (L.take k) (vs.take k) :=
  ⟨by rw [List.length_take, h.k]; omega, by rw [List.length_take, h.l]; omega, ha, fun i r v h1 h2 => by
    rw [List.getElem?_take] at h1 h2
    split at h1
    · rw [if_pos (by assumption)] at h2; exact h.d i r v h1 h2
    · cases h1⟩
end
/-- 'l[j:k]' -/
theorem cut_both {W : World} {A : Option Addr} {n c j k : Nat} {L : List Vn} {vs : List Vr} (h : VrsAt RVo W A n L vs) (hc : n ≤ c) (hs : c = 0 ∨ Sp A) (hj : j ≤ k) (hk : k ≤ n) :
    ∃ A' c', VrsAt RVo W A' (k - j) ((L.drop j).take (k - j)) ((vs.drop j).take (k - j)) ∧ k - j ≤ c' ∧ (c' = 0 ∨ Sp A') ∧
      (∀ V : World, (Instr.slice 28 (.slice A n c) (some (.int .i64 (j : Int))) (some (.int .i64 (k : Int))) none).run Try.prog V = .ok (.slice A' (k - j) c') V) ∧
      (∀ V : World, (Instr.sliceAt 28 (.slice A n c) (some (.int .i64 (j : Int))) (some (.int .i64 (k : Int))) none).run Try.prog V = .ok (.slice A' (k - j) c') V) := by
  have hrun : ∀ V : World, (Instr.slice 28 (.slice A n c) (some (.int .i64 (j : Int))) (some (.int .i64 (k : Int))) none).run Try.prog V = .ok (sliced A j k c 3) V := fun V => by
    rw [run_slice_lh V 28 A n c Try.underlying28 .i64 .i64 (j : Int) (k : Int) (by omega) (by omega) (by omega), show (Go.sizeOf (Try.prog.elem 28)).run Try.prog V = .ok 3 V from rv_sz V]
    simp [Result.andThen]
  obtain ⟨A', hA1, hA2, hA3⟩ : ∃ A', RVo.At W A' (vs.drop j) ∧ (c - j = 0 ∨ Sp A') ∧ sliced A j k c 3 = .slice A' (k - j) (c - j) := by
    have hl := h.at_
    have hn := h.l
    unfold sliced
    by_cases e : c = j
    · have h0 : vs.drop j = [] := List.eq_nil_of_length_eq_zero (by rw [List.length_drop]; omega)
      exact ⟨A, by rw [h0]; exact .inl rfl, .inl (by omega), by rw [if_pos e]⟩
    · rcases hs with h | h
      · omega
      · rcases h with rfl | ⟨b, o, rfl⟩
        · refine ⟨none, ?_, .inr (.inl rfl), by rw [if_neg e]; rfl⟩
          rcases hl with h | ⟨b, o, e, _⟩
          · rw [h]; exact .inl (by simp)
          · cases e
        · refine ⟨some ⟨b, o + j * 3, none⟩, ?_, .inr (.inr ⟨_, _, rfl⟩), by rw [if_neg e, Option.map_some, addr_add]⟩
          have h1 := hl
          rw [← List.take_append_drop j vs] at h1
          exact h1.right rv_oko (n := j) (by rw [List.length_take, hn]; omega)
  refine ⟨A', c - j, ((h.cutFrom (by omega) hA1).cutTo (k := k - j) (by omega) (hA1.take _)), by omega, hA2, fun V => by rw [hrun V, hA3], fun V => ?_⟩
  rw [run_sliceAt_slice V 28 _ _ _ _ Try.underlying28, hrun V, hA3]

set_option maxHeartbeats 1000000 in
theorem of_any (A B : Option Addr) (n a m b : Nat) (P : List Vn) (vs : List Vr) (k : Int) (hk : -1000 ≤ k ∧ k ≤ 1000) (hr : RiseV P) (hx : ∀ p ∈ P, 0 ≤ p.x) (hm : m ≤ 100000) (hmb : m ≤ b) (hsp : b = 0 ∨ Sp B) (w : World) (hB : VrsAt RVo w B m P vs) :
    Calls Try.prog 27 #[vtV A n a B m b, .int .i64 k] w fun e w' => ∃ A' n' c' us, e = .returned (.slice A' n' c') ∧ VrsAt RVo w' A' n' (onV P k) us ∧ n' ≤ m ∧ Below w.heap.size w w' := by
  obtain ⟨L1, L2, hp, h1, h2⟩ := riseV_split hr (keyVn k 0)
  obtain ⟨M1, M2, hq, q1, q2⟩ := riseV_split hr (keyVn (k + 1) 0)
  obtain ⟨hle, hon⟩ := onV_parts hx hp h1 h2 hq q1 q2
  have hl1 : L1.length + L2.length = m := by rw [← hB.k, hp, List.length_append]
  have hl2 : M1.length + M2.length = m := by rw [← hB.k, hq, List.length_append]
  have hp1 := fun V (hV : Below w.heap.size w V) => vplace_any B m b P L1 L2 vs 0 k hm V (hB.below hV) hp h1 h2
  have hp2 := fun V (hV : Below w.heap.size w V) => vplace_any B m b P M1 M2 vs 0 (k + 1) hm V (hB.below hV) hq q1 q2
  obtain ⟨A3, c3, j1, j2, _, j3, j4⟩ := cut_both hB hmb hsp hle (by omega)
  rw [hon] at j1
  have HJ := Lib.hid j1
  generalize thereV k 0 L2 = b1 at *
  generalize thereV (k + 1) 0 M2 = b2 at *
  generalize (List.drop L1.length vs).take (M1.length - L1.length) = us at *
  have HKM := Lib.hid (show M1.length - L1.length ≤ m by omega)
  obtain ⟨l1, e1⟩ : ∃ q, L1.length = q := ⟨_, rfl⟩
  obtain ⟨l2, e2⟩ : ∃ q, M1.length = q := ⟨_, rfl⟩
  have hle1 : l1 ≤ l2 := by omega
  have hle2 : l2 ≤ m := by omega
  rw [e1] at hp1 j3 j4 HJ HKM
  rw [e2] at hp2 j3 j4 HJ HKM
  obtain ⟨m3, e3⟩ : ∃ q, l2 - l1 = q := ⟨_, rfl⟩
  rw [e3] at j3 j4 HJ HKM
  have hw : IntKind.i64.wrap (k + 1) = k + 1 := by rw [IntKind.wrap_i64]; omega
  have HX := Lib.hid (Bk.new w (vtC A n a B m b) 30)
  have HB := Lib.hid (below_new w (.cells (vtC A n a B m b) 30))
  clear hp h1 h2 hq q1 q2 hl1 hl2 hon hle j1 j2 hB hr hx e1 e2 e3 hsp hmb hk
  go_enter Try.func27, Try.ntmps27
  go_wp2_with fail
  refine (hp1 _ HB.out).mono ?_
  rintro e w1 ⟨rfl, hv⟩
  replace HX := Lib.hid (HX.out.below hv)
  replace HB := Lib.hid (HB.out.trans (hv.mono HB.out.size))
  clear hv hp1
  have x1 := HX.out.v1
  go_wp2_with fail
  refine (hp2 _ HB.out).mono ?_
  rintro e w2 ⟨rfl, hv⟩
  replace HX := Lib.hid (HX.out.below hv)
  replace HB := Lib.hid (HB.out.trans (hv.mono HB.out.size))
  clear hv hp2 x1
  have x1 := HX.out.v1
  go_wp2_with fail
  go_ret
  exact ⟨A3, m3, c3, us, rfl, HJ.out.below HB.out, HKM.out, HB.out⟩
end Go.Proofs.Ytmhnjmfcenbogaa
