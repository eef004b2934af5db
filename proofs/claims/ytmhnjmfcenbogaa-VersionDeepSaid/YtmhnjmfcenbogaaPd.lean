/-
  Whether a number is one of so many, whether a version may be; where it stands.
-/
import Derived.Test.YtmhnjmfcenbogaaPc
namespace Go.Proofs.Ytmhnjmfcenbogaa
set_option maxRecDepth 100000
set_option linter.unusedVariables false
set_option linter.unusedSimpArgs false
open Go.RowKit

def amB (n m : Int) : Bool := decide (0 ≤ n ∧ n < m)
theorem among_any (n m : Int) (w : World) : Calls Try.prog 38 #[.int .i64 n, .int .i64 m] w fun e w' => e = .returned (.bool (amB n m)) ∧ Below w.heap.size w w' := by
  have HB := Lib.hid (Below.refl w.heap.size w)
  by_cases h0 : 0 ≤ n
  · by_cases h1 : n < m
    · have HR := Lib.hid (show amB n m = true from decide_eq_true ⟨h0, h1⟩)
      have d0 : decide (n ≥ 0) = true := decide_eq_true h0
      have d1 : decide (0 ≤ n) = true := decide_eq_true h0
      have d2 : decide (n < m) = true := decide_eq_true h1
      generalize amB n m = r at *
      clear h0 h1
      go_enter Try.func38, Try.ntmps38
      go_wp2_with fail
      go_ret
      exact ⟨by rw [HR.out]; rfl, HB.out⟩
    · have HR := Lib.hid (show amB n m = false from decide_eq_false (fun h => h1 h.2))
      have d0 : decide (n ≥ 0) = true := decide_eq_true h0
      have d1 : decide (0 ≤ n) = true := decide_eq_true h0
      have d2 : decide (n < m) = false := decide_eq_false h1
      generalize amB n m = r at *
      clear h0 h1
      go_enter Try.func38, Try.ntmps38
      go_wp2_with fail
      go_ret
      exact ⟨by rw [HR.out]; rfl, HB.out⟩
  · have HR := Lib.hid (show amB n m = false from decide_eq_false (fun h => h0 h.1))
    have d0 : decide (n ≥ 0) = false := decide_eq_false h0
    have d1 : decide (0 ≤ n) = false := decide_eq_false h0
    generalize amB n m = r at *
    clear h0
    go_enter Try.func38, Try.ntmps38
    go_wp2_with fail
    go_ret
    exact ⟨by rw [HR.out]; rfl, HB.out⟩

theorem amB_no {n m : Int} (h : amB n m = false) : n < 0 ∨ m ≤ n := by
  unfold amB at h
  have := of_decide_eq_false h
  omega
theorem amB_yes {n m : Int} (h : amB n m = true) : 0 ≤ n ∧ n < m := of_decide_eq_true h


set_option maxHeartbeats 1000000 in
/-- of one that may be -/
theorem vmay_any (b x : Int) (A : Option Addr) (c : Nat) (n : Nat) (hb : 0 ≤ b ∧ b < (n : Int)) (hx : 0 ≤ x ∧ x ≤ 63) (w : World) : Calls Try.prog 30 #[veV b x A 32 c, .int .i64 (n : Int)] w fun e w' => e = .returned (.bool true) ∧ Below w.heap.size w w' := by
  have HX := Lib.hid (Bk.new w (veC b x A 32 c) 74)
  have HB := Lib.hid (below_new w (.cells (veC b x A 32 c) 74))
  have ha := fun V => among_any b (n : Int) V
  have hb2 := fun V => among_any x 64 V
  rw [show amB b (n : Int) = true from decide_eq_true hb] at ha
  rw [show amB x 64 = true from decide_eq_true (by omega)] at hb2
  clear hb hx
  go_enter Try.func30, Try.ntmps30
  go_wp2_with fail
  refine (ha _).mono ?_
  rintro e w1 ⟨rfl, hv⟩
  replace HX := Lib.hid (HX.out.below hv)
  replace HB := Lib.hid (HB.out.trans (hv.mono HB.out.size))
  clear hv ha
  have y0 := HX.out.e0
  have y1 := HX.out.e1
  have y2 := HX.out.e2
  go_wp2_with fail
  refine (hb2 _).mono ?_
  rintro e w2 ⟨rfl, hv⟩
  replace HX := Lib.hid (HX.out.below hv)
  replace HB := Lib.hid (HB.out.trans (hv.mono HB.out.size))
  clear hv hb2 y0 y1 y2
  have y0 := HX.out.e0
  have y1 := HX.out.e1
  have y2 := HX.out.e2
  go_wp2_with fail
  go_ret
  exact ⟨rfl, HB.out⟩

theorem vplace_any (A : Option Addr) (n k : Nat) (P L1 L2 : List Vn) (vs : List Vr) (x c : Int) (hn : n ≤ 100000) (w : World) (h : VrsAt RVo w A n P vs) (hs : P = L1 ++ L2) (h1 : ∀ y ∈ L1, y.L (keyVn c x)) (h2 : ∀ y ∈ L2, ¬ y.L (keyVn c x)) :
    Calls Try.prog 39 #[.slice A n k, .int .i64 x, .int .i64 c] w fun e w' => e = .returned (.tuple #[.int .i64 (L1.length : Int), .bool (thereV c x L2)]) ∧ Below w.heap.size w w' := by
  have hb := fun V (hV : Below w.heap.size w V) => bsearch_any A n k P L1 L2 vs c x none 0 0 hn V (h.below hV) hs h1 h2
  generalize thereV c x L2 = r at *
  generalize L1.length = m at *
  clear h h1 h2 hs
  go_enter Try.func39, Try.ntmps39
  go_wp2_with fail
  refine (hb _ (Below.refl _ _)).mono ?_
  rintro e w1 ⟨rfl, hv⟩
  have HV := Lib.hid hv
  clear hv hb
  go_wp2_with fail
  go_ret2
  exact ⟨rfl, HV.out⟩
end Go.Proofs.Ytmhnjmfcenbogaa
