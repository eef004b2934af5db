/-
  Whether a number is one of so many, whether a pend may be; where it stands; all Ups and Downs of pends.
-/
import Derived.Test.YtogngghfdcpeaaaKc
namespace Go.Proofs.Ytogngghfdcpeaaa
set_option maxRecDepth 100000
set_option linter.unusedVariables false
set_option linter.unusedSimpArgs false
open Go.RowKit

def amB (n m : Int) : Bool := decide (0 ≤ n ∧ n < m)
theorem among_any (n m : Int) (w : World) : Calls Try.prog 45 #[.int .i64 n, .int .i64 m] w fun e w' => e = .returned (.bool (amB n m)) ∧ Below w.heap.size w w' := by
  have HB := Lib.hid (Below.refl w.heap.size w)
  by_cases h0 : 0 ≤ n
  · by_cases h1 : n < m
    · have HR := Lib.hid (show amB n m = true from decide_eq_true ⟨h0, h1⟩)
      have d0 : decide (n ≥ 0) = true := decide_eq_true h0
      have d1 : decide (0 ≤ n) = true := decide_eq_true h0
      have d2 : decide (n < m) = true := decide_eq_true h1
      generalize amB n m = r at *
      clear h0 h1
      go_enter Try.func45, Try.ntmps45
      go_wp2_with fail
      go_ret
      exact ⟨by rw [HR.out]; rfl, HB.out⟩
    · have HR := Lib.hid (show amB n m = false from decide_eq_false (fun h => h1 h.2))
      have d0 : decide (n ≥ 0) = true := decide_eq_true h0
      have d1 : decide (0 ≤ n) = true := decide_eq_true h0
      have d2 : decide (n < m) = false := decide_eq_false h1
      generalize amB n m = r at *
      clear h0 h1
      go_enter Try.func45, Try.ntmps45
      go_wp2_with fail
      go_ret
      exact ⟨by rw [HR.out]; rfl, HB.out⟩
  · have HR := Lib.hid (show amB n m = false from decide_eq_false (fun h => h0 h.1))
    have d0 : decide (n ≥ 0) = false := decide_eq_false h0
    have d1 : decide (0 ≤ n) = false := decide_eq_false h0
    generalize amB n m = r at *
    clear h0
    go_enter Try.func45, Try.ntmps45
    go_wp2_with fail
    go_ret
    exact ⟨by rw [HR.out]; rfl, HB.out⟩

theorem amB_no {n m : Int} (h : amB n m = false) : n < 0 ∨ m ≤ n := by
  unfold amB at h
  have := of_decide_eq_false h
  omega
theorem amB_yes {n m : Int} (h : amB n m = true) : 0 ≤ n ∧ n < m := of_decide_eq_true h

set_option maxHeartbeats 1000000 in
theorem pmay_any (c x u d : Int) (n : Nat) (w : World) : Calls Try.prog 43 #[pdV c x u d, .int .i64 (n : Int)] w fun e w' => e = .returned (.bool ((Pd.mk c x u d).may n)) ∧ Below w.heap.size w w' := by
  have HX := Lib.hid (Bk.new w (pdC c x u d) 75)
  have HB := Lib.hid (below_new w (.cells (pdC c x u d) 75))
  have ha := fun V => among_any c (n : Int) V
  have hb := fun V => among_any x 64 V
  have HN := Lib.hid (fun h => may_first (n := n) (pc := c) (px := x) (u := u) (d := d) h)
  have HY := Lib.hid (fun h1 h2 h3 h4 h5 h6 h7 => may_yes (n := n) (pc := c) (px := x) (u := u) (d := d) h1 h2 h3 h4 h5 h6 h7)
  generalize (Pd.mk c x u d).may n = res at *
  obtain ⟨r1, e1⟩ : ∃ q, amB c (n : Int) = q := ⟨_, rfl⟩
  obtain ⟨r2, e2⟩ : ∃ q, amB x 64 = q := ⟨_, rfl⟩
  rw [e1] at ha
  rw [e2] at hb
  have E1 := Lib.hid e1
  have E2 := Lib.hid e2
  clear e1 e2
  go_enter Try.func43, Try.ntmps43
  go_wp2_with fail
  refine (ha _).mono ?_
  rintro e w1 ⟨rfl, hv⟩
  replace HX := Lib.hid (HX.out.below hv)
  replace HB := Lib.hid (HB.out.trans (hv.mono HB.out.size))
  clear hv ha
  have y0 := HX.out.p0
  have y1 := HX.out.p1
  have y2 := HX.out.p2
  have y3 := HX.out.p3
  cases r1
  · have HR := Lib.hid (HN.out (.inl (by have := amB_no E1.out; omega)))
    clear hb HN HY
    go_wp2_with fail
    go_ret
    exact ⟨by rw [HR.out]; rfl, HB.out⟩
  go_wp2_with fail
  refine (hb _).mono ?_
  rintro e w2 ⟨rfl, hv⟩
  replace HX := Lib.hid (HX.out.below hv)
  replace HB := Lib.hid (HB.out.trans (hv.mono HB.out.size))
  clear hv hb y0 y1 y2 y3
  have y0 := HX.out.p0
  have y1 := HX.out.p1
  have y2 := HX.out.p2
  have y3 := HX.out.p3
  cases r2
  · have HR := Lib.hid (HN.out (.inr (.inl (by have := amB_no E2.out; omega))))
    clear HN HY
    go_wp2_with fail
    go_ret
    exact ⟨by rw [HR.out]; rfl, HB.out⟩
  have HC := Lib.hid (amB_yes E1.out)
  have HD := Lib.hid (amB_yes E2.out)
  rcases (show (u < 0) ∨ ¬ (u < 0) from by omega) with g0 | g0
  · have f0 : decide (u ≥ 0) = false := decide_eq_false (by omega)
    have f1 : decide (0 ≤ u) = false := decide_eq_false (by omega)
    have HR := Lib.hid (HN.out (.inr (.inr (.inl (by omega)))))
    clear HN HY g0
    go_wp2_with fail
    go_ret
    exact ⟨by rw [HR.out]; rfl, HB.out⟩
  have f0 : decide (u ≥ 0) = true := decide_eq_true (by omega)
  have f1 : decide (0 ≤ u) = true := decide_eq_true (by omega)
  rcases (show (0 < d) ∨ ¬ (0 < d) from by omega) with g1 | g1
  · have f2 : decide (d ≤ 0) = false := decide_eq_false (by omega)
    have f3 : decide (0 ≥ d) = false := decide_eq_false (by omega)
    have HR := Lib.hid (HN.out (.inr (.inr (.inl (by omega)))))
    clear HN HY g0 g1
    go_wp2_with fail
    go_ret
    exact ⟨by rw [HR.out]; rfl, HB.out⟩
  have f2 : decide (d ≤ 0) = true := decide_eq_true (by omega)
  have f3 : decide (0 ≥ d) = true := decide_eq_true (by omega)
  rcases Classical.em (u = 0) with g2 | g2
  · have f4 : (u != 0) = false := by simp [g2]
    have f5 : (u == 0) = true := by simp [g2]
    rcases Classical.em (d = 0) with g3 | g3
    · have f6 : (d != 0) = false := by simp [g3]
      have f7 : (d == 0) = true := by simp [g3]
      have HR := Lib.hid (HN.out (.inr (.inr (.inr ⟨g2, g3⟩))))
      clear HN HY g0 g1 g2 g3
      go_wp2_with fail
      go_ret
      exact ⟨by rw [HR.out]; rfl, HB.out⟩
    · have f6 : (d != 0) = true := by simp [g3]
      have f7 : (d == 0) = false := by simp [g3]
      have HR := Lib.hid (HY.out HC.out.1 HC.out.2 HD.out.1 (by have := HD.out.2; omega) (by omega) (by omega) (fun h => g3 h.2))
      clear HN HY g0 g1 g2 g3
      go_wp2_with fail
      go_ret
      exact ⟨by rw [HR.out]; rfl, HB.out⟩
  · have f4 : (u != 0) = true := by simp [g2]
    have f5 : (u == 0) = false := by simp [g2]
    have HR := Lib.hid (HY.out HC.out.1 HC.out.2 HD.out.1 (by have := HD.out.2; omega) (by omega) (by omega) (fun h => g2 h.1))
    clear HN HY g0 g1 g2
    go_wp2_with fail
    go_ret
    exact ⟨by rw [HR.out]; rfl, HB.out⟩

theorem place_any (A : Option Addr) (n k : Nat) (P L1 L2 : List Pd) (x c : Int) (hP : P.length = n) (hn : n ≤ 100000) (w : World) (h : RPo.At w A P) (hs : P = L1 ++ L2) (h1 : ∀ y ∈ L1, y.L (keyP c x)) (h2 : ∀ y ∈ L2, ¬ y.L (keyP c x)) :
    Calls Try.prog 57 #[.slice A n k, .int .i64 x, .int .i64 c] w fun e w' => e = .returned (.tuple #[.int .i64 (L1.length : Int), .bool (thereB (keyP c x) L2)]) ∧ Below w.heap.size w w' := by
  have hb := fun V (hV : Below w.heap.size w V) => bsearch_any A n k P L1 L2 c x 0 0 hP hn V (h.below hV) hs h1 h2
  have HR := Lib.hid (show thereB (keyP c x) L2 = thereB ⟨c, x, 0, 0⟩ L2 from rfl)
  generalize thereB ⟨c, x, 0, 0⟩ L2 = r at *
  rw [HR.out]
  generalize L1.length = m at *
  clear h h1 h2 hs hP HR
  go_enter Try.func57, Try.ntmps57
  go_wp2_with fail
  refine (hb _ (Below.refl _ _)).mono ?_
  rintro e w1 ⟨rfl, hv⟩
  have HV := Lib.hid hv
  clear hv hb
  go_wp2_with fail
  go_ret2
  exact ⟨rfl, HV.out⟩

theorem two_g (w : World) (g : Nat) (hg : w.heap.size = g) (x y : Int) : RI.At (w.alloc (.cells #[.int .i64 x, .int .i64 y] 3)) (some ⟨g, 0, none⟩) [x, y] := by
  subst hg; exact two_at w x y
set_option maxHeartbeats 1000000 in
theorem amounts_any (A : Option Addr) (n a : Nat) (l : List Pd) (hn : l.length = n) (hm : n ≤ 1000) (w : World) (hl : RPo.At w A l) :
    Calls Try.prog 30 #[.slice A n a] w fun e w' => ∃ v, e = .returned v ∧ RI.Own w' w.heap.size v (amt l) ∧ Below w.heap.size w w' := by
  have HN := Lib.hid hn
  have HL := Lib.hid hl
  clear hn hl
  go_enter Try.func30, Try.ntmps30
  go_wp2_with fail
  go_loopw [3, 8] (fun v u wr => ∃ j : Nat, u = .int .i64 (j : Int) ∧ j ≤ n ∧ Hid (RI.Own wr w.heap.size v (amt (l.take j))) ∧ Hid (Below w.heap.size w wr)) (fun _ u _ => n - (intOf u).toNat)
  case atStart => exact ⟨0, rfl, Nat.zero_le _, Rk.Own.nil _ _ _, Below.refl _ _⟩
  case round =>
    obtain ⟨j, rfl, hj, HO, HB⟩ := hrel
    rcases Nat.lt_or_ge j n with hlt | hge
    · obtain ⟨b, o, hA, hbl, hget, q0, q1, q2, q3⟩ := pd_o HL.out HN.out hlt
      subst hA
      have HT := Lib.hid (amt_take hget)
      have HLN : Hid ((amt (l.take j)).length ≤ 2000) := by have h := amt_len (l.take j); rw [List.length_take] at h; show _ ≤ _; omega
      generalize l.getD j pdD = p at *
      obtain ⟨pc, px, u, d⟩ := p
      simp only at HT q0 q1 q2 q3
      have C0 := (HB.out.cell (p := ⟨b, o + j * 4, none⟩) hbl).trans q0
      have C1 := (HB.out.cell (p := ⟨b, o + j * 4 + 1, none⟩) hbl).trans q1
      have C2 := (HB.out.cell (p := ⟨b, o + j * 4 + 2, none⟩) hbl).trans q2
      have C3 := (HB.out.cell (p := ⟨b, o + j * 4 + 3, none⟩) hbl).trans q3
      generalize amt (l.take j) = acc at *
      have hd1 : decide ((j : Int) < (n : Int)) = true := decide_eq_true (by omega)
      have hd2 : decide (j < n) = true := decide_eq_true hlt
      have hi1 : (j : Int) < (n : Int) := by omega
      clear q0 q1 q2 q3 hbl hget
      go_wp2_with (first
        | (at_builtin; refine Rk.wpList_append ri_ok rfl (.tmp 12) (.tmp 17) rfl w.heap.size u3 acc [u, d] rfl ((HO.out.below (below_new _ _)).below (below_new _ _)) _ 2 2 rfl (two_g (wr.alloc _) (wr.heap.size + 1) (by simp) u d) rfl (.inr ⟨_, _, rfl⟩) (by have := HLN.out; simp; omega) (by have := HB.out.size; simp; omega) ?_; intro v8 w8 hx1 hg1 ha1; have HO8 := Lib.hid hx1; have HG8 := Lib.hid hg1; clear hx1 hg1 ha1)
        | fail)
      exact ⟨⟨j + 1, rfl, hlt, by rw [HT.out]; exact HO8, Lib.hid (Below.grown ((HB.out.trans ((below_new wr _).mono HB.out.size)).trans ((below_new _ _).mono (Nat.le_trans HB.out.size (below_new wr _).size))) HG8.out (by have := HB.out.size; simp; omega) (fun q e => by have h := (HO.out.lt _ e).1; omega))⟩, by simp [intOf]; omega⟩
    · obtain rfl : j = n := by omega
      have hd1 : decide ((j : Int) < (j : Int)) = false := decide_eq_false (by omega)
      have hd2 : decide (j < j) = false := decide_eq_false (by omega)
      have hlj : l.take j = l := List.take_of_length_le (by rw [HN.out]; exact Nat.le_refl _)
      rw [hlj] at HO
      clear hlj
      go_wp2_with fail
      go_ret
      exact ⟨_, rfl, HO.out, HB.out⟩
end Go.Proofs.Ytogngghfdcpeaaa
