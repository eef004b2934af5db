/-
  Why one may not do anything with a counter; what is seen; what one has: the document's answers.
-/
import Derived.Test.YtogngghfdcpeaaaRc
namespace Go.Proofs.Ytogngghfdcpeaaa
set_option maxRecDepth 100000
set_option linter.unusedVariables false
set_option linter.unusedSimpArgs false
open Go.RowKit

theorem may_name {t : Tb} {T : Tr} {n N : Nat} {x k : Int} (hn : t.C.length = n) (hN : T.l.length = N) (h : t.sane = false ∨ k < 0 ∨ (n : Int) ≤ k ∨ x < 0 ∨ (N : Int) ≤ x ∨ 63 < x) : t.may T x k = 6 := by
  subst hn; subst hN
  unfold Tb.may
  rw [if_pos h]
theorem may_state {t : Tb} {T : Tr} {n N : Nat} {x k : Int} (hn : t.C.length = n) (hN : T.l.length = N) (h1 : t.sane = true) (h2 : 0 ≤ k) (h3 : k < (n : Int)) (h4 : 0 ≤ x) (h5 : x < (N : Int)) (h6 : x ≤ 63) :
    t.may T x k = if (T.tx x.toNat).s ≠ 1 then 7 else 0 := by
  subst hn; subst hN
  unfold Tb.may
  rw [if_neg]
  rw [h1]
  simp
  omega

set_option maxHeartbeats 2000000 in
theorem refmay_any (A B : Option Addr) (n a m b : Nat) (t : Tb) (D : Option Addr) (N d : Nat) (c : Int) (T : Tr) (x k : Int) (hm : m ≤ 1000) (w : World) (ht : TbAt w A n B m t) (hr : TrAt w D N T) :
    Calls Try.prog 35 #[tbV A n a B m b, trV D N d c, .int .i64 x, .int .i64 k] w fun e w' => e = .returned (.int .i64 (t.may T x k)) ∧ Below w.heap.size w w' := by
  have HT := Lib.hid ht
  have HR := Lib.hid hr
  have HX := Lib.hid ((Bk.new w (tbC A n a B m b) 25).al (.cells (trC D N d c) 28))
  have HY := Bk.new (w.alloc (.cells (tbC A n a B m b) 25)) (trC D N d c) 28
  rw [size_al] at HY
  have HY := Lib.hid HY
  have HB := Lib.hid (below_two (below_new w (.cells (tbC A n a B m b) 25)) (below_new _ (.cells (trC D N d c) 28)))
  have hs := fun V hV => refsane_any A B n a m b t hm V (HT.out.below hV)
  have HNM := Lib.hid (fun h => may_name (T := T) (x := x) (k := k) ht.cl hr.len h)
  have HST := Lib.hid (fun h1 h2 h3 h4 h5 h6 => may_state (t := t) (T := T) (x := x) (k := k) ht.cl hr.len h1 h2 h3 h4 h5 h6)
  clear ht hr
  generalize t.may T x k = res at *
  go_enter Try.func35, Try.ntmps35
  go_wp2_with fail
  refine (hs _ HB.out).mono ?_
  rintro e w1 ⟨rfl, hb⟩
  replace HX := Lib.hid (HX.out.below hb)
  replace HY := Lib.hid (HY.out.below hb)
  replace HB := Lib.hid (HB.out.trans (hb.mono HB.out.size))
  clear hb hs
  have x0 := HX.out.t0
  have x1 := HX.out.t1
  have y0 := HY.out.r_0
  have y1 := HY.out.r_1
  cases hsn : t.sane with
  | false =>
    have HNO := Lib.hid (HNM.out (.inl hsn))
    clear hsn
    go_wp2_with fail
    go_ret
    exact ⟨by rw [HNO.out]; rfl, HB.out⟩
  | true =>
    rcases (show (k < 0) ∨ ¬ (k < 0) from by omega) with g0 | g0
    · have f0_0 : decide (k < 0) = true := decide_eq_true (by omega)
      have HNO := Lib.hid (HNM.out (.inr (.inl (by omega))))
      clear hsn
      go_wp2_with fail
      go_ret
      exact ⟨by rw [HNO.out]; rfl, HB.out⟩
    have f0_0 : decide (k < 0) = false := decide_eq_false (by omega)
    rcases (show ((n : Int) ≤ k) ∨ ¬ ((n : Int) ≤ k) from by omega) with g1 | g1
    · have f1_0 : decide (k ≥ (n : Int)) = true := decide_eq_true (by omega)
      have f1_1 : decide ((n : Int) ≤ k) = true := decide_eq_true (by omega)
      have HNO := Lib.hid (HNM.out (.inr (.inr (.inl (by omega)))))
      clear hsn
      go_wp2_with fail
      go_ret
      exact ⟨by rw [HNO.out]; rfl, HB.out⟩
    have f1_0 : decide (k ≥ (n : Int)) = false := decide_eq_false (by omega)
    have f1_1 : decide ((n : Int) ≤ k) = false := decide_eq_false (by omega)
    rcases (show (x < 0) ∨ ¬ (x < 0) from by omega) with g2 | g2
    · have f2_0 : decide (x < 0) = true := decide_eq_true (by omega)
      have HNO := Lib.hid (HNM.out (.inr (.inr (.inr (.inl (by omega))))))
      clear hsn
      go_wp2_with fail
      go_ret
      exact ⟨by rw [HNO.out]; rfl, HB.out⟩
    have f2_0 : decide (x < 0) = false := decide_eq_false (by omega)
    rcases (show ((N : Int) ≤ x) ∨ ¬ ((N : Int) ≤ x) from by omega) with g3 | g3
    · have f3_0 : decide (x ≥ (N : Int)) = true := decide_eq_true (by omega)
      have f3_1 : decide ((N : Int) ≤ x) = true := decide_eq_true (by omega)
      have HNO := Lib.hid (HNM.out (.inr (.inr (.inr (.inr (.inl (by omega)))))))
      clear hsn
      go_wp2_with fail
      go_ret
      exact ⟨by rw [HNO.out]; rfl, HB.out⟩
    have f3_0 : decide (x ≥ (N : Int)) = false := decide_eq_false (by omega)
    have f3_1 : decide ((N : Int) ≤ x) = false := decide_eq_false (by omega)
    rcases (show (63 < x) ∨ ¬ (63 < x) from by omega) with g4 | g4
    · have f4_0 : decide (x > 63) = true := decide_eq_true (by omega)
      have f4_1 : decide (63 < x) = true := decide_eq_true (by omega)
      have HNO := Lib.hid (HNM.out (.inr (.inr (.inr (.inr (.inr (by omega)))))))
      clear hsn
      go_wp2_with fail
      go_ret
      exact ⟨by rw [HNO.out]; rfl, HB.out⟩
    have f4_0 : decide (x > 63) = false := decide_eq_false (by omega)
    have f4_1 : decide (63 < x) = false := decide_eq_false (by omega)
    have HRS := Lib.hid (HST.out hsn (by omega) (by omega) (by omega) (by omega) (by omega))
    clear hsn
    obtain ⟨y, rfl⟩ : ∃ y : Nat, x = y := ⟨x.toNat, by omega⟩
    have hy : y < N := by omega
    have hi1 : (y : Int) < (N : Int) := by omega
    obtain ⟨b2, o2, hA, hbl, hok, h0, h1, h2, h3⟩ := HR.out.get hy
    subst hA
    rw [Int.toNat_natCast] at HRS
    have c1 := (HB.out.cell (p := ⟨b2, o2 + y * 4 + 1, none⟩) hbl).trans h1
    generalize (T.tx y).s = st at *
    clear h0 h1 h2 h3 hbl hok HNM HST
    rcases Classical.em (st = 1) with h | h
    · have q1 : (st == 1) = true := by simpa using h
      have q2 : (st != 1) = false := by simp [h]
      have HF := Lib.hid (show res = 0 from by rw [HRS.out, if_neg (fun e => e h)])
      clear h
      go_wp2_with fail
      go_ret
      exact ⟨by rw [HF.out]; rfl, HB.out⟩
    · have q1 : (st == 1) = false := by simpa using h
      have q2 : (st != 1) = true := by simpa using h
      have HF := Lib.hid (show res = 7 from by rw [HRS.out, if_pos h])
      clear h
      go_wp2_with fail
      go_ret
      exact ⟨by rw [HF.out]; rfl, HB.out⟩
end Go.Proofs.Ytogngghfdcpeaaa
