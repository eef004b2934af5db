/-
  May a transaction ask for a block; a block's versions; bytes laid as a block.
-/
import Derived.Test.YtmhnjmfcenbogaaPe
import Derived.Laws.CopyRow
namespace Go.Proofs.Ytmhnjmfcenbogaa
set_option maxRecDepth 100000
set_option linter.unusedVariables false
set_option linter.unusedSimpArgs false
open Go.RowKit

theorem askV_name {t : Vt} {T : Tr} {x k : Int} (h : k < 0 ∨ (t.B.length : Int) ≤ k ∨ x < 0 ∨ (T.l.length : Int) ≤ x) : askV t T x k = 6 := by unfold askV; rw [if_pos h]
theorem askV_state {t : Vt} {T : Tr} {x k : Int} (h : ¬ (k < 0 ∨ (t.B.length : Int) ≤ k ∨ x < 0 ∨ (T.l.length : Int) ≤ x)) (hs : (T.tx x.toNat).s ≠ 1) : askV t T x k = 7 := by unfold askV; rw [if_neg h, if_pos hs]
theorem tx_get {W : World} {A : Option Addr} {l : List Tx} (h : TxAt W A l) {i : Nat} (hi : i < l.length) : ∃ b, A = some ⟨b, 0, none⟩ ∧ b < W.heap.size ∧ W.cell? ⟨b, i * 4, none⟩ = some (.int .i64 (l.getD i ⟨-1, 0, 0, 0⟩).p) ∧ W.cell? ⟨b, i * 4 + 1, none⟩ = some (.int .i64 (l.getD i ⟨-1, 0, 0, 0⟩).s) := by
  have hx : l[i]? = some (l.getD i ⟨-1, 0, 0, 0⟩) := by rw [List.getD_eq_getElem?_getD, List.getElem?_eq_getElem hi]; rfl
  rcases h with ⟨_, e⟩ | ⟨b, e, hb, hc⟩
  · rw [e] at hi; exact absurd hi (Nat.not_lt_zero _)
  · exact ⟨b, e, hb, (hc i _ hx).1, (hc i _ hx).2.1⟩

set_option maxHeartbeats 2000000 in
theorem asked_any (A B : Option Addr) (n a m b : Nat) (t : Vt) (D : Option Addr) (N d : Nat) (c : Int) (T : Tr) (x k : Int) (w : World) (ht : VtAt RVo w A n a B m b t) (hs : SanV t) (hl : t.L.length ≤ 1000) (hr : TxAt w D T.l) (hN : T.l.length = N) :
    Calls Try.prog 23 #[vtV A n a B m b, .agg (txC2 D N d c), .int .i64 x, .int .i64 k] w fun e w' => e = .returned (.int .i64 (askV t T x k)) ∧ Below w.heap.size w w' := by
  have HR := Lib.hid hr
  have HX := Lib.hid ((Bk.new w (vtC A n a B m b) 30).al (.cells (txC2 D N d c) 26))
  have HY := Bk.new (w.alloc (.cells (vtC A n a B m b) 30)) (txC2 D N d c) 26
  rw [size_al] at HY
  have HY := Lib.hid HY
  have HB := Lib.hid (below_two (below_new w (.cells (vtC A n a B m b) 30)) (below_new _ (.cells (txC2 D N d c) 26)))
  have HSN := Lib.hid (fun V (hV : Below w.heap.size w V) => sane_any A B n a m b t V (ht.below hV) hs hl)
  have hB : t.B.length = n := by obtain ⟨ss, h⟩ := ht.base; exact h.k
  have HNM := Lib.hid (show (k < 0 ∨ (n : Int) ≤ k ∨ x < 0 ∨ (N : Int) ≤ x) → askV t T x k = 6 from fun h => askV_name (by rw [hB, hN]; exact h))
  have HST := Lib.hid (show ¬ (k < 0 ∨ (n : Int) ≤ k ∨ x < 0 ∨ (N : Int) ≤ x) → (T.tx x.toNat).s ≠ 1 → askV t T x k = 7 from fun h h2 => askV_state (by rw [hB, hN]; exact h) h2)
  have HOK := Lib.hid (show ¬ (k < 0 ∨ (n : Int) ≤ k ∨ x < 0 ∨ (N : Int) ≤ x) → (T.tx x.toNat).s = 1 → askV t T x k = 0 from fun h h2 => askV_ok (by rw [hB]; omega) (by rw [hN]; omega) h2)
  have HTG := Lib.hid (show ∀ i, i < N → ∃ b, D = some ⟨b, 0, none⟩ ∧ b < w.heap.size ∧ w.cell? ⟨b, i * 4, none⟩ = some (.int .i64 (T.tx i).p) ∧ w.cell? ⟨b, i * 4 + 1, none⟩ = some (.int .i64 (T.tx i).s) from fun i hi => tx_get hr (by rw [hN]; exact hi))
  have ha := fun V => among_any k (n : Int) V
  have hb2 := fun V => among_any x (N : Int) V
  clear ht hs hl hr hB hN
  generalize askV t T x k = res at *
  obtain ⟨r1, e1⟩ : ∃ q, amB k (n : Int) = q := ⟨_, rfl⟩
  obtain ⟨r2, e2⟩ : ∃ q, amB x (N : Int) = q := ⟨_, rfl⟩
  rw [e1] at ha
  rw [e2] at hb2
  have E1 := Lib.hid e1
  have E2 := Lib.hid e2
  have HA := Lib.hid ha
  have HB2 := Lib.hid hb2
  clear e1 e2 ha hb2
  go_enter Try.func23, Try.ntmps23
  go_wp2_with fail
  refine (HSN.out _ HB.out).mono ?_
  rintro e w1 ⟨rfl, hb⟩
  replace HX := Lib.hid (HX.out.below hb)
  replace HY := Lib.hid (HY.out.below hb)
  replace HB := Lib.hid (HB.out.trans (hb.mono HB.out.size))
  clear hb HSN
  have x0 := HX.out.v0
  have y0 : w1.cell? ⟨w.heap.size + 1, 0, none⟩ = some (.slice D N d) := HY.out.c 0 _ rfl
  go_wp2_with fail
  refine (HA.out _).mono ?_
  rintro e w2 ⟨rfl, hv⟩
  replace HX := Lib.hid (HX.out.below hv)
  replace HY := Lib.hid (HY.out.below hv)
  replace HB := Lib.hid (HB.out.trans (hv.mono HB.out.size))
  clear hv x0 y0
  have y0 : w2.cell? ⟨w.heap.size + 1, 0, none⟩ = some (.slice D N d) := HY.out.c 0 _ rfl
  cases r1
  · have HNO := Lib.hid (HNM.out (by have := amB_no E1.out; omega))
    go_wp2_with fail
    go_ret
    exact ⟨by rw [HNO.out]; rfl, HB.out⟩
  go_wp2_with fail
  refine (HB2.out _).mono ?_
  rintro e w3 ⟨rfl, hv⟩
  replace HX := Lib.hid (HX.out.below hv)
  replace HY := Lib.hid (HY.out.below hv)
  replace HB := Lib.hid (HB.out.trans (hv.mono HB.out.size))
  clear hv y0
  have y0 : w3.cell? ⟨w.heap.size + 1, 0, none⟩ = some (.slice D N d) := HY.out.c 0 _ rfl
  cases r2
  · have HNO := Lib.hid (HNM.out (by have := amB_no E2.out; omega))
    go_wp2_with fail
    go_ret
    exact ⟨by rw [HNO.out]; rfl, HB.out⟩
  obtain ⟨i, rfl⟩ : ∃ i : Nat, x = (i : Int) := ⟨x.toNat, by have := amB_yes E2.out; omega⟩
  have hi : i < N := by have := amB_yes E2.out; omega
  have HIN := Lib.hid (show ¬ (k < 0 ∨ (n : Int) ≤ k ∨ (i : Int) < 0 ∨ (N : Int) ≤ (i : Int)) by have h1 := amB_yes E1.out; omega)
  obtain ⟨b2, rfl, hbl, q0, q1⟩ := HTG.out i hi
  have c1 := (HB.out.cell (p := ⟨b2, i * 4 + 1, none⟩) hbl).trans q1
  have hi1 : (i : Int) < (N : Int) := by omega
  have HS7 := Lib.hid (HST.out HIN.out)
  have HS0 := Lib.hid (HOK.out HIN.out)
  rw [Int.toNat_natCast] at HS7 HS0
  clear q0 q1 hbl HST HOK HTG
  generalize (T.tx i).s = s at *
  by_cases hs : s = 1
  · have f1 : (s != 1) = false := by simp [hs]
    have f2 : (s == 1) = true := by simp [hs]
    have HNO := Lib.hid (HS0.out hs)
    clear hs
    go_wp2_with fail
    go_ret
    exact ⟨by rw [HNO.out]; rfl, HB.out⟩
  · have f1 : (s != 1) = true := by simp [hs]
    have f2 : (s == 1) = false := by simp [hs]
    have HNO := Lib.hid (HS7.out hs)
    clear hs
    go_wp2_with fail
    go_ret
    exact ⟨by rw [HNO.out]; rfl, HB.out⟩
end Go.Proofs.Ytmhnjmfcenbogaa
