/-
  within, and the function value of Ops: a table of 64.
-/
import Derived.Test.YtpphhhalmccnbaaQi
import Derived.Test.YtpphhhalmccnbaaKp
import Derived.Test.YtpphhhalmccnbaaUm
namespace Go.Proofs.Ytpphhhalmccnbaa
set_option maxRecDepth 100000
set_option linter.unusedVariables false
set_option linter.unusedSimpArgs false
open Go.RowKit

/-- an array of 64 bools -/
def arrB (f : Nat → Bool) : Array Value := Array.ofFn (n := 64) fun i => .bool (f i)
theorem size_arrB (f : Nat → Bool) : (arrB f).size = 64 := by simp [arrB]
theorem get_arrB (f : Nat → Bool) (i : Nat) (h : i < 64) : (arrB f)[i]? = some (.bool (f i)) := by
  unfold arrB
  rw [Array.getElem?_ofFn, dif_pos h]
theorem arrB_eq (f g : Nat → Bool) (h : ∀ i, i < 64 → f i = g i) : arrB f = arrB g := by
  unfold arrB
  congr 1
  funext i
  rw [h i i.isLt]
theorem arrB_set (f g : Nat → Bool) (k : Nat) (v : Bool) (h : ∀ i, i < 64 → g i = if i = k then v else f i) : (arrB f).setIfInBounds k (.bool v) = arrB g := by
  apply Array.ext_getElem?
  intro i
  rw [Array.getElem?_setIfInBounds, size_arrB]
  rcases Nat.lt_or_ge i 64 with hi | hi
  · rw [get_arrB f i hi, get_arrB g i hi, h i hi]
    by_cases hk : k = i
    · subst hk; rw [if_pos rfl, if_pos hi, if_pos rfl]
    · rw [if_neg hk, if_neg (fun e => hk e.symm)]
  · rw [Array.getElem?_eq_none (by rw [size_arrB]; exact hi), Array.getElem?_eq_none (by rw [size_arrB]; exact hi)]
    by_cases hk : k = i
    · subst hk; rw [if_pos rfl, if_neg (by omega)]
    · rw [if_neg hk]
theorem arrB_one (f : Nat → Bool) : (arrB f).all (·.oneCell') = true := by
  rw [Array.all_eq_true]
  intro i hi
  have := get_arrB f i (by simpa [size_arrB] using hi)
  rw [Array.getElem?_eq_getElem hi] at this
  have h2 : (arrB f)[i] = .bool (f i) := Option.some.inj this
  rw [h2]
  rfl
theorem arrB_zero : ((Try.prog.info? 92).map (fun i => i.zero.map (·.cells))) = some (some (arrB fun _ => false)) := by kernel_rfl
theorem arrB_size : ((Try.prog.info? 92).map (·.size)) = some 64 := by kernel_rfl
theorem below_setRow {B : Nat} {a w : World} (h : Below B a w) {g : Nat} (hg : B ≤ g) (cs : Array Value) : Below B a (w.setRow g cs) :=
  ⟨h.os, h.tape, h.output, by rw [setRow_size]; exact h.size, fun k hk => by rw [setRow_other _ _ _ _ (by omega)]; exact h.block k hk⟩

set_option maxHeartbeats 4000000 in
theorem table_any (D : Option Addr) (N d : Nat) (T : Tr) (c of : Int) (hN : T.l.length = N) (hN6 : N ≤ 1000) (w : World) (ht : RTo.At w D T.l) :
    Calls Try.prog 43 #[trV D N d c, .int .i64 of] w fun r w' => r = .returned (.agg (arrB fun j => standsR T (j : Int) of)) ∧ Below w.heap.size w w' := by
  have HT := Lib.hid ht
  have HN := Lib.hid hN
  obtain ⟨F, hF⟩ : ∃ F : Nat → Bool, F = fun j : Nat => standsR T (j : Int) of := ⟨_, rfl⟩
  rw [← hF]
  have HFF := Lib.hid hF
  clear hF
  obtain ⟨w1, hw1⟩ : ∃ w1, w1 = ((w.alloc (.cells (trC D N d c) 55)).alloc (.cells (arrB fun _ => false) 92)).alloc (.cells (arrB fun _ => false) 92) := ⟨_, rfl⟩
  have HB := Lib.hid (show Below w.heap.size w w1 from by rw [hw1]; exact below_two (below_two (below_new _ _) (below_new _ _)) (below_new _ _))
  have HX := Lib.hid (show Bk w1 w.heap.size (trC D N d c) 55 from by rw [hw1]; exact ((Bk.new w _ _).al _).al _)
  have HR := Lib.hid (show Bk w1 (w.heap.size + 1) (arrB fun _ => false) 92 from by
    have h := Bk.new (w.alloc (.cells (trC D N d c) 55)) (arrB fun _ => false) 92
    rw [size_al] at h
    rw [hw1]; exact h.al _)
  have HV := Lib.hid (show Bk w1 (w.heap.size + 1 + 1) (arrB fun j => decide (j < 0) && standsR T (j : Int) of) 92 from by
    have h := Bk.new ((w.alloc (.cells (trC D N d c) 55)).alloc (.cells (arrB fun _ => false) 92)) (arrB fun _ => false) 92
    rw [size_al, size_al] at h
    rw [hw1, arrB_eq (fun j => decide (j < 0) && standsR T (j : Int) of) (fun _ => false) (fun i _ => by simp)]; exact h)
  have HZ := Lib.hid arrB_zero
  clear ht hN
  go_enter Try.func43, Try.ntmps43
  go_upto_region 2 with ((with_reducible refine wpList_alloc_zero (by rfl) 92 (by rfl) _ HZ.out ?_))
  rw [← hw1]
  clear hw1 HZ
  go_wp2_with fail
  go_loopw [7] (fun u wr => ∃ i : Nat, u = .int .i64 (i : Int) ∧ i ≤ 64 ∧ Hid (Bk wr w.heap.size (trC D N d c) 55) ∧ Hid (Bk wr (w.heap.size + 1) (arrB fun _ => false) 92) ∧ Hid (Bk wr (w.heap.size + 1 + 1) (arrB fun j => decide (j < i) && standsR T (j : Int) of) 92) ∧ Hid (Below w.heap.size w wr)) (fun u _ => 64 - (intOf u).toNat)
  case atStart => exact ⟨0, rfl, by omega, HX, HR, HV, HB⟩
  case round =>
    obtain ⟨i, rfl, hi, HXi, HRi, HVi, HBi⟩ := hrel
    clear HX HR HV HB
    rcases Nat.lt_or_ge i 64 with hlt | hge
    · have x0 : wr.cell? ⟨w.heap.size, 0, none⟩ = some (.slice D N d) := HXi.out.c 0 _ rfl
      have x1 : wr.cell? ⟨w.heap.size, 1, none⟩ = some (.int .i64 c) := HXi.out.c 1 _ rfl
      have hd4 : decide ((i : Int) < 64) = true := decide_eq_true (by omega)
      have hd5 : decide (i < 64) = true := decide_eq_true hlt
      have hi1 : (i : Int) < 64 := by omega
      have hwi := fun V (hV : Below wr.heap.size wr V) => pwithin_any D T N d c (i : Int) of HN.out hN6 V (HT.out.below (HBi.out.trans (hV.mono HBi.out.size)))
      obtain ⟨b, hb⟩ : ∃ b, b = standsR T (i : Int) of := ⟨_, rfl⟩
      rw [← hb] at hwi
      have HBB := Lib.hid hb
      have HWI := Lib.hid (hwi wr (Below.refl _ _))
      clear hwi hb
      go_wp2_with fail
      refine HWI.out.mono ?_
      rintro r w4 ⟨rfl, hb4⟩
      have HX4 := Lib.hid (HXi.out.below hb4)
      have HR4 := Lib.hid (HRi.out.below hb4)
      have HV4 := Lib.hid (HVi.out.below hb4)
      have HB4 := Lib.hid (HBi.out.trans (hb4.mono HBi.out.size))
      clear hb4 x0 x1 HXi HRi HVi HBi
      have g0 := HV4.out.c i _ (get_arrB _ i hlt)
      have gf := HV4.out.fr i
      have HVS := Lib.hid (show Bk (w4.setCell ⟨w.heap.size + 1 + 1, i, none⟩ (.bool b)) (w.heap.size + 1 + 1) (arrB fun j => decide (j < i + 1) && standsR T (j : Int) of) 92 from by
        rw [← arrB_set (fun j => decide (j < i) && standsR T (j : Int) of) (fun j => decide (j < i + 1) && standsR T (j : Int) of) i b (fun j _ => by
          rw [HBB.out]
          by_cases h1 : j = i
          · subst h1; simp
          · rw [if_neg h1]
            congr 1
            rw [Bool.eq_iff_iff, decide_eq_true_eq, decide_eq_true_eq]; omega)]
        exact heap_setCell_same _ _ _ _ _ _ HV4.out)
      have HXS := Lib.hid (show Bk (w4.setCell ⟨w.heap.size + 1 + 1, i, none⟩ (.bool b)) w.heap.size (trC D N d c) 55 from HX4.out.oth (by omega) _ _)
      have HRS := Lib.hid (show Bk (w4.setCell ⟨w.heap.size + 1 + 1, i, none⟩ (.bool b)) (w.heap.size + 1) (arrB fun _ => false) 92 from HR4.out.oth (by omega) _ _)
      have HBS := Lib.hid (show Below w.heap.size w (w4.setCell ⟨w.heap.size + 1 + 1, i, none⟩ (.bool b)) from HB4.out.setCell (by show _ ≤ w.heap.size + 1 + 1; omega) _)
      clear HX4 HR4 HB4 HBB HWI
      go_wp2_with fail
      exact ⟨⟨i + 1, rfl, hlt, HXS, HRS, HVS, HBS⟩, by simp [intOf] <;> omega⟩
    · obtain rfl : i = 64 := by omega
      have hd4 : decide (((64 : Nat) : Int) < 64) = false := by decide
      have hd6 : decide ((64 : Int) < 64) = false := by decide
      have hd5 : decide (64 < 64) = false := by decide
      have HVF := Lib.hid (show Bk wr (w.heap.size + 1 + 1) (arrB F) 92 from by
        have h := HVi.out
        rwa [arrB_eq _ F (fun j hj => by rw [HFF.out]; simp only [decide_eq_true hj, Bool.true_and])] at h)
      clear HVi
      go_wp2_with (first
        | (refine wpList_load_row rfl 92 (.tmp 5) rfl (w.heap.size + 1 + 1) rfl _ (arrB F) _ _ HVF.out Try.underlying92 rfl (by rw [size_arrB]; exact arrB_size) ?_)
        | (refine wpList_store_row rfl 92 (.tmp 4) (.tmp 17) rfl (w.heap.size + 1) (arrB F) rfl rfl _ _ HRi.out (by rw [size_arrB]; exact arrB_size) (by rw [size_arrB, size_arrB]) (arrB_one _) ?_))
      exact bodyPost_ret (results_cell_row rfl _ _ (w.heap.size + 1) _ (arrB F) _ _ rfl (setRow_heap _ _ _ _ _ _ HRi.out) Try.underlying92 rfl (by rw [size_arrB]; exact arrB_size)) rfl ⟨rfl, below_setRow HBi.out (by omega) _⟩
end Go.Proofs.Ytpphhhalmccnbaa
