/-
  The table: the program's own and the document's, entry by entry.
-/
import Derived.Test.YtknjkihcpcimpaaBase
import Derived.Test.YtknjkihcpcimpaaHalf
import Derived.Laws.Rows
import Derived.Deep.LoopGhost
import Derived.Below
namespace Go.Proofs.Ytknjkihcpcimpaa
set_option maxRecDepth 100000
open Go.RowKit Crc

/-- an array of 256 numbers -/
def arr (f : Nat → BitVec 32) : Array Value := Array.ofFn (n := 256) fun i => .int .u32 (word (f i))

theorem size_arr (f : Nat → BitVec 32) : (arr f).size = 256 := by simp [arr]
theorem get_arr (f : Nat → BitVec 32) (i : Nat) (h : i < 256) : (arr f)[i]? = some (.int .u32 (word (f i))) := by
  unfold arr
  rw [Array.getElem?_ofFn, dif_pos h]
theorem arr_eq (f g : Nat → BitVec 32) (h : ∀ i, i < 256 → f i = g i) : arr f = arr g := by
  unfold arr
  congr 1
  funext i
  rw [h i i.isLt]
theorem arr_set (f g : Nat → BitVec 32) (k : Nat) (v : BitVec 32) (h : ∀ i, i < 256 → g i = if i = k then v else f i) : (arr f).setIfInBounds k (.int .u32 (word v)) = arr g := by
  apply Array.ext_getElem?
  intro i
  rw [Array.getElem?_setIfInBounds, size_arr]
  rcases Nat.lt_or_ge i 256 with hi | hi
  · rw [get_arr f i hi, get_arr g i hi, h i hi]
    by_cases hk : k = i
    · subst hk; rw [if_pos rfl, if_pos hi, if_pos rfl]
    · rw [if_neg hk, if_neg (fun e => hk e.symm)]
  · rw [Array.getElem?_eq_none (by rw [size_arr]; exact hi), Array.getElem?_eq_none (by rw [size_arr]; exact hi)]
    by_cases hk : k = i
    · subst hk; rw [if_pos rfl, if_neg (by omega)]
    · rw [if_neg hk]
theorem arr_one (f : Nat → BitVec 32) : (arr f).all (·.oneCell') = true := by
  rw [Array.all_eq_true]
  intro i hi
  have := get_arr f i (by simpa [size_arr] using hi)
  rw [Array.getElem?_eq_getElem hi] at this
  have h2 : (arr f)[i] = .int .u32 (word (f i)) := Option.some.inj this
  rw [h2]
  rfl

section
variable {P : Program}
end

/-- a table of which f is in, in the call's own memory, behind a cell of the answer -/
def Tb (w0 : World) (f : Nat → BitVec 32) (wr : World) : Prop :=
  Below w0.heap.size w0 wr ∧ wr.heap[w0.heap.size]? = some (.cells (arr fun _ => 0#32) 89) ∧ wr.heap[w0.heap.size + 1]? = some (.cells (arr f) 89)

section
variable {w0 wr : World} {f g : Nat → BitVec 32}
theorem Tb.start (w0 : World) : Tb w0 (fun _ => 0#32) ((w0.alloc (.cells (arr fun _ => 0#32) 89)).alloc (.cells (arr fun _ => 0#32) 89)) :=
  ⟨((Below.refl _ _).alloc (Nat.le_refl _) _).alloc (by simp) _, heap_alloc2_old _ _ _, heap_alloc2_new _ _ _⟩
theorem Tb.cell (h : Tb w0 f wr) (i : Nat) (hi : i < 256) : wr.cell? ⟨w0.heap.size + 1, i, none⟩ = some (.int .u32 (word (f i))) :=
  (cell_of_row _ _ _ _ _ _ h.2.2).trans (get_arr f i hi)
theorem Tb.free (h : Tb w0 f wr) (i : Nat) : wr.frozen? ⟨w0.heap.size + 1, i, none⟩ = false := frozen_of_row _ _ _ _ _ h.2.2
theorem Tb.set (h : Tb w0 f wr) (k : Nat) (v : BitVec 32) (hg : ∀ i, i < 256 → g i = if i = k then v else f i) : Tb w0 g (wr.setCell ⟨w0.heap.size + 1, k, none⟩ (.int .u32 (word v))) := by
  refine ⟨h.1.setCell (by simp) _, ?_, ?_⟩
  · rw [heap_setCell_other _ _ _ _ (by simp)]; exact h.2.1
  · rw [heap_setCell_same _ _ _ _ _ _ h.2.2, arr_set f g k v hg]
theorem Tb.same (h : Tb w0 f wr) (hg : ∀ i, i < 256 → f i = g i) : Tb w0 g wr := by
  refine ⟨h.1, h.2.1, ?_⟩
  rw [← arr_eq f g hg]
  exact h.2.2
end

theorem below_setRow {B : Nat} {a w : World} (h : Below B a w) {g : Nat} (hg : B ≤ g) (cs : Array Value) : Below B a (w.setRow g cs) :=
  ⟨h.os, h.tape, h.output, by rw [setRow_size]; exact h.size, fun k hk => by rw [setRow_other _ _ _ _ (by omega)]; exact h.block k hk⟩

/-- the places of the loop over the entries that have the bit 2^K -/
theorem above_next (K j : Nat) (h : K < 8) (hj : 2 ^ (K + 1) * j < 256) : 2 ^ (K + 1) * (j + 1) ≤ 256 := by
  rcases K with _ | _ | _ | _ | _ | _ | _ | _ | K
  all_goals first | (exfalso; omega) | omega

set_option maxHeartbeats 400000 in
set_option maxRecDepth 100000 in
theorem table_any (w : World) : Calls Try.prog 61 #[] w fun e w' => e = .returned (.agg (arr tab)) ∧ Below w.heap.size w w' := by
  have hi0 : ((Try.prog.info? 89).map (fun i => i.zero.map (·.cells))) = some (some (arr fun _ => 0#32)) := by kernel_rfl
  have hi1 : ((Try.prog.info? 89).map (·.size)) = some 256 := by kernel_rfl
  have HI0 := Lib.hid hi0
  have HI1 := Lib.hid hi1
  clear hi0 hi1
  go_enter Try.func61, Try.ntmps61
  go_wp2_with ((with_reducible refine wpList_alloc_zero (by rfl) 89 (by rfl) _ HI0.out ?_))
  go_loopg [2, 3] 8 (fun k v b wr => ∃ (B : Nat) (u : BitVec 32), v = .int .u32 (word u) ∧ b = .int .i64 (B : Int) ∧ B ≤ 128 ∧ k ≤ 8 ∧ Hid (B = 2 ^ k / 2) ∧ Hid (u = tab (2 ^ k)) ∧ Hid (Tb w (fillA k) wr))
  case atStart => exact ⟨128, 1#32, rfl, rfl, by omega, by omega, rfl, tab_top.symm, (Tb.start w).same fun i hi => (fill_start i hi).symm⟩
  case round =>
    obtain ⟨B, u, rfl, rfl, hB, hk, HB, HU, HT⟩ := hrel
    rcases gk with _ | K
    · obtain rfl : B = 0 := HB.out
      clear HB hB
      have HT2 := Lib.hid (HT.out.same fun i _ => fill_end i)
      have hg1 := Lib.hid HT2.out.2.2
      have hg0 := Lib.hid HT2.out.2.1
      clear HT
      go_wp2_with (first
        | (refine wpList_load_row rfl 89 (.tmp 1) rfl (w.heap.size + 1) rfl _ (arr tab) _ _ hg1.out Try.underlying89 rfl (by rw [size_arr]; exact HI1.out) ?_)
        | (refine wpList_store_row rfl 89 (.tmp 0) (.tmp 26) rfl w.heap.size (arr tab) rfl rfl _ _ hg0.out (by rw [size_arr]; exact HI1.out) (by rw [size_arr, size_arr]) (arr_one _) ?_))
      exact bodyPost_ret (results_cell_row rfl _ _ w.heap.size _ (arr tab) _ _ rfl (setRow_heap _ _ _ _ _ _ hg0.out) Try.underlying89 rfl (by rw [size_arr]; exact HI1.out)) rfl ⟨rfl, below_setRow HT2.out.1 (Nat.le_refl _) _⟩
    · have HB2 : Hid (B = 2 ^ K) := by
        show _ = _
        rw [HB.out, Nat.pow_succ]
        omega
      have hK : K < 8 := by omega
      have hB1 : 1 ≤ B := by have := HB2.out; rw [this]; exact Nat.one_le_two_pow
      have HH : Hid (half u = tab (2 ^ K)) := by rw [HU.out]; exact tab_half K hK
      generalize hv : half u = v at HH
      have hc := halved_any u
      rw [hv] at hc
      have HC := Lib.hid hc
      clear hc hv
      go_wp2_with (go_at_call 62; refine (HC.out _).mono ?_; rintro e w' ⟨rfl, rfl⟩)
      go_loopw [4] (fun a wq => ∃ (A j : Nat), a = .int .i64 (A : Int) ∧ A ≤ 256 ∧ Hid (A = 2 ^ (K + 1) * j) ∧ Hid (Tb w (fillB K A) wq)) (fun a _ => 256 - (intOf a).toNat)
      case atStart => exact ⟨0, 0, rfl, by omega, rfl, HT.out.same fun i _ => (fill_in K i hK).symm⟩
      case round =>
        obtain ⟨A, j, rfl, hA, HA, HT3⟩ := hrel
        rcases Nat.lt_or_ge A 256 with hlt | hge
        · have hn : A + 2 * B ≤ 256 ∧ Hid (A + 2 * B = 2 ^ (K + 1) * (j + 1)) := by
            have h1 := above_next K j hK (by rw [← HA.out]; exact hlt)
            have h2 : A + 2 * B = 2 ^ (K + 1) * (j + 1) := by rw [HA.out, HB2.out, Nat.mul_add, Nat.mul_one, Nat.pow_succ, Nat.mul_comm 2 (2 ^ K)]
            exact ⟨by rw [h2]; exact h1, h2⟩
          obtain ⟨hn1, HN1⟩ := hn
          have c1 := HT3.out.cell A hlt
          have e1 : fillB K A A = tab A := by have := fill_at K j hK; rw [← HA.out] at this; exact this
          rw [e1] at c1
          have c2 := HT3.out.cell (A + B) (by omega)
          have f2 := HT3.out.free (A + B)
          have hx := word_xor (tab A) v
          have HS : Hid (∀ i, i < 256 → fillB K (A + 2 * B) i = if i = A + B then tab A ^^^ v else fillB K A i) := fun i _ => by
            rw [HN1.out, HH.out, fill_step K j i hK, ← HA.out, ← HB2.out]
          clear e1
          go_wp2_with fail
          refine ⟨⟨A + 2 * B, j + 1, by go_num, hn1, HN1, HT3.out.set _ _ HS.out⟩, ?_⟩
          simp [intOf]; omega
        · obtain rfl : A = 256 := by omega
          have HT4 := Lib.hid (HT3.out.same fun i hi => fill_out K 256 i (Nat.le_refl _) hi)
          clear hge hA HA HT3
          go_wp2_with fail
          go_roundg K
          case measure => omega
          case rel =>
            exact ⟨B / 2, v, rfl, by go_num, by omega, by omega, by have := HB2.out; rw [this]; rfl, HH, HT4⟩

end Go.Proofs.Ytknjkihcpcimpaa
