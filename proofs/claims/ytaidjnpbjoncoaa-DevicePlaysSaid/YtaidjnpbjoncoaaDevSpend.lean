/-
  What is spent ahead of a write or a flush; a new device.
-/
import Derived.Test.YtaidjnpbjoncoaaDevSmall
import Derived.OwnWalk
namespace Go.Proofs.Ytaidjnpbjoncoaa
open Go.RowKit

section
variable {w : World} {p L M : Nat} {D : Dv}
theorem IsDev.die_ (h : IsDev w p L M D) : IsDev (w.setCell ⟨p, 3, none⟩ (.bool true)) p L M D.die := by
  have nm := h.nm
  obtain ⟨ok, ne, ⟨c, h1, h2, h3⟩, h4, h5⟩ := h
  exact ⟨ok.die, ne, ⟨c, h1, h2, heap_setCell_same _ _ _ _ _ _ h3⟩, by rw [heap_setCell_other _ _ _ _ (Ne.symm nm.1)]; exact h4, h5.same (heap_setCell_other _ _ _ _ (Ne.symm nm.2.1))⟩
theorem IsDev.more_ (h : IsDev w p L M D) (c' : Int) (hc : max c' (-1) = max (D.left - 1) (-1)) (hl : -9223372036854775808 ≤ c') : IsDev ((w.setCell ⟨p, 2, none⟩ (.int .i64 c')).setCell ⟨p, 4, none⟩ (.int .i64 (D.spent + 1 : Int))) p L M D.more := by
  have nm := h.nm
  obtain ⟨ok, ne, ⟨c, h1, h2, h3⟩, h4, h5⟩ := h
  refine ⟨ok.more, ne, ⟨c', hc, hl, heap_setCell_same _ _ _ _ _ _ (heap_setCell_same _ _ _ _ _ _ h3)⟩, ?_, ?_⟩
  · rw [heap_setCell_other _ _ _ _ (Ne.symm nm.1), heap_setCell_other _ _ _ _ (Ne.symm nm.1)]; exact h4
  · exact (h5.mono (by simp [Dv.more])).same ((heap_setCell_other _ _ _ _ (Ne.symm nm.2.1)).trans (heap_setCell_other _ _ _ _ (Ne.symm nm.2.1)))
theorem IsDev.more1_ (h : IsDev w p L M D) (hl : D.left = -1) : IsDev (w.setCell ⟨p, 4, none⟩ (.int .i64 (D.spent + 1 : Int))) p L M D.more := by
  have nm := h.nm
  obtain ⟨ok, ne, ⟨c, h1, h2, h3⟩, h4, h5⟩ := h
  refine ⟨ok.more, ne, ⟨c, by rw [h1, hl]; simp only [Dv.more, hl]; decide, h2, heap_setCell_same _ _ _ _ _ _ h3⟩, ?_, ?_⟩
  · rw [heap_setCell_other _ _ _ _ (Ne.symm nm.1)]; exact h4
  · exact (h5.mono (by simp [Dv.more])).same (heap_setCell_other _ _ _ _ (Ne.symm nm.2.1))
end

/-- what 'spend' answers -/
def spendE (D : Dv) : Int := if D.left = 0 then 11 else 0

theorem spend_any {w : World} {p L M : Nat} {D : Dv} (h : IsDev w p L M D) (hf : D.spent ≤ 1000000) : Calls Try.prog 30 #[ptr p] w fun e w' => e = .returned (.int .i64 (spendE D)) ∧ IsDev w' p L M D.spend ∧ Turn (· = p) w w' := by
  have hd := h.die_
  have hm := h.more_
  have hm1 := h.more1_
  obtain ⟨c, hc1, hc2, hb⟩ := h.own
  have hleft := h.ok.left'
  have hleft2 := h.ok.left
  have c2 : w.cell? ⟨p, 2, none⟩ = some (.int .i64 c) := by rw [cell_of_row _ _ _ _ _ _ hb]; rfl
  have c3 := h.c3
  have c4 := h.c4
  have f2 := h.fr 2
  have f3 := h.fr 3
  have f4 := h.fr 4
  unfold spendE Dv.spend
  clear h hb
  rcases (show c = 0 ∨ 0 < c ∨ c < 0 from by omega) with h0 | h0 | h0
  · subst h0
    have hl : D.left = 0 := by omega
    rw [if_pos hl, if_pos hl]
    have HD := Lib.hid hd
    clear hd hm hm1 hc1 hc2 hl hleft hleft2 hf
    go_enter Try.func30, Try.ntmps30
    go_wp2_with fail
    go_ret
    exact ⟨rfl, HD.out, (Turn.refl (· = p) w).setCell ⟨p, 3, none⟩ _ (.inl rfl)⟩
  · have hl : D.left = c := by omega
    rw [if_neg (by omega), if_neg (by omega)]
    have HM := Lib.hid (hm (c - 1) (by omega) (by omega))
    have e1 : (c == 0) = false := by simp; omega
    have e2 : decide (0 < c) = true := decide_eq_true h0
    have hcl : c < 9223372036854775808 := by omega
    generalize D.spent = s at *
    clear hd hm hm1 hc1 hl hleft2 hleft
    go_enter Try.func30, Try.ntmps30
    go_wp2_with fail
    go_ret
    exact ⟨rfl, HM.out, ((Turn.refl (· = p) w).setCell ⟨p, 2, none⟩ _ (.inl rfl)).setCell ⟨p, 4, none⟩ _ (.inl rfl)⟩
  · have hl : D.left = -1 := by omega
    rw [if_neg (by omega), if_neg (by omega)]
    have HM := Lib.hid (hm1 hl)
    have e1 : (c == 0) = false := by simp; omega
    have e2 : decide (0 < c) = false := decide_eq_false (by omega)
    generalize D.spent = s at *
    clear hd hm hm1 hc1 hl hleft2 hleft
    go_enter Try.func30, Try.ntmps30
    go_wp2_with fail
    go_ret
    exact ⟨rfl, HM.out, (Turn.refl (· = p) w).setCell ⟨p, 4, none⟩ _ (.inl rfl)⟩

/-- a new one: its three blocks are new -/
def NewDev (w : World) (D : Dv) (e : Ending) (w' : World) : Prop :=
  ∃ p L M, e = .returned (.tuple #[ptr p, .int .i64 0]) ∧ IsDev w' p L M D ∧ Below w.heap.size w w' ∧ w.heap.size ≤ p ∧ w.heap.size ≤ L ∧ w.heap.size ≤ M

theorem new_bad (w : World) (n : Int) (hn : n < 1 ∨ 4096 < n) : Calls Try.prog 11 #[.int .i64 n] w fun e w' => e = .returned (.tuple #[.pointer none, .int .i64 1]) ∧ w' = w := by
  by_cases h1 : n < 1
  · have d1 : decide (n < 1) = true := decide_eq_true h1
    clear hn
    go_enter Try.func11, Try.ntmps11
    go_wp2_with fail
    go_ret2
    exact ⟨rfl, rfl⟩
  · have d1 : decide (n < 1) = false := decide_eq_false h1
    have d2 : decide (4096 < n) = true := decide_eq_true (by omega)
    clear hn
    go_enter Try.func11, Try.ntmps11
    go_wp2_with fail
    go_ret2
    exact ⟨rfl, rfl⟩

theorem madeCells_zero (n : Nat) : madeCells (secV Dv.zeros).cells (n * 64) = secs n fun _ => Dv.zeros := by
  apply Array.ext_getElem?
  intro j
  rcases Nat.lt_or_ge j (n * 64) with hj | hj
  · rw [get_secs _ _ _ hj]
    unfold madeCells
    rw [Array.getElem?_map, Array.getElem?_range, if_pos hj]
    have e1 : (secV Dv.zeros).cells.size = 64 := by simp [secV, Value.cells, length_byteVs, Dv.len_zeros]
    have e2 : ∀ k, k < 64 → (secV Dv.zeros).cells[k]? = some (byteV 0) := fun k hk => by
      simp only [secV, Value.cells, byteVs, Dv.zeros, List.map_replicate]
      rw [List.getElem?_toArray, List.getElem?_replicate, if_pos hk]
    simp only [Option.map_some, e1]
    rw [getElem!_def, e2 _ (Nat.mod_lt _ (by omega))]
    simp only [Dv.zeros, List.getD_eq_getElem?_getD]
    rw [List.getElem?_replicate, if_pos (Nat.mod_lt _ (by omega))]
    rfl
  · rw [Array.getElem?_eq_none (by simp [madeCells]; exact hj), Array.getElem?_eq_none (by rw [size_secs]; exact hj)]

theorem row_block {w : World} {base g n : Nat} {f : Nat → List UInt8} (h : w.ownsRow base 60 64 (.slice (some ⟨g, 0, none⟩) n n) n (secs n f).toList) : w.heap[g]? = some (.cells (secs n f) 60 (0, 0)) ∧ base ≤ g := by
  rcases h.2 with ⟨e, _⟩ | ⟨g', cap, cur, e, hb, hh, h1, h2, h3, h4⟩
  · cases e
  · injection e with e1 e2 e3
    injection e1 with e1
    injection e1 with e1 _ _
    subst e1 e3
    refine ⟨?_, hb⟩
    rw [hh]
    have : cur = secs n f := by
      apply Array.ext'
      rw [← h4, List.take_of_length_le]
      rw [Array.length_toList, h3]; omega
    rw [this]

theorem newdev_any (w : World) (n : Nat) (h1 : 1 ≤ n) (h2 : n ≤ 4096) : Calls Try.prog 11 #[.int .i64 (n : Int)] w (NewDev w (.fresh n)) := by
  have hi0 : ∃ i, Try.prog.info? 60 = some i ∧ i.zero = some (secV Dv.zeros) ∧ i.size = 64 ∧ i.bytes = 64 := by
    have hz : (Try.prog.info? 60).map (fun i => (i.zero, i.size, i.bytes)) = some (some (secV Dv.zeros), 64, 64) := by kernel_rfl
    cases hi : Try.prog.info? 60 with
    | none => rw [hi] at hz; cases hz
    | some i =>
      rw [hi] at hz
      simp only [Option.map_some, Option.some.injEq, Prod.mk.injEq] at hz
      exact ⟨i, rfl, hz.1, hz.2.1, hz.2.2⟩
  obtain ⟨i, hi, hz, hs, hby⟩ := hi0
  have HI := Lib.hid hi
  clear hi
  have hmm := @run_makeMap Try.prog
  have d1 : decide ((n : Int) < 1) = false := decide_eq_false (by omega)
  have d2 : decide (4096 < (n : Int)) = false := decide_eq_false (by omega)
  go_enter Try.func11, Try.ntmps11
  go_wp2_with (at_make; refine wpList_make_full _ rfl _ _ 55 rfl w.heap.size 60 i (secV Dv.zeros) 64 Try.underlying55 HI.out hz hs .i64 .i64 _ _ n rfl rfl rfl rfl (by rw [hby]; omega) (by unfold maxLen; omega) (Nat.le_refl _) ?_; intro w1 hown hg1; rw [madeCells_zero] at hown; have HO := Lib.hid (row_block hown); have HG := Lib.hid hg1; clear hown hg1)
  go_ret2
  have g1 := HG.out
  obtain ⟨hb, _⟩ := HO.out
  have hlt := lt_of_block hb
  refine ⟨w1.heap.size + 1, w.heap.size, w1.heap.size, rfl, ⟨Dv.ok_fresh h1 h2, by omega, ⟨-1, rfl, by omega, heap_alloc2_new _ _ _⟩, ?_, ?_⟩, ?_, by omega, Nat.le_refl _, g1.size⟩
  · rw [heap_alloc_old _ _ (by simp; omega), heap_alloc_old _ _ hlt]; exact hb
  · exact (Cache.made w1).same (heap_alloc_old _ _ (by simp))
  · exact (((Below.refl _ _).grown g1 (Nat.le_refl _) (by simp)).alloc g1.size _).alloc (by simp; exact Nat.le_succ_of_le g1.size) _

end Go.Proofs.Ytaidjnpbjoncoaa
