/-
  The document's side: which entries are open.
-/
import Derived.Test.YtpphhhalmccnbaaUb
namespace Go.Proofs.Ytpphhhalmccnbaa
set_option maxRecDepth 100000
set_option linter.unusedVariables false
set_option linter.unusedSimpArgs false
open Go.RowKit

def partO (n : Nat) (P : List Pe) (i : Nat) : List Bool := (List.range n).map fun k => decide (k < i) && decide (k ∈ plO P)
theorem partO_len {n i : Nat} {P : List Pe} : (partO n P i).length = n := by unfold partO; simp
theorem partO_get {n i k : Nat} {P : List Pe} (hk : k < n) : (partO n P i)[k]? = some (decide (k < i) && decide (k ∈ plO P)) := by unfold partO; rw [List.getElem?_map, List.getElem?_range hk]; rfl
theorem partO_zero {n : Nat} {P : List Pe} : partO n P 0 = List.replicate n false := by
  unfold partO
  rw [List.eq_replicate_iff]
  refine ⟨by simp, fun b hb => ?_⟩
  obtain ⟨k, _, rfl⟩ := List.mem_map.mp hb; simp
theorem partO_all {n : Nat} {P : List Pe} : partO n P n = isO n P := by
  unfold partO isO
  apply List.map_congr_left
  intro k hk
  rw [List.mem_range] at hk
  rw [decide_eq_true hk, Bool.true_and]
theorem partO_succ {n i : Nat} {P : List Pe} : partO n P (i + 1) = (partO n P i).set i (decide (i ∈ plO P)) := by
  apply List.ext_getElem?
  intro j
  rcases Nat.lt_or_ge j n with hj | hj
  · rw [partO_get hj, List.getElem?_set, partO_len, partO_get hj]
    by_cases e1 : i = j
    · subst e1; rw [if_pos rfl, if_pos hj, decide_eq_true (Nat.lt_succ_self i), Bool.true_and]
    · rw [if_neg e1]; congr 1; rw [Bool.eq_iff_iff]; simp only [Bool.and_eq_true, decide_eq_true_eq]; exact ⟨fun h => ⟨by omega, h.2⟩, fun h => ⟨by omega, h.2⟩⟩
  · rw [List.getElem?_eq_none (by rw [partO_len]; exact hj), List.getElem?_eq_none (by rw [List.length_set, partO_len]; exact hj)]
/-- which are open, as a call answers it -/
def opO (n : Nat) (l : List En) : List Bool :=
  match openO l with
  | none => List.replicate n false
  | some P => isO n P
theorem opO_some {n : Nat} {l : List En} {P : List Pe} (h : openO l = some P) : opO n l = isO n P := by unfold opO; rw [h]
theorem opO_none {n : Nat} {l : List En} (h : openO l = none) : opO n l = List.replicate n false := by unfold opO; rw [h]
theorem opO_len {n : Nat} {l : List En} : (opO n l).length = n := by
  unfold opO; split
  · simp
  · exact isO_len

set_option maxHeartbeats 4000000 in
theorem refopen_any (A : Option Addr) (n a : Nat) (l : List En) (hn : n ≤ 1000) (w : World) (hl : EsAt REr w A n l) :
    Calls Try.prog 35 #[.slice A n a] w fun r w' => Below w.heap.size w w' ∧ ∃ g, r = .returned (.slice (some ⟨g, 0, none⟩) n n) ∧ RL.Own w' w.heap.size (.slice (some ⟨g, 0, none⟩) n n) (opO n l) := by
  have HL := Lib.hid hl
  have hu := refundone_any A n a l hn w hl
  clear hl
  go_enter Try.func35, Try.ntmps35
  go_wp2_with fail
  refine hu.mono ?_
  rintro r w1 ⟨hb1, hr⟩
  clear hu
  obtain ⟨w2, hmk, ho2, hb2⟩ := Rk.run_make rl_ok w1 n false rl_zero (by show 1 * n ≤ _; omega) (by omega)
  obtain ⟨g, hg⟩ : ∃ g, g = w1.heap.size := ⟨_, rfl⟩
  rw [← hg] at hmk ho2
  replace hmk : (Instr.makeSlice 77 (.int .i64 (n : Int)) (.int .i64 (n : Int))).run Try.prog w1 = .ok (.slice (some ⟨g, 0, none⟩) n n) w2 := hmk
  have HG := Lib.hid (show w.heap.size ≤ g from by rw [hg]; exact hb1.size)
  have HB := Lib.hid (show Below w.heap.size w w2 from hb1.trans (hb2.mono hb1.size))
  have HO2 := Lib.hid ho2
  have HB1 := Lib.hid hb1
  have HB2 := Lib.hid hb2
  have HGE := Lib.hid hg
  clear ho2 hb2 hb1 hg
  rcases hr with ⟨hno, rfl⟩ | ⟨P, g1, hP, rfl, hgo⟩
  · have HN := Lib.hid hno
    clear hno
    go_wp2_with fail
    clear hmk
    go_loopw [6] (fun u wr => u = .int .i64 0 ∧ wr = w2) (fun u _ => 0)
    case atStart => exact ⟨rfl, rfl⟩
    case round =>
      obtain ⟨rfl, rfl⟩ := hrel
      rcases Nat.eq_zero_or_pos n with h0 | h0
      · subst h0
        go_wp2_with fail
        go_ret
        exact ⟨HB.out, g, rfl, by rw [opO_none HN.out]; exact HO2.out.le HG.out⟩
      · have hd1 : decide ((0 : Int) < (n : Int)) = true := decide_eq_true (by omega)
        have hd2 : decide (0 < n) = true := decide_eq_true h0
        go_wp2_with fail
        go_ret
        exact ⟨HB.out, g, rfl, by rw [opO_none HN.out]; exact HO2.out.le HG.out⟩
  · have HP := Lib.hid hP
    have HL1 := Lib.hid (hgo.lt g1 rfl)
    have HO1 := Lib.hid (hgo.below HB2.out)
    have HNE := Lib.hid (show g1 ≠ g from by have := HL1.out; have := HGE.out; omega)
    have HO2' := Lib.hid (show RL.Own w2 w.heap.size (.slice (some ⟨g, 0, none⟩) n n) (partO n P 0) from by rw [partO_zero]; exact HO2.out.le HG.out)
    clear hP hgo
    go_wp2_with fail
    clear hmk
    go_loopw [6] (fun u wr => ∃ i : Nat, u = .int .i64 (i : Int) ∧ i ≤ n ∧ Hid (RL.Own wr w.heap.size (.slice (some ⟨g, 0, none⟩) n n) (partO n P i)) ∧ Hid (RL.Own wr w.heap.size (.slice (some ⟨g1, 0, none⟩) n n) (goneO l P n)) ∧ Hid (Below w.heap.size w wr)) (fun u _ => n - (intOf u).toNat)
    case atStart => exact ⟨0, rfl, Nat.zero_le _, HO2', HO1, HB⟩
    case round =>
      obtain ⟨i, rfl, hi, HOi, HGi, HBi⟩ := hrel
      rcases Nat.lt_or_ge i n with hlt | hge
      · obtain ⟨b2, o, hA, hbl, hok, hget, h0, h1, h2, h3⟩ := HL.out.er hlt
        subst hA
        have c3 := (HBi.out.cell (p := ⟨b2, o + i * 4 + 3, none⟩) hbl).trans h3
        have hlp : i < (partO n P i).length := by rw [partO_len]; exact hlt
        have g0 := own_bool HOi.out hlp
        have gf := HOi.out.fr i
        have d0 := own_bool HGi.out (i := i) (by rw [goneO_len, HL.out.len]; exact hlt)
        have HIS := Lib.hid (show (!(l.getD i enD).u && !((goneO l P n).getD i false)) = decide (i ∈ plO P) from by
          have := HL.out.len; subst this
          exact isO_gone (open_fit HP.out) hlt)
        generalize (goneO l P n).getD i false = gl at *
        generalize (partO n P i).getD i false = pl at *
        generalize (l.getD i enD).u = ul at *
        have hd4 : decide ((i : Int) < (n : Int)) = true := decide_eq_true (by omega)
        have hd5 : decide (i < n) = true := decide_eq_true hlt
        have hi1 : (i : Int) < (n : Int) := by omega
        have HO3 := Lib.hid (fun z (hz : z = decide (i ∈ plO P)) => show RL.Own (wr.setCell ⟨g, i, none⟩ (.bool z)) w.heap.size (.slice (some ⟨g, 0, none⟩) n n) (partO n P (i + 1)) from by rw [partO_succ, ← hz]; exact own_bool_set HOi.out hlp z)
        have HO4 := Lib.hid (fun z => show RL.Own (wr.setCell ⟨g, i, none⟩ (.bool z)) w.heap.size (.slice (some ⟨g1, 0, none⟩) n n) (goneO l P n) from
          HGi.out.turn ((Turn.refl (fun q => q = g) wr).setCell _ _ (.inl rfl)) (fun k e h => by injection e with e; have e : g1 = k := e; have := HNE.out; omega))
        have HB4 := Lib.hid (fun z => show Below w.heap.size w (wr.setCell ⟨g, i, none⟩ (.bool z)) from HBi.out.setCell HG.out _)
        clear h0 h1 h2 h3 hbl hok hget hlp
        cases ul with
        | true =>
          have HZ := Lib.hid (HO3.out false (by rw [← HIS.out]; rfl))
          go_wp2_with fail
          exact ⟨⟨i + 1, rfl, hlt, HZ, Lib.hid (HO4.out _), Lib.hid (HB4.out _)⟩, by simp [intOf] <;> omega⟩
        | false =>
          cases gl with
          | true =>
            have HZ := Lib.hid (HO3.out false (by rw [← HIS.out]; rfl))
            go_wp2_with fail
            exact ⟨⟨i + 1, rfl, hlt, HZ, Lib.hid (HO4.out _), Lib.hid (HB4.out _)⟩, by simp [intOf] <;> omega⟩
          | false =>
            have HZ := Lib.hid (HO3.out true (by rw [← HIS.out]; rfl))
            go_wp2_with fail
            exact ⟨⟨i + 1, rfl, hlt, HZ, Lib.hid (HO4.out _), Lib.hid (HB4.out _)⟩, by simp [intOf] <;> omega⟩
      · obtain rfl : i = n := by omega
        have hd4 : decide ((i : Int) < (i : Int)) = false := decide_eq_false (by omega)
        have hd5 : decide (i < i) = false := decide_eq_false (by omega)
        go_wp2_with fail
        go_ret
        exact ⟨HBi.out, g, rfl, by rw [opO_some HP.out, ← partO_all]; exact HOi.out⟩
end Go.Proofs.Ytpphhhalmccnbaa
