/-
  Two epochs, by their words: what is found behind a second crash is what was found behind the first, and a beginning of what was laid behind it. No program.
-/
import Derived.Test.YtdjfahnnfhediaaModel7
namespace Go.Proofs.Ytdjfahnnfhediaa
set_option maxRecDepth 100000
open Go.RowKit Crc Wm

/-- what stands behind the first crash -/
structure One (D1 : Dv) (old : List (Int × List UInt8)) (T1 : Int) : Prop where
  n64 : D1.n = 64
  gone : D1.gone = false
  late : ∀ s, D1.late s = none
  ends : gatE (from_ (ringL D1 ⟨0, 64, 0, 0⟩) 0 T1) T1 ≠ 0
  run : ∃ last, Run (ringL D1 ⟨0, 64, 0, 0⟩) 0 2 0 0 old last T1 ∧ last ≤ 1
  t : 0 ≤ T1 ∧ T1 ≤ 64
  elder : ∀ a : Int, 0 ≤ a → a < 64 → readE (D1.laid (sec ⟨0, 64, 0, 0⟩ a)) = 0 → (readP (D1.laid (sec ⟨0, 64, 0, 0⟩ a))).E < 2

theorem One.of {D : Dv} {bs : List (List UInt8)} {g : Nat} (ht : Tr ⟨0, 64, 0, 0⟩ 0 zeroC D (piecesAt 1 0 bs) g 0) (hc : Cuts 1 0 bs) (hn : D.n = 64) (hl : (piecesAt 1 0 bs).length ≤ 64) (keep : Nat → Bool) {old : List (Int × List UInt8)} {T1 : Int} (hf : Fnd (ringL (D.crash keep) ⟨0, 64, 0, 0⟩) 0 2 old T1) : One (D.crash keep) old T1 := by
  have hn1 : (D.crash keep).n = 64 := hn
  have ht1 := ht.crash keep
  obtain ⟨k, _, k2, k3, k4, k5, last, k6, k7⟩ := found_first (m := 0) ht1 (by decide) (by decide) (by rw [hn1]; decide) rfl hc (by decide) (by decide) (by omega) (Nat.zero_le _) (by simp [piecesAt]) hf
  have hin := hf.in_ (by decide)
  rw [length_ringL] at hin
  have hS : (((Rg.mk 0 64 0 0).S.toNat : Nat) : Int) = 64 := rfl
  rw [hS] at hin
  refine ⟨hn1, rfl, fun _ => rfl, k5, ⟨last, k6, k7⟩, by omega, fun a h0 h1 hr => ?_⟩
  rcases Nat.lt_or_ge a.toNat (piecesAt 1 0 bs).length with hlt | hge
  · have hx : (piecesAt 1 0 bs)[a.toNat]? = some ((piecesAt 1 0 bs)[a.toNat]) := List.getElem?_eq_getElem hlt
    have ha : (0 : Int) + ((a.toNat : Nat) : Int) = a := by omega
    have h := (ht1.one _ _ hx).1
    rw [ha] at h
    rcases h with h | h
    · exfalso
      rw [h] at hr
      exact zeros_bad hr
    · rw [h, (piece_mem hc hx).2.1]
      decide
  · exfalso
    have hr2 := ht1.rest (sec ⟨0, 64, 0, 0⟩ a) (fun j hj => sec_ne (by decide) (by decide) (by omega) (by show a - (0 + (j : Int)) < 64; omega))
    rw [hr2.2] at hr
    exact zeros_bad hr

/-- what is found behind the second one -/
theorem One.two {D1 D2 : Dv} {old : List (Int × List UInt8)} {T1 : Int} {bs : List (List UInt8)} {g f m : Nat} (h : One D1 old T1) (ht : Tr ⟨0, 64, 0, 0⟩ T1 D1.laid D2 (piecesAt 2 T1 bs) g f) (hc : Cuts 2 T1 bs) (hn : D2.n = 64) (hl : T1 + (piecesAt 2 T1 bs).length ≤ 64) (hm : m ≤ bs.length) (hmf : (piecesAt 2 T1 (bs.take m)).length ≤ f) (hold : Nat → Bool)
    {got : List (Int × List UInt8)} {t : Int} (hf : Fnd (ringL (D2.crash hold) ⟨0, 64, 0, 0⟩) 0 3 got t) : ∃ k, m ≤ k ∧ k ≤ bs.length ∧ got = old ++ recsAt T1 (bs.take k) := by
  have hn3 : (D2.crash hold).n = 64 := hn
  have ht3 := (ht.crash hold).forced (fun _ => rfl)
  obtain ⟨last, hrun, hlast⟩ := h.run
  have hT := h.t
  -- the sectors that were there
  have hbl : baseL ⟨0, 64, 0, 0⟩ T1 D1.laid (64 - (T1 - 0)).toNat = from_ (ringL D1 ⟨0, 64, 0, 0⟩) 0 T1 := by
    apply List.ext_getElem?
    intro i
    have hl1 : (from_ (ringL D1 ⟨0, 64, 0, 0⟩) 0 T1).length = (64 - (T1 - 0)).toNat := by
      unfold from_
      rw [List.length_drop, length_ringL]
      show 64 - (T1 - 0).toNat = _
      omega
    rcases Nat.lt_or_ge i (64 - (T1 - 0)).toNat with hi | hi
    · rw [from_get (R := ⟨0, 64, 0, 0⟩) (by show (0 : Int) ≤ T1; omega) i (by show T1 - 0 + (i : Int) < 64; omega), lread_sec (R := ⟨0, 64, 0, 0⟩) (by decide) (by decide) (by rw [h.n64]; decide) h.gone, h.late]
      unfold baseL
      rw [List.getElem?_map, List.getElem?_range hi]
      rfl
    · rw [List.getElem?_eq_none (by unfold baseL; simpa using hi), List.getElem?_eq_none (by rw [hl1]; exact hi)]
  have hmix := ht3.mix (R := ⟨0, 64, 0, 0⟩) (by decide) (by decide) (by show (0 : Int) ≤ T1; omega) (by show T1 ≤ 0 + 64; omega) (by rw [hn3]; decide) rfl (by show T1 + _ ≤ (0 : Int) + 64; omega)
  have hth := ht3.there (R := ⟨0, 64, 0, 0⟩) (by decide) (by decide) (by show (0 : Int) ≤ T1; omega) (by rw [hn3]; decide) rfl (by show T1 + _ ≤ (0 : Int) + 64; omega)
  have helder : Elder 2 T1 (baseL ⟨0, 64, 0, 0⟩ T1 D1.laid (64 - (T1 - 0)).toNat) := by
    intro i y hy hr _
    have hlt : i < (64 - (T1 - 0)).toNat := by
      have := (List.getElem?_eq_some_iff.1 hy).1
      unfold baseL at this
      simpa using this
    have e := baseL_get hy
    rw [e] at hr ⊢
    exact h.elder _ (by omega) (by omega) hr
  have hpl : (piecesAt 2 T1 (bs.take m)).length ≤ (piecesAt 2 T1 bs).length := by
    have := congrArg List.length (piecesAt_append 2 (bs.take m) (bs.drop m) T1)
    rw [List.take_append_drop, List.length_append] at this
    omega
  obtain ⟨k, last', t', k1, k2, k3, k4, _⟩ := find (ls := ringL (D2.crash hold) ⟨0, 64, 0, 0⟩) (H := 0) (ep := 3) (e := 2) (by decide) bs T1 last _ m (by omega) hc hmix helder (by omega) (.inr (by
    show gatE (baseL ⟨0, 64, 0, 0⟩ T1 D1.laid (64 - (T1 - 0)).toNat) T1 ≠ 0
    rw [hbl]
    exact h.ends)) hm (fun i hi => hth i (by omega) (by omega))
  have hrun3 : Run (ringL (D2.crash hold) ⟨0, 64, 0, 0⟩) 0 3 0 0 old last T1 := by
    refine Run.congr (by decide) (T := T1) (fun i hi => ?_) (Int.le_refl _) (by show (0 : Int) ≤ 0 + _; omega) hrun (Int.le_refl _)
    have hi64 : i < (Rg.mk 0 64 0 0).S.toNat := by show i < 64; omega
    rw [ringL_get _ _ i hi64, ringL_get _ _ i hi64]
    have e1 := lread_sec (D := D1) (R := ⟨0, 64, 0, 0⟩) (by decide) (by decide) (by rw [h.n64]; decide) h.gone ((0 : Int) + i)
    have e2 := lread_sec (D := D2.crash hold) (R := ⟨0, 64, 0, 0⟩) (by decide) (by decide) (by rw [hn3]; decide) rfl ((0 : Int) + i)
    have hr := ht3.rest (sec ⟨0, 64, 0, 0⟩ ((0 : Int) + i)) (fun j hj => (sec_ne (R := ⟨0, 64, 0, 0⟩) (by decide) (by decide) (show (0 : Int) + i < T1 + j by omega) (by show T1 + (j : Int) - (0 + (i : Int)) < 64; omega)).symm)
    rw [hr.1, hr.2] at e2
    rw [h.late] at e1
    show some (D1.read (0 + ((0 : Int) + i) % 64)) = some ((D2.crash hold).read (0 + ((0 : Int) + i) % 64))
    exact congrArg some (e1.trans e2.symm)
  obtain ⟨e1, _⟩ := hf.det ⟨last', hrun3.append k3, k4⟩
  exact ⟨k, k1, k2, e1⟩

end Go.Proofs.Ytdjfahnnfhediaa
