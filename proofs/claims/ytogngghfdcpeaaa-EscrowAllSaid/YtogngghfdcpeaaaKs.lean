/-
  Tables of one counter, what is added to it and passed to none: plain facts. No program in it.
-/
import Derived.Test.YtogngghfdcpeaaaKr
namespace Go.Proofs.Ytogngghfdcpeaaa
set_option maxRecDepth 100000
set_option linter.unusedVariables false
set_option linter.unusedSimpArgs false

/-- a sum over pends -/
def sF (f : Pd → Int) : List Pd → Int
  | [] => 0
  | p :: P => f p + sF f P
theorem sF_cons (f : Pd → Int) (p : Pd) (P : List Pd) : sF f (p :: P) = f p + sF f P := rfl
theorem sF_nil (f : Pd → Int) : sF f [] = 0 := rfl
theorem sF_app (f : Pd → Int) (P Q : List Pd) : sF f (P ++ Q) = sF f P + sF f Q := by
  induction P with
  | nil => simp [sF]
  | cons p P ih => rw [List.cons_append, sF_cons, sF_cons, ih]; omega
theorem ofL_cons (p : Pd) (P : List Pd) (x : Int) : ofL (p :: P) x = if p.x = x then p :: ofL P x else ofL P x := by
  unfold ofL
  rw [List.filter_cons]
  by_cases h : p.x = x <;> simp [h]
theorem freeL_cons (p : Pd) (P : List Pd) (x : Int) : freeL (p :: P) [x] = if p.x = x then freeL P [x] else p :: freeL P [x] := by
  unfold freeL
  rw [List.filter_cons]
  by_cases h : p.x = x
  · simp [h]
  · have h2 : ¬ x = p.x := fun e => h e.symm
    simp [h, h2]
theorem sF_of (f : Pd → Int) (P : List Pd) (x : Int) : sF f (ofL P x) + sF f (freeL P [x]) = sF f P := by
  induction P with
  | nil => rfl
  | cons p P ih =>
    rw [ofL_cons, freeL_cons]
    by_cases h : p.x = x
    · rw [if_pos h, if_pos h, sF_cons, sF_cons]; omega
    · rw [if_neg h, if_neg h, sF_cons, sF_cons]; omega
theorem sF_pos {P : List Pd} (h : ∀ p ∈ P, 0 ≤ p.u) : 0 ≤ sF Pd.u P := by
  induction P with
  | nil => exact Int.le_refl _
  | cons p P ih =>
    have h1 := h p (by simp)
    have h2 := ih (fun q hq => h q (by simp [hq]))
    rw [sF_cons]; omega
theorem sF_neg {P : List Pd} (h : ∀ p ∈ P, p.d ≤ 0) : sF Pd.d P ≤ 0 := by
  induction P with
  | nil => exact Int.le_refl _
  | cons p P ih =>
    have h1 := h p (by simp)
    have h2 := ih (fun q hq => h q (by simp [hq]))
    rw [sF_cons]; omega
theorem sums_one {P : List Pd} (h : ∀ p ∈ P, p.c = 0) : sumsOf P 0 = amt P := by
  rw [← amt_on]
  unfold onL
  rw [List.filter_eq_self.2 (fun p hp => by simpa using h p hp)]
theorem amt_cons (p : Pd) (P : List Pd) : amt (p :: P) = p.u :: p.d :: amt P := by unfold amt; rw [List.flatMap_cons]; rfl
theorem hi_amt {P : List Pd} (h : ∀ p ∈ P, 0 ≤ p.u ∧ p.d ≤ 0) : sumI (highs (amt P)) = sF Pd.u P ∧ sumI (lows (amt P)) = sF Pd.d P := by
  induction P with
  | nil => exact ⟨rfl, rfl⟩
  | cons p P ih =>
    obtain ⟨h1, h2⟩ := h p (by simp)
    obtain ⟨i1, i2⟩ := ih (fun q hq => h q (by simp [hq]))
    rw [amt_cons, sF_cons, sF_cons]
    have hu : ¬ p.u < 0 := by omega
    unfold highs lows at *
    rw [List.filter_cons, if_pos (by simpa using h1), sumI_cons, List.filter_cons (x := p.u), if_neg (by simpa using h1), List.filter_cons, List.filter_cons]
    by_cases hd : p.d < 0
    · rw [if_neg (by simpa using hd), if_pos (by simpa using hd), sumI_cons, i1, i2]; exact ⟨rfl, rfl⟩
    · rw [if_pos (by simpa using hd), if_neg (by simpa using hd), sumI_cons, i1, i2]; omega
theorem ends_one {P : List Pd} (h : ∀ p ∈ P, 0 ≤ p.u ∧ p.d ≤ 0) (v b : Int) : hiI v (amt P ++ [b]) = v + sF Pd.u P + max b 0 ∧ loI v (amt P ++ [b]) = v + sF Pd.d P + min b 0 := by
  obtain ⟨h1, h2⟩ := hi_amt h
  unfold hiI loI
  rw [highs_append, lows_append, sumI_append, sumI_append, h1, h2]
  by_cases hb : b < 0
  · have e1 : highs [b] = [] := by simp [highs, hb]
    have e2 : lows [b] = [b] := by simp [lows, hb]
    rw [e1, e2, sumI_cons, sumI_nil]; omega
  · have e1 : highs [b] = [b] := by simp [highs]; omega
    have e2 : lows [b] = [] := by simp [lows]; omega
    rw [e1, e2, sumI_cons, sumI_nil]; omega

/-- a table of one counter -/
structure One (t : Tb) (lo hi v : Int) : Prop where
  C : t.C = [⟨lo, hi, v⟩]
  may : ∀ p ∈ t.P, PdMay 1 p
  up : Rise t.P
  n : t.P.length ≤ 100
  h : v + sF Pd.u t.P ≤ hi
  l : lo ≤ v + sF Pd.d t.P
  lo : -1000 ≤ lo
  hi : hi ≤ 1000
section
variable {t : Tb} {lo hi v : Int}
theorem One.ud (h : One t lo hi v) : ∀ p ∈ t.P, 0 ≤ p.u ∧ p.d ≤ 0 := fun p hp => ⟨(h.may p hp).u, (h.may p hp).d⟩
theorem One.c0 (h : One t lo hi v) : ∀ p ∈ t.P, p.c = 0 := fun p hp => by have h1 := (h.may p hp).c0; have h2 := (h.may p hp).c1; omega
theorem One.nn (h : One t lo hi v) : 0 ≤ sF Pd.u t.P ∧ sF Pd.d t.P ≤ 0 := ⟨sF_pos fun p hp => (h.ud p hp).1, sF_neg fun p hp => (h.ud p hp).2⟩
theorem One.fits (h : One t lo hi v) (b : Int) (hb : -1000 ≤ b ∧ b ≤ 1000) : t.fits 0 b = true ↔ (v + sF Pd.u t.P + max b 0 ≤ hi ∧ lo ≤ v + sF Pd.d t.P + min b 0) := by
  obtain ⟨n1, n2⟩ := h.nn
  have g1 := h.h
  have g2 := h.l
  have g3 := h.lo
  have g4 := h.hi
  have hs : sumsOf t.P ((0 : Nat) : Int) = amt t.P := sums_one h.c0
  have hln : ¬ 4096 < (amt t.P ++ [b]).length := by have := h.n; rw [List.length_append, amt_len]; simp; omega
  have hre : ∀ z, -5000 ≤ z → z ≤ 5000 → reachE z (amt t.P ++ [b]) = 0 := fun z z1 z2 => by
    obtain ⟨e1, e2⟩ := ends_one h.ud z b
    rw [reachE_few (by omega), e1, e2]
    have o1 : tlE (z + sF Pd.d t.P + min b 0) = 0 := by unfold tlE; rw [if_pos (by unfold okI; omega)]
    have o2 : tlE (z + sF Pd.u t.P + max b 0) = 0 := by unfold tlE; rw [if_pos (by unfold okI; omega)]
    rw [o1, o2]; rfl
  unfold Tb.fits
  rw [hs, h.C]
  show (decide (reachE 0 (amt t.P ++ [b]) = 0) && fitsB lo hi v (amt t.P ++ [b])) = true ↔ _
  rw [hre 0 (by omega) (by omega), fits_eq, hre v (by omega) (by omega), (reachLH_yes (hre v (by omega) (by omega))).1, (reachLH_yes (hre v (by omega) (by omega))).2]
  obtain ⟨e1, e2⟩ := ends_one h.ud v b
  rw [e1, e2]
  unfold holdsB
  simp only [decide_true, Bool.true_and, Bool.and_eq_true, decide_eq_true_eq]
  omega
theorem One.san (h : One t lo hi v) : San t := by
  have e : t.C.length = 1 := by rw [h.C]; rfl
  refine ⟨by omega, by rw [e]; exact h.may, h.up, fun k hk => ?_⟩
  obtain rfl : k = 0 := by omega
  have h1 := h.h
  have h2 := h.l
  exact (h.fits 0 (by omega)).2 ⟨by omega, by omega⟩
/-- what is added at the end -/
def bit (x z : Int) : List Pd := if z = 0 then [] else [⟨0, x, max z 0, min z 0⟩]
theorem bit_sum (x z : Int) : sF Pd.u (bit x z) = max z 0 ∧ sF Pd.d (bit x z) = min z 0 := by
  unfold bit
  by_cases h : z = 0
  · rw [if_pos h, h]; exact ⟨rfl, rfl⟩
  · rw [if_neg h, sF_cons, sF_cons, sF_nil, sF_nil]; simp only; omega
theorem bit_mem {x z : Int} {p : Pd} (h : p ∈ bit x z) : z ≠ 0 ∧ p = ⟨0, x, max z 0, min z 0⟩ := by
  unfold bit at h
  by_cases hz : z = 0
  · rw [if_pos hz] at h; cases h
  · rw [if_neg hz] at h; exact ⟨hz, by simpa using h⟩
theorem bit_len (x z : Int) : (bit x z).length ≤ 1 := by unfold bit; split <;> simp
theorem with_bit {P : List Pd} {x z : Int} (hc : ∀ p ∈ P, p.c = 0 ∧ p.x < x) : withL P ⟨0, x, max z 0, min z 0⟩ = P ++ bit x z := by
  unfold bit
  by_cases hz : z = 0
  · subst hz
    rw [if_pos rfl, List.append_nil]
    unfold withL
    rw [if_pos ⟨rfl, rfl⟩]
  · rw [if_neg hz]
    have := with_rise (L1 := P) (L2 := []) (p := ⟨0, x, max z 0, min z 0⟩) (show ¬ (max z 0 = 0 ∧ min z 0 = 0) by omega) (fun y hy => .inr ⟨(hc y hy).1, (hc y hy).2⟩) (by simp) List.Pairwise.nil
    rw [List.append_nil] at this
    exact this
theorem may_is {T : Tr} {N : Nat} {x : Int} (h : One t lo hi v) (hN : T.l.length = N) (hx : 0 ≤ x ∧ x < (N : Int) ∧ x ≤ 63) (hs : (T.tx x.toNat).s = 1) : t.may T x 0 = 0 := by
  have e : t.C.length = 1 := by rw [h.C]; rfl
  unfold Tb.may
  rw [if_neg, if_neg (by rw [hs]; decide)]
  rw [h.san.sane, e, hN]
  simp
  omega
theorem One.addE (h : One t lo hi v) {T : Tr} {N : Nat} {x : Int} (hN : T.l.length = N) (hx : 0 ≤ x ∧ x < (N : Int) ∧ x ≤ 63) (hs : (T.tx x.toNat).s = 1) (z : Int) : t.addE T x 0 z = if t.fits 0 z = true then 0 else 8 := by
  unfold Tb.addE
  rw [if_pos (may_is h hN hx hs)]; rfl
theorem One.addT (h : One t lo hi v) {T : Tr} {x z : Int} (hx : 0 ≤ x ∧ x ≤ 63) (hz : -1000 ≤ z ∧ z ≤ 1000) (hp : ∀ p ∈ t.P, p.x < x) (hn : t.P.length < 100) (he : t.addE T x 0 z = 0) (hf : t.fits 0 z = true) :
    t.addT T x 0 z = ⟨t.C, t.P ++ bit x z⟩ ∧ One ⟨t.C, t.P ++ bit x z⟩ lo hi v := by
  obtain ⟨f1, f2⟩ := (h.fits z hz).1 hf
  obtain ⟨b1, b2⟩ := bit_sum x z
  refine ⟨?_, h.C, ?_, ?_, ?_, ?_, ?_, h.lo, h.hi⟩
  · unfold Tb.addT
    rw [if_pos he, with_bit fun p hq => ⟨h.c0 p hq, hp p hq⟩]
  · intro p hq
    rcases List.mem_append.1 hq with hq | hq
    · exact h.may p hq
    · obtain ⟨hz0, rfl⟩ := bit_mem hq
      exact ⟨Int.le_refl _, show (0 : Int) < ((1 : Nat) : Int) by decide, hx.1, hx.2, by simp only; omega, by simp only; omega, by simp only; omega⟩
  · show Rise (t.P ++ bit x z)
    unfold Rise
    rw [List.pairwise_append]
    refine ⟨h.up, ?_, ?_⟩
    · unfold bit; split
      · exact List.Pairwise.nil
      · simp
    · intro p hq q hb
      obtain ⟨_, rfl⟩ := bit_mem hb
      exact .inr ⟨h.c0 p hq, hp p hq⟩
  · have := bit_len x z
    simp only [List.length_append]
    omega
  · simp only [sF_app, b1]; omega
  · simp only [sF_app, b2]; omega

theorem pass_out (lo hi : Int) (P : List Pd) : ∀ (Q : List Pd) (v : Int), (∀ p ∈ Q, p.c = 0 ∧ 0 ≤ p.u ∧ p.d ≤ 0) → v + sF Pd.u Q ≤ 1000 → -1000 ≤ v + sF Pd.d Q →
    passAll (-1) ⟨[⟨lo, hi, v⟩], P⟩ Q = ⟨[⟨lo, hi, v + sF Pd.u Q + sF Pd.d Q⟩], P⟩
  | [], v, _, _, _ => by simp [passAll, sF]
  | p :: Q, v, h, h1, h2 => by
    obtain ⟨q1, q2, q3⟩ := h p (by simp)
    have r1 := sF_pos (P := Q) fun y hy => (h y (by simp [hy])).2.1
    have r2 := sF_neg (P := Q) fun y hy => (h y (by simp [hy])).2.2
    rw [sF_cons] at h1 h2
    have e : passStep (-1) ⟨[⟨lo, hi, v⟩], P⟩ p = ⟨[⟨lo, hi, v + p.u + p.d⟩], P⟩ := by
      unfold passStep
      rw [if_pos (by decide), q1]
      have e1 : w64 (v + p.u) = v + p.u := w64_id (by unfold okI; omega)
      have e2 : w64 (v + p.u + p.d) = v + p.u + p.d := w64_id (by unfold okI; omega)
      show (⟨[⟨lo, hi, w64 (w64 (v + p.u) + p.d)⟩], P⟩ : Tb) = _
      rw [e1, e2]
    have ih := pass_out lo hi P Q (v + p.u + p.d) (fun y hy => h y (by simp [hy])) (by omega) (by omega)
    unfold passAll at ih ⊢
    rw [List.foldl_cons, e, ih, sF_cons, sF_cons]
    have : v + p.u + p.d + sF Pd.u Q + sF Pd.d Q = v + (p.u + sF Pd.u Q) + (p.d + sF Pd.d Q) := by omega
    rw [this]
/-- all of it counts -/
theorem One.pass (h : One t lo hi v) (x : Int) : t.pass x (-1) = ⟨[⟨lo, hi, v + sF Pd.u (ofL t.P x) + sF Pd.d (ofL t.P x)⟩], freeL t.P [x]⟩ ∧ One ⟨[⟨lo, hi, v + sF Pd.u (ofL t.P x) + sF Pd.d (ofL t.P x)⟩], freeL t.P [x]⟩ lo hi (v + sF Pd.u (ofL t.P x) + sF Pd.d (ofL t.P x)) := by
  have hu := sF_of Pd.u t.P x
  have hd := sF_of Pd.d t.P x
  have q1 := sF_pos (P := ofL t.P x) fun p hp => (h.ud p (ofL_mem hp)).1
  have q2 := sF_neg (P := ofL t.P x) fun p hp => (h.ud p (ofL_mem hp)).2
  have q3 := sF_pos (P := freeL t.P [x]) fun p hp => (h.ud p (freeL_mem hp)).1
  have q4 := sF_neg (P := freeL t.P [x]) fun p hp => (h.ud p (freeL_mem hp)).2
  have g1 := h.h
  have g2 := h.l
  have g3 := h.lo
  have g4 := h.hi
  constructor
  · rw [Tb.pass_eq, h.C]
    exact pass_out lo hi _ _ v (fun p hp => ⟨h.c0 p (ofL_mem hp), h.ud p (ofL_mem hp)⟩) (by omega) (by omega)
  · exact ⟨rfl, fun p hp => h.may p (freeL_mem hp), h.up.sub List.filter_sublist, Nat.le_trans (freeL_len _ _) h.n, by simp only; omega, by simp only; omega, g3, g4⟩
end
theorem freeL_x {P : List Pd} {x : Int} {p : Pd} (h : p ∈ freeL P [x]) : p.x ≠ x := by
  have := (List.mem_filter.1 h).2
  simp at this
  exact fun e => this e.symm
theorem freeL_app (P Q : List Pd) (l : List Int) : freeL (P ++ Q) l = freeL P l ++ freeL Q l := List.filter_append ..
theorem ofL_app (P Q : List Pd) (x : Int) : ofL (P ++ Q) x = ofL P x ++ ofL Q x := List.filter_append ..
theorem of_bit (x z y : Int) : ofL (bit x z) y = if x = y then bit x z else [] := by
  unfold bit
  by_cases hz : z = 0
  · rw [if_pos hz]; simp [ofL]
  · rw [if_neg hz, ofL_cons]; rfl
theorem free_bit (x z y : Int) : freeL (bit x z) [y] = if x = y then [] else bit x z := by
  unfold bit
  by_cases hz : z = 0
  · rw [if_pos hz]; simp [freeL]
  · rw [if_neg hz, freeL_cons]; rfl
theorem of_none {P : List Pd} {x y : Int} (h : ∀ p ∈ P, p.x = y) (hn : y ≠ x) : ofL P x = [] := by
  unfold ofL
  rw [List.filter_eq_nil_iff]
  intro p hp
  simp [h p hp, hn]
theorem free_all {P : List Pd} {y : Int} (h : ∀ p ∈ P, p.x = y) : freeL P [y] = [] := by
  unfold freeL
  rw [List.filter_eq_nil_iff]
  intro p hp
  simp [h p hp]

/-- of three the one in another one passes to that one -/
theorem undo_pass (C : List Ct) (A B c : Int) (hB : 0 ≤ B) : ∃ L, Tb.pass ⟨C, bit 0 A ++ bit 1 (-B) ++ bit 2 c⟩ 1 0 = ⟨C, L ++ bit 2 c⟩ ∧ (∀ p ∈ L, p.x = 0) ∧ L.length ≤ 1 := by
  have e1 : ofL (bit 0 A ++ bit 1 (-B) ++ bit 2 c) 1 = bit 1 (-B) := by
    rw [ofL_app, ofL_app, of_bit, of_bit, of_bit]; simp
  have e2 : freeL (bit 0 A ++ bit 1 (-B) ++ bit 2 c) [1] = bit 0 A ++ bit 2 c := by
    rw [freeL_app, freeL_app, free_bit, free_bit, free_bit]; simp
  rw [Tb.pass_eq]
  show ∃ L, passAll 0 ⟨C, freeL (bit 0 A ++ bit 1 (-B) ++ bit 2 c) [1]⟩ (ofL (bit 0 A ++ bit 1 (-B) ++ bit 2 c) 1) = _ ∧ _
  rw [e1, e2]
  by_cases hb : B = 0
  · subst hb
    exact ⟨bit 0 A, rfl, fun p hp => by rw [(bit_mem hp).2], bit_len 0 A⟩
  · have e3 : bit 1 (-B) = [⟨0, 1, max (-B) 0, min (-B) 0⟩] := by unfold bit; rw [if_neg (by omega)]
    rw [e3]
    have e4 : passAll 0 ⟨C, bit 0 A ++ bit 2 c⟩ [⟨0, 1, max (-B) 0, min (-B) 0⟩] = ⟨C, withL (bit 0 A ++ bit 2 c) ⟨0, 0, max (-B) 0, min (-B) 0⟩⟩ := rfl
    rw [e4]
    have hw := with_rise (L1 := []) (L2 := bit 0 A ++ bit 2 c) (p := ⟨0, 0, max (-B) 0, min (-B) 0⟩) (show ¬ (max (-B) 0 = 0 ∧ min (-B) 0 = 0) by omega) (by simp) (fun y hy => by
      rcases List.mem_append.1 hy with h | h
      · rw [(bit_mem h).2]; unfold Pd.L; simp
      · rw [(bit_mem h).2]; unfold Pd.L; simp) (by
      unfold Rise
      rw [List.pairwise_append]
      refine ⟨by unfold bit; split <;> simp, by unfold bit; split <;> simp, ?_⟩
      intro p hp q hq
      rw [(bit_mem hp).2, (bit_mem hq).2]
      exact .inr ⟨rfl, show (0 : Int) < 2 by decide⟩)
    rw [List.nil_append, List.nil_append] at hw
    rw [hw]
    by_cases ha : A = 0
    · have e5 : bit 0 A = [] := by unfold bit; rw [if_pos ha]
      rw [e5, List.nil_append]
      refine ⟨[⟨0, 0, max (-B) 0, min (-B) 0⟩], ?_, by simp, Nat.le_refl _⟩
      by_cases hc : c = 0
      · have e6 : bit 2 c = [] := by unfold bit; rw [if_pos hc]
        rw [e6]; rfl
      · have e6 : bit 2 c = [⟨0, 2, max c 0, min c 0⟩] := by unfold bit; rw [if_neg hc]
        rw [e6, putP_new (by simp)]; rfl
    · have e5 : bit 0 A = [⟨0, 0, max A 0, min A 0⟩] := by unfold bit; rw [if_neg ha]
      rw [e5, List.cons_append, List.nil_append]
      exact ⟨[⟨0, 0, w64 (max (-B) 0 + max A 0), w64 (min (-B) 0 + min A 0)⟩], by rw [show putP (Pd.mk 0 0 (max (-B) 0) (min (-B) 0)) (Pd.mk 0 0 (max A 0) (min A 0) :: bit 2 c) = Pd.mk 0 0 (w64 (max (-B) 0 + max A 0)) (w64 (min (-B) 0 + min A 0)) :: bit 2 c from by unfold putP; simp]; rfl, by simp, Nat.le_refl _⟩
end Go.Proofs.Ytogngghfdcpeaaa
