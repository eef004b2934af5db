/-
  What stands in a device's sectors behind writes, flushes and a crash: each sector of the log's is as it was, or the one that was laid there. No program.
-/
import Derived.Test.YtdjfahnnfhediaaGreatFind
import Derived.Test.YtdjfahnnfhediaaGreatDevB
namespace Go.Proofs.YtdjfahnnfhediaaGreat
set_option maxRecDepth 100000
open Go.RowKit Crc Wm

/-- the sector of a place -/
def sec (R : Rg) (a : Int) : Nat := (R.F + a % R.S).toNat
theorem sec_int {R : Rg} (h0 : 0 ≤ R.F) (h1 : 1 ≤ R.S) (a : Int) : ((sec R a : Nat) : Int) = R.F + a % R.S := by
  have := Int.emod_nonneg a (b := R.S) (by omega)
  unfold sec
  omega
theorem sec_ne {R : Rg} (h0 : 0 ≤ R.F) (h1 : 1 ≤ R.S) {a b : Int} (hab : a < b) (hS : b - a < R.S) : sec R a ≠ sec R b := by
  intro h
  have e : R.F + a % R.S = R.F + b % R.S := by rw [← sec_int h0 h1, ← sec_int h0 h1, h]
  have e2 : a % R.S = b % R.S := by omega
  have : (b - a) % R.S = 0 := by rw [Int.sub_emod, e2, Int.sub_self, Int.zero_emod]
  rw [Int.emod_eq_of_lt (by omega) hS] at this
  omega

/-- what was laid at the places from T0 on, what of it is there (the first g), and what is safe (the first f) -/
structure Tr (R : Rg) (T0 : Int) (c0 : Nat → List UInt8) (D : Dv) (ps : List (List UInt8)) (g f : Nat) : Prop where
  one : ∀ (j : Nat) (x : List UInt8), ps[j]? = some x → (D.laid (sec R (T0 + j)) = c0 (sec R (T0 + j)) ∨ D.laid (sec R (T0 + j)) = x) ∧ ∀ y, D.late (sec R (T0 + j)) = some y → y = x
  two : ∀ (j : Nat) (x : List UInt8), ps[j]? = some x → j < g → (D.late (sec R (T0 + j))).getD (D.laid (sec R (T0 + j))) = x
  three : ∀ (j : Nat) (x : List UInt8), ps[j]? = some x → j < f → D.laid (sec R (T0 + j)) = x
  rest : ∀ s, (∀ j : Nat, j < ps.length → sec R (T0 + j) ≠ s) → D.late s = none ∧ D.laid s = c0 s

section
variable {R : Rg} {T0 : Int} {c0 : Nat → List UInt8} {D : Dv} {ps : List (List UInt8)} {g f : Nat}
theorem Tr.start (hl : ∀ s, D.late s = none) : Tr R T0 D.laid D [] 0 0 := ⟨fun j x h => by simp at h, fun j x h => by simp at h, fun j x h => by simp at h, fun s _ => ⟨hl s, rfl⟩⟩
theorem Tr.start' (hl : ∀ s, D.late s = none) (hc : ∀ s, D.laid s = c0 s) : Tr R T0 c0 D [] 0 0 := ⟨fun j x h => by simp at h, fun j x h => by simp at h, fun j x h => by simp at h, fun s _ => ⟨hl s, hc s⟩⟩
theorem Tr.same (h : Tr R T0 c0 D ps g f) {D' : Dv} (h1 : D'.laid = D.laid) (h2 : D'.late = D.late) : Tr R T0 c0 D' ps g f := by
  obtain ⟨a, b, c, d⟩ := h
  exact ⟨by rw [h1, h2]; exact a, by rw [h1, h2]; exact b, by rw [h1]; exact c, by rw [h1, h2]; exact d⟩
theorem Tr.less (h : Tr R T0 c0 D ps g f) {g' f' : Nat} (hg : g' ≤ g) (hf : f' ≤ f) : Tr R T0 c0 D ps g' f' := ⟨h.one, fun j x hx hj => h.two j x hx (by omega), fun j x hx hj => h.three j x hx (by omega), h.rest⟩

theorem pad_64 {x : List UInt8} (h : x.length = 64) : Dv.pad x = x := by unfold Dv.pad; rw [h]; simp

/-- what a sector's write leaves -/
theorem write_cases (D : Dv) (s : Nat) (x : List UInt8) (hx : x.length = 64) (hs : s < D.n) : ((D.write (s : Int) x).laid = D.laid ∧ (D.write (s : Int) x).late = D.late ∧ (D.write (s : Int) x).gone = true) ∨ ((D.write (s : Int) x).laid = D.laid ∧ ((D.write (s : Int) x).late = fun j => if j = s then some x else D.late j) ∧ (D.write (s : Int) x).gone = false) := by
  unfold Dv.write
  by_cases hg : D.gone = true
  · rw [if_pos hg]
    exact .inl ⟨rfl, rfl, hg⟩
  · have hh : D.has (s : Int) = true := Dv.has_of hs
    rw [if_neg hg, hh, decide_eq_true (show x.length ≤ 64 by omega)]
    by_cases hl : D.left = 0
    · simp only [Bool.and_self, if_true, if_pos hl]
      exact .inl ⟨rfl, rfl, rfl⟩
    · simp only [Bool.and_self, if_true, if_neg hl]
      refine .inr ⟨rfl, ?_, Bool.eq_false_iff.2 hg⟩
      rw [pad_64 hx]
      rfl

theorem Tr.write (h : Tr R T0 c0 D ps g f) (h0 : 0 ≤ R.F) (h1 : 1 ≤ R.S) (hS : (ps.length : Int) < R.S) (hg : g ≤ ps.length) (hfg : f ≤ ps.length) {x : List UInt8} (hx : x.length = 64) (hn : R.F + R.S ≤ D.n) :
    Tr R T0 c0 (D.write (R.F + (T0 + ps.length) % R.S) x) (ps ++ [x]) (if (D.write (R.F + (T0 + ps.length) % R.S) x).gone = true then g else if g = ps.length then ps.length + 1 else g) f := by
  have hsn : sec R (T0 + ps.length) < D.n := by
    have := sec_int h0 h1 (T0 + ps.length)
    have := Int.emod_lt_of_pos (T0 + (ps.length : Int)) (b := R.S) (by omega)
    omega
  have hne : ∀ j : Nat, j < ps.length → sec R (T0 + j) ≠ sec R (T0 + ps.length) := fun j hj => sec_ne h0 h1 (by omega) (by omega)
  have hr := h.rest (sec R (T0 + ps.length)) hne
  have hlast : ∀ (j : Nat) y, (ps ++ [x])[j]? = some y → (j < ps.length ∧ ps[j]? = some y) ∨ (j = ps.length ∧ y = x) := by
    intro j y hy
    rcases Nat.lt_or_ge j ps.length with hj | hj
    · rw [List.getElem?_append_left hj] at hy
      exact .inl ⟨hj, hy⟩
    · rw [List.getElem?_append_right hj] at hy
      have : j - ps.length = 0 := by
        have := (List.getElem?_eq_some_iff.1 hy).1
        simp only [List.length_singleton] at this
        omega
      rw [this] at hy
      simp only [List.getElem?_cons_zero, Option.some.injEq] at hy
      exact .inr ⟨by omega, hy.symm⟩
  rw [← sec_int h0 h1]
  generalize hs : sec R (T0 + (ps.length : Int)) = s at *
  rcases write_cases D s x hx hsn with ⟨e1, e2, e3⟩ | ⟨e1, e2, e3⟩
  · rw [e3, if_pos rfl]
    refine ⟨fun j y hy => ?_, fun j y hy hj => ?_, fun j y hy hj => ?_, fun t ht => ?_⟩
    · rw [e1, e2]
      rcases hlast j y hy with ⟨_, k⟩ | ⟨k, k2⟩
      · exact h.one j y k
      · subst k
        rw [hs]
        exact ⟨.inl hr.2, fun z hz => by rw [hr.1] at hz; cases hz⟩
    · rw [e1, e2]
      rcases hlast j y hy with ⟨_, k⟩ | ⟨k, k2⟩
      · exact h.two j y k hj
      · omega
    · rw [e1]
      rcases hlast j y hy with ⟨_, k⟩ | ⟨k, k2⟩
      · exact h.three j y k hj
      · omega
    · rw [e1, e2]
      exact h.rest t (fun j hj => ht j (by rw [List.length_append]; simp only [List.length_singleton]; omega))
  · rw [e3, if_neg Bool.false_ne_true]
    have hlate : ∀ j : Nat, j < ps.length → (D.write (s : Int) x).late (sec R (T0 + j)) = D.late (sec R (T0 + j)) := fun j hj => by
      rw [e2]
      exact if_neg (hne j hj)
    have hlate2 : (D.write (s : Int) x).late s = some x := by rw [e2]; exact if_pos rfl
    refine ⟨fun j y hy => ?_, fun j y hy hj => ?_, fun j y hy hj => ?_, fun t ht => ?_⟩
    · rcases hlast j y hy with ⟨hj, k⟩ | ⟨k, k2⟩
      · rw [e1, hlate j hj]
        exact h.one j y k
      · subst k
        rw [hs, e1, hlate2]
        exact ⟨.inl hr.2, fun z hz => by injection hz with hz; rw [← hz, k2]⟩
    · rcases hlast j y hy with ⟨hj2, k⟩ | ⟨k, k2⟩
      · rw [e1, hlate j hj2]
        refine h.two j y k ?_
        split at hj <;> omega
      · subst k
        rw [hs, hlate2, k2]
        rfl
    · rw [e1]
      rcases hlast j y hy with ⟨_, k⟩ | ⟨k, k2⟩
      · exact h.three j y k hj
      · omega
    · rw [e1]
      have hts : t ≠ s := fun e => ht ps.length (by rw [List.length_append]; simp) (by rw [hs, e])
      rw [e2]
      show (if t = s then some x else D.late t) = none ∧ _
      rw [if_neg hts]
      exact h.rest t (fun j hj => ht j (by rw [List.length_append]; simp only [List.length_singleton]; omega))

/-- of many sectors -/
theorem Tr.putTo (h0 : 0 ≤ R.F) (h1 : 1 ≤ R.S) {sl : List (List UInt8)} (h64 : ∀ x ∈ sl, x.length = 64) (h : Tr R T0 c0 D ps g f) (hg : g = ps.length) (hfg : f ≤ ps.length) (hn : R.F + R.S ≤ D.n) : ∀ n, n ≤ sl.length → ((ps.length + n : Nat) : Int) ≤ R.S →
    ∃ g', g' ≤ ps.length + n ∧ g ≤ g' ∧ ((Proofs.YtdjfahnnfhediaaGreat.putTo R (T0 + ps.length) sl D n).gone = false → g' = ps.length + n) ∧ Tr R T0 c0 (Proofs.YtdjfahnnfhediaaGreat.putTo R (T0 + ps.length) sl D n) (ps ++ sl.take n) g' f
  | 0, _, _ => ⟨g, by omega, Nat.le_refl _, fun _ => by omega, by simpa [Proofs.YtdjfahnnfhediaaGreat.putTo] using h⟩
  | n + 1, hl, hS => by
    obtain ⟨g', k1, k2, k3, k4⟩ := Tr.putTo h0 h1 h64 h hg hfg hn n (by omega) (by omega)
    have hx : sl[n]? = some (sl[n]'(by omega)) := List.getElem?_eq_getElem (by omega)
    have hget : sl.getD n [] = sl[n]'(by omega) := by rw [List.getD_eq_getElem?_getD, hx]; rfl
    have hlen : (ps ++ sl.take n).length = ps.length + n := by rw [List.length_append, List.length_take]; omega
    have hw := Tr.write k4 h0 h1 (by rw [hlen]; omega) (by omega) (by omega) (x := sl[n]'(by omega)) (h64 _ (List.getElem_mem _)) (by rw [Lg.putTo_n]; exact hn)
    rw [hlen, show T0 + ((ps.length + n : Nat) : Int) = T0 + (ps.length : Int) + (n : Int) by omega] at hw
    have e1 : Proofs.YtdjfahnnfhediaaGreat.putTo R (T0 + ps.length) sl D (n + 1) = (Proofs.YtdjfahnnfhediaaGreat.putTo R (T0 + ps.length) sl D n).write (R.F + (T0 + (ps.length : Int) + (n : Int)) % R.S) (sl[n]'(by omega)) := by
      rw [← hget]
      rfl
    rw [← e1] at hw
    have e2 : ps ++ sl.take (n + 1) = ps ++ sl.take n ++ [sl[n]'(by omega)] := by rw [List.take_add_one, hx, List.append_assoc]; rfl
    rw [e2]
    refine ⟨_, ?_, ?_, ?_, hw⟩
    · split
      · omega
      · split <;> omega
    · split
      · omega
      · split <;> omega
    · intro hgn
      rw [hgn, if_neg Bool.false_ne_true]
      have : (Proofs.YtdjfahnnfhediaaGreat.putTo R (T0 + ps.length) sl D n).gone = false := by
        cases hc : (Proofs.YtdjfahnnfhediaaGreat.putTo R (T0 + ps.length) sl D n).gone with
        | false => rfl
        | true => rw [e1, Lg.write_gone hc, hc] at hgn; cases hgn
      rw [if_pos (k3 this)]
      omega

theorem Tr.flush (h : Tr R T0 c0 D ps g f) (hf : D.flushE = 0) : Tr R T0 c0 D.flush ps g g := by
  have hfl : D.flush.laid = (fun i => (D.late i).getD (D.laid i)) ∧ D.flush.late = fun _ => none := by
    unfold Dv.flush Dv.flushE at *
    by_cases hg : D.gone = true
    · rw [if_pos hg] at hf; exact absurd hf (by decide)
    · rw [if_neg hg] at hf ⊢
      by_cases hl : D.left = 0
      · rw [if_pos hl] at hf; exact absurd hf (by decide)
      · rw [if_neg hl]
        exact ⟨rfl, rfl⟩
  obtain ⟨e1, e2⟩ := hfl
  refine ⟨fun j x hx => ?_, fun j x hx hj => ?_, fun j x hx hj => ?_, fun s hs => ?_⟩
  · rw [e1, e2]
    refine ⟨?_, fun y hy => by cases hy⟩
    obtain ⟨k1, k2⟩ := h.one j x hx
    cases hl : D.late (sec R (T0 + (j : Int))) with
    | none => simp only [hl, Option.getD_none]; exact k1
    | some y => simp only [hl, Option.getD_some]; exact .inr (k2 y hl)
  · rw [e1, e2]
    exact h.two j x hx hj
  · rw [e1]
    exact h.two j x hx hj
  · rw [e1, e2]
    obtain ⟨k1, k2⟩ := h.rest s hs
    exact ⟨rfl, by simp only [k1, Option.getD_none]; exact k2⟩
theorem Tr.flush_any (h : Tr R T0 c0 D ps g f) (hfg : f ≤ g) : Tr R T0 c0 D.flush ps g f := by
  by_cases hf : D.flushE = 0
  · exact (h.flush hf).less (Nat.le_refl _) hfg
  · have : D.flush.laid = D.laid ∧ D.flush.late = D.late := by
      unfold Dv.flush
      unfold Dv.flushE at hf
      by_cases hg : D.gone = true
      · rw [if_pos hg]; exact ⟨rfl, rfl⟩
      · rw [if_neg hg] at hf ⊢
        by_cases hl : D.left = 0
        · rw [if_pos hl]; exact ⟨rfl, rfl⟩
        · rw [if_neg hl] at hf; exact absurd rfl hf
    exact h.same this.1 this.2

/-- what a crash lays down is what was there, or what was cached -/
theorem lay_two {late : Nat → Option (List UInt8)} {laid : Nat → List UInt8} {keep : Nat → Bool} {l : List Nat} (i : Nat) : ∀ m, (∀ j, j < m → (late (l.getD j 0)).isSome = true) → Dv.lay late laid keep l m i = laid i ∨ ∃ s, late i = some s ∧ Dv.lay late laid keep l m i = s
  | 0, _ => .inl rfl
  | m + 1, h => by
    have ih := lay_two (late := late) (laid := laid) (keep := keep) (l := l) i m (fun j hj => h j (by omega))
    rw [Dv.lay_succ]
    by_cases hk : keep m = true
    · rw [if_pos hk]
      by_cases hi : i = l.getD m 0
      · rw [if_pos hi]
        have := h m (by omega)
        rw [← hi] at this
        obtain ⟨s, hs⟩ := Option.isSome_iff_exists.1 this
        exact .inr ⟨s, hs, by rw [hs]; rfl⟩
      · rw [if_neg hi]
        exact ih
    · rw [if_neg hk]
      exact ih
theorem crash_two (D : Dv) (keep : Nat → Bool) (i : Nat) : (D.crash keep).laid i = D.laid i ∨ ∃ s, D.late i = some s ∧ (D.crash keep).laid i = s :=
  lay_two i _ (fun _ hj => (Dv.keys_lt hj).2)
theorem lay_none {late : Nat → Option (List UInt8)} {laid : Nat → List UInt8} {l : List Nat} (i : Nat) : ∀ m, Dv.lay late laid (fun _ => false) l m i = laid i
  | 0 => rfl
  | m + 1 => by rw [Dv.lay_succ, if_neg Bool.false_ne_true]; exact lay_none i m

/-- behind a crash -/
theorem Tr.crash (h : Tr R T0 c0 D ps g f) (keep : Nat → Bool) : Tr R T0 c0 (D.crash keep) ps 0 f := by
  refine ⟨fun j x hx => ?_, fun j x hx hj => by omega, fun j x hx hj => ?_, fun s hs => ?_⟩
  · obtain ⟨k1, k2⟩ := h.one j x hx
    refine ⟨?_, fun y hy => by cases hy⟩
    rcases crash_two D keep (sec R (T0 + j)) with e | ⟨s, e1, e2⟩
    · rw [e]; exact k1
    · rw [e2]; exact .inr (k2 s e1)
  · have k3 := h.three j x hx hj
    rcases crash_two D keep (sec R (T0 + j)) with e | ⟨s, e1, e2⟩
    · rw [e]; exact k3
    · rw [e2]; exact (h.one j x hx).2 s e1
  · obtain ⟨k1, k2⟩ := h.rest s hs
    refine ⟨rfl, ?_⟩
    rcases crash_two D keep s with e | ⟨y, e1, _⟩
    · rw [e]; exact k2
    · rw [k1] at e1; cases e1

/-- the sectors that were there, by places -/
def baseL (R : Rg) (T0 : Int) (c0 : Nat → List UInt8) (n : Nat) : List (List UInt8) := (List.range n).map fun (i : Nat) => c0 (sec R (T0 + (i : Int)))
theorem baseL_get {R : Rg} {T0 : Int} {c0 : Nat → List UInt8} {n i : Nat} {y : List UInt8} (h : (baseL R T0 c0 n)[i]? = some y) : y = c0 (sec R (T0 + i)) := by
  unfold baseL at h
  rw [List.getElem?_map] at h
  cases hr : (List.range n)[i]? with
  | none => rw [hr] at h; cases h
  | some k =>
    rw [hr] at h
    have hk : k = i := by
      obtain ⟨h1, h2⟩ := List.getElem?_eq_some_iff.1 hr
      rw [List.getElem_range] at h2
      omega
    subst hk
    exact (Option.some.inj h).symm
theorem from_get {D : Dv} {R : Rg} {T0 : Int} (h : R.H ≤ T0) (i : Nat) (hi : T0 - R.H + i < R.S) : (from_ (ringL D R) R.H T0)[i]? = some (D.read (R.F + (T0 + i) % R.S)) := by
  unfold from_
  rw [List.getElem?_drop, ringL_get D R _ (by omega), show R.H + (((T0 - R.H).toNat + i : Nat) : Int) = T0 + i by omega]

/-- a device that is there: what is read in a ring's sectors -/
theorem lread_sec {D : Dv} {R : Rg} (h0 : 0 ≤ R.F) (h1 : 1 ≤ R.S) (hn : R.F + R.S ≤ D.n) (hg : D.gone = false) (a : Int) : D.read (R.F + a % R.S) = (D.late (sec R a)).getD (D.laid (sec R a)) := by
  have h2 := Int.emod_nonneg a (b := R.S) (by omega)
  have h3 := Int.emod_lt_of_pos a (b := R.S) (by omega)
  unfold Dv.read
  rw [hg, if_neg Bool.false_ne_true, if_pos (by unfold Dv.has; rw [decide_eq_true (by omega), decide_eq_true (by omega)]; rfl)]
  rfl

/-- the ring's sectors from T0 on: as they were, or as they were laid -/
theorem Tr.mix (h : Tr R T0 c0 D ps g f) (h0 : 0 ≤ R.F) (h1 : 1 ≤ R.S) (hH : R.H ≤ T0) (hT : T0 ≤ R.H + R.S) (hn : R.F + R.S ≤ D.n) (hg : D.gone = false) (hp : T0 + ps.length ≤ R.H + R.S) : Mix (from_ (ringL D R) R.H T0) (baseL R T0 c0 (R.S - (T0 - R.H)).toNat) ps := by
  have hlen : (from_ (ringL D R) R.H T0).length = (R.S - (T0 - R.H)).toNat := by
    unfold from_
    rw [List.length_drop, length_ringL]
    omega
  refine ⟨by rw [hlen]; unfold baseL; simp, by rw [hlen]; omega, fun i y hy => ?_⟩
  have hi : i < (R.S - (T0 - R.H)).toNat := by rw [← hlen]; exact (List.getElem?_eq_some_iff.1 hy).1
  rw [from_get hH i (by omega), lread_sec h0 h1 hn hg] at hy
  injection hy with hy
  have hb : (baseL R T0 c0 (R.S - (T0 - R.H)).toNat)[i]? = some (c0 (sec R (T0 + i))) := by
    unfold baseL
    rw [List.getElem?_map, List.getElem?_range hi]
    rfl
  rcases Nat.lt_or_ge i ps.length with hlt | hge
  · obtain ⟨k1, k2⟩ := h.one i _ (List.getElem?_eq_getElem hlt)
    rw [List.getElem?_eq_getElem hlt, hb]
    cases hl : D.late (sec R (T0 + (i : Int))) with
    | none =>
      rw [hl, Option.getD_none] at hy
      rcases k1 with k | k
      · exact .inl (by rw [← hy, k])
      · exact .inr (by rw [← hy, k])
    | some z =>
      rw [hl, Option.getD_some] at hy
      exact .inr (by rw [← hy, k2 z hl])
  · have hr := h.rest (sec R (T0 + i)) (fun j hj => sec_ne h0 h1 (by omega) (by omega))
    rw [hr.1, Option.getD_none, hr.2] at hy
    rw [hb, hy]
    exact .inl rfl
/-- those that are there -/
theorem Tr.there (h : Tr R T0 c0 D ps g f) (h0 : 0 ≤ R.F) (h1 : 1 ≤ R.S) (hH : R.H ≤ T0) (hn : R.F + R.S ≤ D.n) (hg : D.gone = false) (hp : T0 + ps.length ≤ R.H + R.S) : ∀ i, i < g → i < ps.length → (from_ (ringL D R) R.H T0)[i]? = ps[i]? := by
  intro i hi hl
  rw [from_get hH i (by omega), lread_sec h0 h1 hn hg, h.two i _ (List.getElem?_eq_getElem hl) hi, List.getElem?_eq_getElem hl]
theorem Tr.forced (h : Tr R T0 c0 D ps g f) (hl : ∀ s, D.late s = none) : Tr R T0 c0 D ps f f :=
  ⟨h.one, fun j x hx hj => by rw [hl]; exact h.three j x hx hj, h.three, h.rest⟩
end

theorem zeros_bad : readE Dv.zeros ≠ 0 := by
  intro h
  obtain ⟨_, _, _, _, hm⟩ := (readE_ok _).1 h
  have hc : (tell Dv.zeros).C = ((fieldN Dv.zeros 16 2 : Nat) : Int) := rfl
  have : fieldN Dv.zeros 16 2 = 0 := by decide
  have h2 := hm.2.2.1
  rw [hc, this] at h2
  omega

end Go.Proofs.YtdjfahnnfhediaaGreat
