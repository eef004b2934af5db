/-
  PoolSafe's pool, by its words.
-/
import Derived.Test.YtnpgmiokimahiaaAw
namespace Go.Proofs.Ytnpgmiokimahiaa
set_option maxRecDepth 100000
set_option linter.unusedVariables false
open Go.RowKit Pl

/-- a number's four low bits -/
def lw (n : Int) : Nat := (n % 16).toNat
theorem lw_lt (n : Int) : lw n < 16 := by unfold lw; omega
theorem and_lw (n : Int) : bits .and .i64 n 15 = (lw n : Int) := by
  rw [and_mask n 15 4 (by decide) (by omega)]
  unfold lw
  omega

theorem pm_ext {a b : Pm} (h1 : ∀ i, a.F i = b.F i) (h2 : a.room = b.room) (h3 : a.safe = b.safe) (h4 : a.reads = b.reads) : a = b := by
  obtain ⟨F, r, s, n⟩ := a
  obtain ⟨G, r', s', n'⟩ := b
  have : F = G := funext h1
  simp only at h2 h3 h4
  subst this h2 h3 h4
  rfl

def x9 : List UInt8 := [9]
/-- so many sectors are put -/
def mS (f : Nat → Int) (j : Nat) : Pm := ⟨fun i => if i < j then some ⟨Dv.pad x9, true, (lw (f i) : Nat), 0⟩ else none, 8, 0, j⟩
theorem mS_zero (f : Nat → Int) : mS f 0 = new_ 8 := by
  unfold mS new_
  simp
theorem mS_step (f : Nat → Int) (j : Nat) (D : Dv) : ((mS f j).take D j).lay j x9 (lw (f j) : Nat) = mS f (j + 1) := by
  have e1 : ((mS f j).take D j).lay j x9 (lw (f j) : Nat) = ((mS f j).take D j).set j ⟨Dv.pad x9, true, (lw (f j) : Nat), 0⟩ := by
    unfold Pm.lay
    rw [take_same]
    rfl
  rw [e1]
  refine pm_ext (fun i => ?_) rfl rfl rfl
  by_cases h : i = j
  · subst h
    rw [set_same]
    exact (if_pos (by omega)).symm
  · rw [set_ne _ _ h, take_ne _ _ h]
    show (if i < j then _ else _) = if i < j + 1 then _ else _
    by_cases h2 : i < j
    · rw [if_pos h2, if_pos (by omega)]
    · rw [if_neg h2, if_neg (by omega)]
theorem mS_none (f : Nat → Int) (j : Nat) : (mS f j).F j = none := if_neg (by omega)
theorem mS_some (f : Nat → Int) {i j : Nat} (h : i < j) : (mS f j).F i = some ⟨Dv.pad x9, true, (lw (f i) : Nat), 0⟩ := if_pos h
theorem mS_not (f : Nat → Int) {i j : Nat} (h : j ≤ i) : (mS f j).F i = none := if_neg (by omega)
theorem filter_lt_len (n k : Nat) (h : k ≤ n) : ((List.range n).filter fun i => decide (i < k)).length = k := by
  induction n with
  | zero => simp; omega
  | succ n ih =>
    rw [List.range_succ, List.filter_append, List.length_append]
    rcases Nat.lt_or_ge n k with h1 | h1
    · obtain rfl : k = n + 1 := by omega
      have e : ((List.range n).filter fun i => decide (i < n + 1)) = List.range n := List.filter_eq_self.2 fun a ha => by have := List.mem_range.1 ha; simp; omega
      rw [e]
      simp
    · rw [ih h1]
      have e : ([n].filter fun i => decide (i < k)) = [] := by simp; omega
      rw [e]
      rfl
theorem mS_keys (f : Nat → Int) (n j : Nat) (h : j ≤ n) : (keys n (mS f j).F).length = j := by
  refine Eq.trans (congrArg List.length ?_) (filter_lt_len n j h)
  unfold keys
  apply List.filter_congr
  intro i _
  by_cases h : i < j
  · rw [mS_some f h]; exact (decide_eq_true h).symm
  · rw [mS_not f (by omega)]; exact (decide_eq_false h).symm

/-- which stay dirty -/
def late (f : Nat → Int) (len s : Nat) (i : Nat) : Bool := decide (i < len) && decide (s < lw (f i))
def lates (f : Nat → Int) (len s n : Nat) : List Nat := (List.range n).filter (late f len s)
theorem lates_step (f : Nat → Int) (len s i : Nat) : lates f len s (i + 1) = if late f len s i = true then lates f len s i ++ [i] else lates f len s i := by
  unfold lates
  rw [List.range_succ, List.filter_append]
  split
  · next h => rw [List.filter_cons_of_pos h]; rfl
  · next h => rw [List.filter_cons_of_neg (by simpa using h)]; simp
theorem lates_at (f : Nat → Int) (len s i : Nat) : ∀ n, i < n → late f len s i = true → (lates f len s n)[(lates f len s i).length]? = some i
  | 0, h, _ => by omega
  | n + 1, h, hl => by
    rw [lates_step]
    rcases Nat.lt_or_ge i n with h1 | h1
    · have ih := lates_at f len s i n h1 hl
      split
      · rw [List.getElem?_append_left (List.getElem?_eq_some_iff.1 ih).1]; exact ih
      · exact ih
    · obtain rfl : i = n := by omega
      rw [if_pos hl, List.getElem?_append_right (Nat.le_refl _), Nat.sub_self]
      rfl
theorem lates_all (f : Nat → Int) (len s n : Nat) (h : len ≤ n) : lates f len s n = lates f len s len := by
  induction n with
  | zero => rw [show len = 0 from by omega]
  | succ n ih =>
    rcases Nat.lt_or_ge n len with h1 | h1
    · rw [show len = n + 1 from by omega]
    · rw [lates_step, if_neg (by unfold late; simp; omega)]
      exact ih h1
theorem lates_len (f : Nat → Int) (len s n : Nat) : (lates f len s n).length ≤ n := by
  have := List.length_filter_le (late f len s) (List.range n)
  rw [List.length_range] at this
  exact this

structure SafeEnd (f : Nat → Int) (len s : Nat) (D' : Dv) (m' : Pm) : Prop where
  dirt : dirt 8 m'.F = lates f len s len
  sec : ∀ i, i < len → sec D' i = if late f len s i = true then Dv.zeros else Dv.pad x9
  spent : D'.spent + (lates f len s len).length = len
  n : D'.n = 8
  reads : m'.reads ≤ 8

theorem safe_end (f : Nat → Int) (len s : Nat) (hl : len ≤ 8) {D' : Dv} {m' : Pm} (h : Cleaned (Dv.fresh 8) ((mS f len).tell (s : Int)) 0 D' m') : SafeEnd f len s D' m' := by
  have hsafe : ((mS f len).tell (s : Int)).safe = (s : Int) := by show max (0 : Int) (s : Int) = _; omega
  have hF := h.F
  rw [hsafe] at hF
  have hF1 : ∀ i, i < len → ((mS f len).tell (s : Int)).F i = some ⟨Dv.pad x9, true, (lw (f i) : Nat), 0⟩ := fun i hi => mS_some f hi
  have hF0 : ∀ i, len ≤ i → ((mS f len).tell (s : Int)).F i = none := fun i hi => mS_not f hi
  refine ⟨?_, fun i hi => ?_, ?_, h.n, by rw [h.reads]; exact hl⟩
  · rw [← lates_all f len s 8 hl]
    unfold Pl.dirt lates
    apply List.filter_congr
    intro i _
    rw [hF]
    rcases Nat.lt_or_ge i len with h1 | h1
    · rw [hF1 i h1]
      by_cases h2 : (lw (f i) : Int) ≤ (s : Int)
      · rw [washed_yes ⟨rfl, h2⟩]
        have : late f len s i = false := by unfold late; simp; omega
        rw [this]; rfl
      · rw [washed_no (fun k => h2 k.2)]
        have : late f len s i = true := by unfold late; simp; omega
        rw [this]; rfl
    · rw [hF0 i h1]
      have : late f len s i = false := by unfold late; simp; omega
      rw [this]; rfl
  · rw [h.sec, hsafe, hF1 i hi]
    by_cases h2 : (lw (f i) : Int) ≤ (s : Int)
    · have : late f len s i = false := by unfold late; simp; omega
      rw [this, if_pos (by show (true && decide ((lw (f i) : Int) ≤ (s : Int))) = true; rw [decide_eq_true h2]; rfl), if_neg (by simp)]
      exact cur_some (hF1 i hi)
    · have : late f len s i = true := by unfold late; simp; omega
      rw [this, if_neg (by show ¬ ((true && decide ((lw (f i) : Int) ≤ (s : Int))) = true); rw [decide_eq_false h2]; simp), if_pos rfl]
      rfl
  · rw [h.spent, hsafe, ← lates_all f len s 8 hl]
    show 0 + _ + _ = _
    have key : ∀ n, ((List.range n).filter fun i => isClean (s : Int) (((mS f len).tell (s : Int)).F i)).length + (lates f len s n).length = ((List.range n).filter fun i => decide (i < len)).length := fun n => by
      induction n with
      | zero => rfl
      | succ n ih =>
        unfold lates at *
        rw [List.range_succ, List.filter_append, List.filter_append, List.filter_append, List.length_append, List.length_append, List.length_append]
        have hone : (([n].filter fun i => isClean (s : Int) (((mS f len).tell (s : Int)).F i))).length + ([n].filter (late f len s)).length = ([n].filter fun i => decide (i < len)).length := by
          rcases Nat.lt_or_ge n len with h1 | h1
          · have e1 : isClean (s : Int) (((mS f len).tell (s : Int)).F n) = decide ((lw (f n) : Int) ≤ (s : Int)) := by rw [hF1 n h1]; show (true && _) = _; simp
            by_cases h2 : (lw (f n) : Int) ≤ (s : Int)
            · have e2 : late f len s n = false := by unfold late; simp; omega
              simp [e1, e2, h1, h2]
            · have e2 : late f len s n = true := by unfold late; simp; omega
              simp [e1, e2, h1, h2]
          · have e1 : isClean (s : Int) (((mS f len).tell (s : Int)).F n) = false := by rw [hF0 n h1]; rfl
            have e2 : late f len s n = false := by unfold late; simp; omega
            have e3 : ¬ n < len := by omega
            simp [e1, e2, e3]
        omega
    have := key 8
    rw [filter_lt_len 8 len hl] at this
    show 0 + ((List.range 8).filter fun i => isClean (s : Int) (((mS f len).tell (s : Int)).F i)).length + (lates f len s 8).length = len
    omega

end Go.Proofs.Ytnpgmiokimahiaa
