/-
  Sums of ints, how far a number may go, numbers of two halves: plain facts. No program in it.
-/
import Derived.Test.YtpphhhalmccnbaaProg
namespace Go.Proofs.Ytpphhhalmccnbaa
set_option maxRecDepth 100000
set_option linter.unusedVariables false
set_option linter.unusedSimpArgs false
def okI (x : Int) : Prop := -9223372036854775808 ≤ x ∧ x ≤ 9223372036854775807
instance (x : Int) : Decidable (okI x) := by unfold okI; infer_instance
def sumI (l : List Int) : Int := l.foldl (· + ·) 0
theorem foldl_add (l : List Int) : ∀ a : Int, l.foldl (· + ·) a = a + l.foldl (· + ·) 0 := by
  induction l with
  | nil => intro a; simp
  | cons x l ih => intro a; simp only [List.foldl_cons]; rw [ih (a + x), ih (0 + x)]; omega
theorem sumI_nil : sumI [] = 0 := rfl
theorem sumI_cons (x : Int) (l : List Int) : sumI (x :: l) = x + sumI l := by
  unfold sumI; rw [List.foldl_cons, foldl_add]; omega
theorem sumI_append (l m : List Int) : sumI (l ++ m) = sumI l + sumI m := by
  induction l with
  | nil => simp [sumI_nil]
  | cons x l ih => rw [List.cons_append, sumI_cons, sumI_cons, ih]; omega
theorem sumI_take_succ {l : List Int} {i : Nat} {x : Int} (h : l[i]? = some x) : sumI (l.take (i + 1)) = sumI (l.take i) + x := by
  rw [List.take_add_one, h, sumI_append]; simp [sumI_cons, sumI_nil]
def lows (l : List Int) : List Int := l.filter fun x => decide (x < 0)
def highs (l : List Int) : List Int := l.filter fun x => !decide (x < 0)
def loI (v : Int) (l : List Int) : Int := v + sumI (lows l)
def hiI (v : Int) (l : List Int) : Int := v + sumI (highs l)
theorem lows_append (l m : List Int) : lows (l ++ m) = lows l ++ lows m := List.filter_append ..
theorem highs_append (l m : List Int) : highs (l ++ m) = highs l ++ highs m := List.filter_append ..
theorem loI_take_succ {v : Int} {l : List Int} {i : Nat} {x : Int} (h : l[i]? = some x) : loI v (l.take (i + 1)) = loI v (l.take i) + (if x < 0 then x else 0) := by
  unfold loI
  rw [List.take_add_one, h, Option.toList_some, lows_append, sumI_append]
  by_cases hx : x < 0 <;> simp [lows, hx, sumI_cons, sumI_nil] <;> omega
theorem hiI_take_succ {v : Int} {l : List Int} {i : Nat} {x : Int} (h : l[i]? = some x) : hiI v (l.take (i + 1)) = hiI v (l.take i) + (if x < 0 then 0 else x) := by
  unfold hiI
  rw [List.take_add_one, h, Option.toList_some, highs_append, sumI_append]
  by_cases hx : x < 0 <;> simp [highs, hx, sumI_cons, sumI_nil] <;> omega
/-- a number's two halves -/
theorem wide_plus (x y : Int) : (x / 4294967296 + y / 4294967296 + (x % 4294967296 + y % 4294967296) / 4294967296 = (x + y) / 4294967296) ∧ (x % 4294967296 + y % 4294967296) % 4294967296 = (x + y) % 4294967296 := by omega
theorem wide_ok (x : Int) : okI x ↔ (-2147483648 ≤ x / 4294967296 ∧ x / 4294967296 ≤ 2147483647) := by unfold okI; omega
theorem wide_back (x : Int) : x / 4294967296 * 4294967296 + x % 4294967296 = x := by omega

theorem lows_neg (l : List Int) : sumI (lows l) ≤ 0 := by
  induction l with
  | nil => decide
  | cons x l ih =>
    unfold lows at ih ⊢
    by_cases hx : x < 0
    · rw [List.filter_cons, if_pos (by simpa using hx), sumI_cons]; omega
    · rw [List.filter_cons, if_neg (by simpa using hx)]; exact ih
theorem highs_pos (l : List Int) : 0 ≤ sumI (highs l) := by
  induction l with
  | nil => decide
  | cons x l ih =>
    unfold highs at ih ⊢
    by_cases hx : x < 0
    · rw [List.filter_cons, if_neg (by simpa using hx)]; exact ih
    · rw [List.filter_cons, if_pos (by simpa using hx), sumI_cons]; omega
theorem lo_le (v : Int) (l : List Int) : loI v l ≤ v := by unfold loI; have := lows_neg l; omega
theorem le_hi (v : Int) (l : List Int) : v ≤ hiI v l := by unfold hiI; have := highs_pos l; omega
theorem lo_part (v : Int) (l m : List Int) : loI v (l ++ m) ≤ loI v l := by
  unfold loI; rw [lows_append, sumI_append]; have := lows_neg m; omega
theorem hi_part (v : Int) (l m : List Int) : hiI v l ≤ hiI v (l ++ m) := by
  unfold hiI; rw [highs_append, sumI_append]; have := highs_pos m; omega
theorem lo_turned (v : Int) (l m : List Int) : loI v (l ++ m) = loI v (m ++ l) := by
  unfold loI; rw [lows_append, lows_append, sumI_append, sumI_append]; omega
theorem hi_turned (v : Int) (l m : List Int) : hiI v (l ++ m) = hiI v (m ++ l) := by
  unfold hiI; rw [highs_append, highs_append, sumI_append, sumI_append]; omega
theorem sum_turned (l m : List Int) : sumI (l ++ m) = sumI (m ++ l) := by rw [sumI_append, sumI_append]; omega
theorem lo_one (v x : Int) (l : List Int) : loI v (l ++ [x]) = loI v l + (if x < 0 then x else 0) := by
  unfold loI; rw [lows_append, sumI_append]
  by_cases hx : x < 0 <;> simp [lows, hx, sumI_cons, sumI_nil] <;> omega
theorem hi_one (v x : Int) (l : List Int) : hiI v (l ++ [x]) = hiI v l + (if x < 0 then 0 else x) := by
  unfold hiI; rw [highs_append, sumI_append]
  by_cases hx : x < 0 <;> simp [highs, hx, sumI_cons, sumI_nil] <;> omega

/-! ### whichever are added -/
/-- of the first i, those that are picked, added -/
def pickI (r : List Int) (p : Nat → Bool) : Nat → Int
  | 0 => 0
  | i + 1 => pickI r p i + (if p i then r.getD i 0 else 0)
theorem pick_lo (r : List Int) (p : Nat → Bool) (v : Int) : ∀ i, i ≤ r.length → loI v (r.take i) ≤ v + pickI r p i ∧ v + pickI r p i ≤ hiI v (r.take i)
  | 0, _ => by simp [loI, hiI, lows, highs, sumI_nil, pickI]
  | i + 1, h => by
    obtain ⟨h1, h2⟩ := pick_lo r p v i (by omega)
    have hx : r[i]? = some (r.getD i 0) := by rw [List.getD_eq_getElem?_getD, List.getElem?_eq_getElem (show i < r.length by omega)]; rfl
    rw [loI_take_succ hx, hiI_take_succ hx]
    unfold pickI
    split <;> split <;> omega
/-- P12.6 -/
theorem pick_in (r : List Int) (p : Nat → Bool) (v : Int) {i : Nat} (h : i ≤ r.length) : loI v r ≤ v + pickI r p i ∧ v + pickI r p i ≤ hiI v r := by
  have h1 := pick_lo r p v i h
  have h2 := lo_part v (r.take i) (r.drop i)
  have h3 := hi_part v (r.take i) (r.drop i)
  rw [List.take_append_drop] at h2 h3
  omega
/-- from the k-th on, and round -/
def rot (l : List Int) (k : Nat) : List Int := l.drop k ++ l.take k
theorem rot_len (l : List Int) (k : Nat) : (rot l k).length = l.length := by unfold rot; rw [List.length_append, List.length_drop, List.length_take]; omega
theorem rot_get {l : List Int} {k i : Nat} (hk : k < l.length) (hi : i < l.length) : (rot l k).getD i 0 = l.getD ((i + k) % l.length) 0 := by
  unfold rot
  rw [List.getD_eq_getElem?_getD, List.getD_eq_getElem?_getD]
  rcases Nat.lt_or_ge (i + k) l.length with h | h
  · rw [Nat.mod_eq_of_lt h, List.getElem?_append_left (by rw [List.length_drop]; omega), List.getElem?_drop, Nat.add_comm k i]
  · have e : (i + k) % l.length = i + k - l.length := by rw [Nat.mod_eq_sub_mod h, Nat.mod_eq_of_lt (by omega)]
    rw [e, List.getElem?_append_right (by rw [List.length_drop]; omega), List.length_drop, List.getElem?_take, if_pos (by omega)]
    congr 2
    omega
theorem lo_rot (v : Int) (l : List Int) (k : Nat) : loI v (rot l k) = loI v l := by unfold rot; rw [lo_turned, List.take_append_drop]
theorem hi_rot (v : Int) (l : List Int) (k : Nat) : hiI v (rot l k) = hiI v l := by unfold rot; rw [hi_turned, List.take_append_drop]
theorem sum_rot (l : List Int) (k : Nat) : sumI (rot l k) = sumI l := by unfold rot; rw [sum_turned, List.take_append_drop]

/-! ### the calls' answers -/
def sumE (l : List Int) : Int := if 4096 < l.length then 13 else if okI (sumI l) then 0 else 12
def sumV (l : List Int) : Int := if sumE l = 0 then sumI l else 0
def reachE (v : Int) (l : List Int) : Int := if 4096 < l.length then 13 else if okI (loI v l) ∧ okI (hiI v l) then 0 else 12
def reachL (v : Int) (l : List Int) : Int := if reachE v l = 0 then loI v l else 0
def reachH (v : Int) (l : List Int) : Int := if reachE v l = 0 then hiI v l else 0
def fitsB (a b v : Int) (l : List Int) : Bool := decide (reachE v l = 0 ∧ a ≤ loI v l ∧ hiI v l ≤ b)
/-- as far as an int goes -/
def clampI (x : Int) : Int := if okI x then x else if x < 0 then -9223372036854775808 else 9223372036854775807
def roomL (a b v : Int) (l : List Int) : Int := if fitsB a b v l = true ∧ l.length < 4096 then clampI (a - loI v l) else 0
def roomH (a b v : Int) (l : List Int) : Int := if fitsB a b v l = true ∧ l.length < 4096 then clampI (b - hiI v l) else 0
theorem clamp_ok (x : Int) : okI (clampI x) := by
  unfold clampI
  split
  · assumption
  · split <;> decide
theorem fits_iff {a b v : Int} {l : List Int} (hl : l.length ≤ 4096) : fitsB a b v l = true ↔ (okI (loI v l) ∧ okI (hiI v l)) ∧ a ≤ loI v l ∧ hiI v l ≤ b := by
  unfold fitsB
  rw [decide_eq_true_iff]
  unfold reachE
  rw [if_neg (by omega)]
  by_cases h : okI (loI v l) ∧ okI (hiI v l)
  · rw [if_pos h]; exact ⟨fun x => ⟨h, x.2⟩, fun x => ⟨rfl, x.2⟩⟩
  · rw [if_neg h]; exact ⟨fun x => by have := x.1; omega, fun x => absurd x.1 h⟩
/-- where numbers fit, there is room for what Room tells, and for no more -/
theorem room_fits {a b v : Int} {l : List Int} (ha : okI a) (hb : okI b) (hl : l.length < 4096) (h : fitsB a b v l = true) :
    (roomL a b v l ≤ 0 ∧ 0 ≤ roomH a b v l) ∧ (fitsB a b v (l ++ [roomL a b v l]) = true ∧ fitsB a b v (l ++ [roomH a b v l]) = true) ∧
    (-9223372036854775808 < roomL a b v l → fitsB a b v (l ++ [roomL a b v l - 1]) = false) ∧ (roomH a b v l < 9223372036854775807 → fitsB a b v (l ++ [roomH a b v l + 1]) = false) := by
  have hf := (fits_iff (by omega)).1 h
  have e1 : roomL a b v l = clampI (a - loI v l) := by unfold roomL; rw [if_pos ⟨h, hl⟩]
  have e2 : roomH a b v l = clampI (b - hiI v l) := by unfold roomH; rw [if_pos ⟨h, hl⟩]
  have hll : ∀ x : Int, (l ++ [x]).length ≤ 4096 := fun x => by simp; omega
  have h1 := lo_le v l
  have h2 := le_hi v l
  rw [e1, e2]
  obtain ⟨⟨hf1, hf2⟩, hf3, hf4⟩ := hf
  have key : ∀ x : Int, fitsB a b v (l ++ [x]) = true ↔ (okI (loI v l + (if x < 0 then x else 0)) ∧ okI (hiI v l + (if x < 0 then 0 else x))) ∧ a ≤ loI v l + (if x < 0 then x else 0) ∧ hiI v l + (if x < 0 then 0 else x) ≤ b := fun x => by
    rw [fits_iff (hll x), lo_one, hi_one]
  generalize loI v l = lo at *
  generalize hiI v l = hi at *
  have no : ∀ x : Int, ¬ ((okI (lo + (if x < 0 then x else 0)) ∧ okI (hi + (if x < 0 then 0 else x))) ∧ a ≤ lo + (if x < 0 then x else 0) ∧ hi + (if x < 0 then 0 else x) ≤ b) → fitsB a b v (l ++ [x]) = false := fun x hx => by
    cases hh : fitsB a b v (l ++ [x])
    · rfl
    · exact absurd ((key x).1 hh) hx
  unfold okI at *
  refine ⟨⟨?_, ?_⟩, ⟨(key _).2 ?_, (key _).2 ?_⟩, fun hx => no _ ?_, fun hx => no _ ?_⟩ <;> unfold clampI okI at * <;> (repeat split) <;> omega
end Go.Proofs.Ytpphhhalmccnbaa
