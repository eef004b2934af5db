/-
  A device by its words alone: what is laid down, what is cached, the budget, whether it is gone, how much was done. No program.
-/
import Derived.WalkKit
namespace Go.Proofs.Ytaidjnpbjoncoaa

/-- a device of n sectors -/
structure Dv where
  n : Nat
  laid : Nat → List UInt8
  late : Nat → Option (List UInt8)
  left : Int
  gone : Bool
  spent : Nat

namespace Dv

def zeros : List UInt8 := List.replicate 64 0
def pad (b : List UInt8) : List UInt8 := b ++ List.replicate (64 - b.length) 0
theorem len_zeros : zeros.length = 64 := by simp [zeros]
theorem len_pad (b : List UInt8) (h : b.length ≤ 64) : (pad b).length = 64 := by simp [pad]; omega

def fresh (n : Nat) : Dv := ⟨n, fun _ => zeros, fun _ => none, -1, false, 0⟩

/-- it is gone now -/
def die (D : Dv) : Dv := { D with gone := true }
/-- one more is done -/
def more (D : Dv) : Dv := { D with left := max (D.left - 1) (-1), spent := D.spent + 1 }
/-- what is spent ahead of a write or a flush -/
def spend (D : Dv) : Dv := if D.left = 0 then D.die else D.more
/-- a sector is cached -/
def put (D : Dv) (i : Nat) (s : List UInt8) : Dv := { D with late := fun j => if j = i then some s else D.late j }
/-- all that is cached is laid down -/
def settle (D : Dv) : Dv := { D with laid := fun i => (D.late i).getD (D.laid i), late := fun _ => none }

/-- is there such a sector? -/
def has (D : Dv) (at_ : Int) : Bool := decide (0 ≤ at_) && decide (at_ < D.n)

def readE (D : Dv) (at_ : Int) : Int := if D.gone then 11 else if D.has at_ then 0 else 1
def read (D : Dv) (at_ : Int) : List UInt8 := if D.gone then [] else if D.has at_ then (D.late at_.toNat).getD (D.laid at_.toNat) else []
def writeE (D : Dv) (at_ : Int) (b : List UInt8) : Int := if D.gone then 11 else if D.has at_ && decide (b.length ≤ 64) then (if D.left = 0 then 11 else 0) else 1
def write (D : Dv) (at_ : Int) (b : List UInt8) : Dv := if D.gone then D else if D.has at_ && decide (b.length ≤ 64) then (if D.left = 0 then D.die else D.more.put at_.toNat (pad b)) else D
def flushE (D : Dv) : Int := if D.gone then 11 else if D.left = 0 then 11 else 0
def flush (D : Dv) : Dv := if D.gone then D else if D.left = 0 then D.die else D.more.settle
def budget (D : Dv) (k : Int) : Dv := { D with left := max k (-1) }

/-- what is cached, by rising numbers -/
def keys (D : Dv) : List Nat := (List.range D.n).filter fun i => (D.late i).isSome
/-- what is laid down when the first m of the keys l are gone through -/
def lay (late : Nat → Option (List UInt8)) (laid : Nat → List UInt8) (keep : Nat → Bool) (l : List Nat) : Nat → Nat → List UInt8
  | 0 => laid
  | m + 1 => if keep m then fun i => if i = l.getD m 0 then (late i).getD [] else lay late laid keep l m i else lay late laid keep l m
def crash (D : Dv) (keep : Nat → Bool) : Dv := { D with laid := lay D.late D.laid keep D.keys D.keys.length, late := fun _ => none, left := -1, gone := false }

/-- it is one -/
structure Ok (D : Dv) : Prop where
  pos : 1 ≤ D.n
  top : D.n ≤ 4096
  laid : ∀ i, i < D.n → (D.laid i).length = 64
  late : ∀ i s, D.late i = some s → s.length = 64
  inn : ∀ i s, D.late i = some s → i < D.n
  left : -1 ≤ D.left
  left' : D.left < 9223372036854775808

theorem lay_succ (late : Nat → Option (List UInt8)) (laid : Nat → List UInt8) (keep : Nat → Bool) (l : List Nat) (m i : Nat) : lay late laid keep l (m + 1) i = if keep m = true then (if i = l.getD m 0 then (late i).getD [] else lay late laid keep l m i) else lay late laid keep l m i := by
  rw [lay]
  split <;> rfl

theorem mem_keys {D : Dv} {i : Nat} : i ∈ D.keys ↔ i < D.n ∧ (D.late i).isSome = true := by simp [keys]
theorem keys_lt {D : Dv} {m : Nat} (h : m < D.keys.length) : D.keys.getD m 0 < D.n ∧ (D.late (D.keys.getD m 0)).isSome = true := by
  rw [List.getD_eq_getElem?_getD, List.getElem?_eq_getElem h]
  exact mem_keys.1 (List.getElem_mem h)
theorem keys_nodup (D : Dv) : D.keys.Nodup := List.nodup_range.filter _
theorem keys_sorted (D : Dv) : D.keys.Pairwise (· ≤ ·) := (List.pairwise_le_range).filter _
theorem keys_length (D : Dv) : D.keys.length ≤ D.n := by
  have := List.length_filter_le (fun i => (D.late i).isSome) (List.range D.n)
  simpa [keys] using this

theorem lay_len {late : Nat → Option (List UInt8)} {laid : Nat → List UInt8} {n : Nat} (keep : Nat → Bool) (l : List Nat) (h1 : ∀ i, i < n → (laid i).length = 64) (h2 : ∀ i s, late i = some s → s.length = 64) :
    ∀ m, (∀ j, j < m → (late (l.getD j 0)).isSome = true) → ∀ i, i < n → (lay late laid keep l m i).length = 64
  | 0, _, i, hi => h1 i hi
  | m + 1, hm, i, hi => by
    have ih := lay_len keep l h1 h2 m (fun j hj => hm j (by omega)) i hi
    unfold lay
    split
    · show (if i = l.getD m 0 then (late i).getD [] else lay late laid keep l m i).length = 64
      split
      · next e =>
        subst e
        have := hm m (by omega)
        obtain ⟨s, hs⟩ := Option.isSome_iff_exists.1 this
        rw [hs]
        exact h2 _ _ hs
      · exact ih
    · exact ih

/-- what is not among those that are kept stays as it was -/
theorem lay_other {late : Nat → Option (List UInt8)} {laid : Nat → List UInt8} {keep : Nat → Bool} {l : List Nat} {i : Nat} : ∀ m, (∀ j, j < m → keep j = true → l.getD j 0 ≠ i) → lay late laid keep l m i = laid i
  | 0, _ => rfl
  | m + 1, h => by
    have ih := lay_other (late := late) (laid := laid) m (fun j hj => h j (by omega))
    unfold lay
    split
    · next hk =>
      show (if i = l.getD m 0 then (late i).getD [] else lay late laid keep l m i) = laid i
      rw [if_neg (fun e => h m (by omega) hk e.symm)]; exact ih
    · exact ih

/-- where all are kept -/
theorem lay_all {late : Nat → Option (List UInt8)} {laid : Nat → List UInt8} {l : List Nat} {i : Nat} : ∀ m, m ≤ l.length → lay late laid (fun _ => true) l m i = if i ∈ l.take m then (late i).getD [] else laid i
  | 0, _ => by simp [lay]
  | m + 1, h => by
    have ih := lay_all (late := late) (laid := laid) (l := l) (i := i) m (by omega)
    unfold lay
    rw [if_pos rfl]
    have hm : l.getD m 0 = l[m] := by rw [List.getD_eq_getElem?_getD, List.getElem?_eq_getElem (by omega)]; rfl
    have ht : l.take (m + 1) = l.take m ++ [l[m]] := by rw [List.take_add_one, List.getElem?_eq_getElem (by omega)]; rfl
    show (if i = l.getD m 0 then (late i).getD [] else lay late laid (fun _ => true) l m i) = _
    rw [ih, hm]
    by_cases e : i = l[m]
    · rw [if_pos e, if_pos (by rw [ht, e]; exact List.mem_append_right _ (List.mem_singleton.2 rfl))]
    · rw [if_neg e]
      by_cases e2 : i ∈ l.take m
      · rw [if_pos e2, if_pos (by rw [ht]; exact List.mem_append_left _ e2)]
      · rw [if_neg e2, if_neg (fun h3 => by
          rw [ht] at h3
          rcases List.mem_append.1 h3 with h4 | h4
          · exact e2 h4
          · exact e (List.mem_singleton.1 h4))]

theorem settle_lay (D : Dv) (i : Nat) (hi : i < D.n) : lay D.late D.laid (fun _ => true) D.keys D.keys.length i = (D.late i).getD (D.laid i) := by
  rw [lay_all _ (Nat.le_refl _), List.take_length]
  cases hs : D.late i with
  | none => rw [if_neg (fun h => by have := (mem_keys.1 h).2; rw [hs] at this; cases this)]; rfl
  | some s => rw [if_pos (mem_keys.2 ⟨hi, by rw [hs]; rfl⟩)]; rfl

section
variable {D : Dv}
theorem ok_fresh {n : Nat} (h : 1 ≤ n) (h' : n ≤ 4096) : (fresh n).Ok := ⟨h, h', fun _ _ => len_zeros, (fun _ _ h => by cases h), (fun _ _ h => by cases h), by simp [fresh], by simp [fresh]⟩
theorem Ok.die (h : D.Ok) : D.die.Ok := ⟨h.pos, h.top, h.laid, h.late, h.inn, h.left, h.left'⟩
theorem Ok.more (h : D.Ok) : D.more.Ok := ⟨h.pos, h.top, h.laid, h.late, h.inn, by simp [Dv.more]; omega, by have := h.left'; simp only [Dv.more]; omega⟩
theorem Ok.put (h : D.Ok) (i : Nat) (s : List UInt8) (hi : i < D.n) (hs : s.length = 64) : (D.put i s).Ok := by
  refine ⟨h.pos, h.top, h.laid, fun j t ht => ?_, fun j t ht => ?_, h.left, h.left'⟩
  · simp only [Dv.put] at ht
    split at ht
    · injection ht with ht; rw [← ht]; exact hs
    · exact h.late j t ht
  · simp only [Dv.put] at ht
    split at ht
    · next e => rw [e]; exact hi
    · exact h.inn j t ht
theorem Ok.settle (h : D.Ok) : D.settle.Ok := by
  refine ⟨h.pos, h.top, fun i hi => ?_, (fun _ _ h => by cases h), (fun _ _ h => by cases h), h.left, h.left'⟩
  show ((D.late i).getD (D.laid i)).length = 64
  cases hs : D.late i with
  | none => exact h.laid i hi
  | some s => exact h.late i s hs
theorem Ok.budget (h : D.Ok) (k : Int) (hk : k < 9223372036854775808) : (D.budget k).Ok := ⟨h.pos, h.top, h.laid, h.late, h.inn, by simp [Dv.budget]; omega, by simp only [Dv.budget]; omega⟩
theorem Ok.crash (h : D.Ok) (keep : Nat → Bool) : (D.crash keep).Ok :=
  ⟨h.pos, h.top, lay_len keep D.keys h.laid h.late _ (fun _ hj => (keys_lt hj).2), (fun _ _ h => by cases h), (fun _ _ h => by cases h), by simp [Dv.crash], by simp [Dv.crash]⟩
theorem has_lt {at_ : Int} (ha : D.has at_ = true) : at_.toNat < D.n ∧ 0 ≤ at_ ∧ ((at_.toNat : Nat) : Int) = at_ := by
  simp only [Dv.has, Bool.and_eq_true, decide_eq_true_eq] at ha
  omega
theorem Ok.write (h : D.Ok) (at_ : Int) (b : List UInt8) : (D.write at_ b).Ok := by
  unfold Dv.write
  split
  · exact h
  · split
    · next hc =>
      simp only [Bool.and_eq_true, decide_eq_true_eq] at hc
      split
      · exact h.die
      · exact h.more.put _ _ (has_lt hc.1).1 (len_pad b hc.2)
    · exact h
theorem Ok.flush (h : D.Ok) : D.flush.Ok := by
  unfold Dv.flush
  split
  · exact h
  · split
    · exact h.die
    · exact h.more.settle
theorem Ok.sector (h : D.Ok) {i : Nat} (hi : i < D.n) : ((D.late i).getD (D.laid i)).length = 64 := by
  cases hs : D.late i with
  | none => exact h.laid i hi
  | some s => exact h.late i s hs
theorem write_n (at_ : Int) (b : List UInt8) : (D.write at_ b).n = D.n := by unfold Dv.write; split <;> (try split) <;> (try split) <;> rfl
theorem flush_n : D.flush.n = D.n := by unfold Dv.flush; split <;> (try split) <;> rfl
theorem write_spent (at_ : Int) (b : List UInt8) : (D.write at_ b).spent ≤ D.spent + 1 := by unfold Dv.write; split <;> (try split) <;> (try split) <;> simp [die, more, put]
theorem flush_spent : D.flush.spent ≤ D.spent + 1 := by unfold Dv.flush; split <;> (try split) <;> simp [die, more, settle]
end

end Dv
end Go.Proofs.Ytaidjnpbjoncoaa
