/-
  A device by its words alone: what is laid down, what is cached, the budget, whether it is gone, how much was done. No program.
-/
import Derived.WalkKit
import Derived.Test.YtnpgmiokimahiaaBase
import Derived.Test.YtnpgmiokimahiaaMem
import Derived.Test.YtnpgmiokimahiaaChecked
import Derived.Maps.RangeWalk
import Derived.Maps.OwnSet
import Derived.Laws.Cover3
import Derived.OwnWalk
import Derived.Deep.RegionHeld
import Derived.RegionTactic
namespace Go.Proofs.Ytnpgmiokimahiaa
set_option maxRecDepth 100000

/-- a device of n sectors -/
structure Dv where
  n : Nat
  laid : Nat → List UInt8
  late : Nat → Option (List UInt8)
  left : Int
  gone : Bool
  spent : Nat

namespace Dv

def zeros : List UInt8 := List.replicate 64 0
def pad (b : List UInt8) : List UInt8 := b ++ List.replicate (64 - b.length) 0
theorem len_zeros : zeros.length = 64 := by simp [zeros]
theorem len_pad (b : List UInt8) (h : b.length ≤ 64) : (pad b).length = 64 := by simp [pad]; omega

def fresh (n : Nat) : Dv := ⟨n, fun _ => zeros, fun _ => none, -1, false, 0⟩

/-- it is gone now -/
def die (D : Dv) : Dv := { D with gone := true }
/-- one more is done -/
def more (D : Dv) : Dv := { D with left := max (D.left - 1) (-1), spent := D.spent + 1 }
/-- what is spent ahead of a write or a flush -/
def spend (D : Dv) : Dv := if D.left = 0 then D.die else D.more
/-- a sector is cached -/
def put (D : Dv) (i : Nat) (s : List UInt8) : Dv := { D with late := fun j => if j = i then some s else D.late j }
/-- all that is cached is laid down -/
def settle (D : Dv) : Dv := { D with laid := fun i => (D.late i).getD (D.laid i), late := fun _ => none }

/-- is there such a sector? -/
def has (D : Dv) (at_ : Int) : Bool := decide (0 ≤ at_) && decide (at_ < D.n)

def readE (D : Dv) (at_ : Int) : Int := if D.gone then 11 else if D.has at_ then 0 else 1
def read (D : Dv) (at_ : Int) : List UInt8 := if D.gone then [] else if D.has at_ then (D.late at_.toNat).getD (D.laid at_.toNat) else []
def writeE (D : Dv) (at_ : Int) (b : List UInt8) : Int := if D.gone then 11 else if D.has at_ && decide (b.length ≤ 64) then (if D.left = 0 then 11 else 0) else 1
def write (D : Dv) (at_ : Int) (b : List UInt8) : Dv := if D.gone then D else if D.has at_ && decide (b.length ≤ 64) then (if D.left = 0 then D.die else D.more.put at_.toNat (pad b)) else D
def flushE (D : Dv) : Int := if D.gone then 11 else if D.left = 0 then 11 else 0
def flush (D : Dv) : Dv := if D.gone then D else if D.left = 0 then D.die else D.more.settle
def budget (D : Dv) (k : Int) : Dv := { D with left := max k (-1) }

/-- what is cached, by rising numbers -/
def keys (D : Dv) : List Nat := (List.range D.n).filter fun i => (D.late i).isSome
/-- what is laid down when the first m of the keys l are gone through -/
def lay (late : Nat → Option (List UInt8)) (laid : Nat → List UInt8) (keep : Nat → Bool) (l : List Nat) : Nat → Nat → List UInt8
  | 0 => laid
  | m + 1 => if keep m then fun i => if i = l.getD m 0 then (late i).getD [] else lay late laid keep l m i else lay late laid keep l m
def crash (D : Dv) (keep : Nat → Bool) : Dv := { D with laid := lay D.late D.laid keep D.keys D.keys.length, late := fun _ => none, left := -1, gone := false }

/-- it is one -/
structure Ok (D : Dv) : Prop where
  pos : 1 ≤ D.n
  top : D.n ≤ 4096
  laid : ∀ i, i < D.n → (D.laid i).length = 64
  late : ∀ i s, D.late i = some s → s.length = 64
  inn : ∀ i s, D.late i = some s → i < D.n
  left : -1 ≤ D.left
  left' : D.left < 9223372036854775808

theorem lay_succ (late : Nat → Option (List UInt8)) (laid : Nat → List UInt8) (keep : Nat → Bool) (l : List Nat) (m i : Nat) : lay late laid keep l (m + 1) i = if keep m = true then (if i = l.getD m 0 then (late i).getD [] else lay late laid keep l m i) else lay late laid keep l m i := by
  rw [lay]
  split <;> rfl

theorem mem_keys {D : Dv} {i : Nat} : i ∈ D.keys ↔ i < D.n ∧ (D.late i).isSome = true := by simp [keys]
theorem keys_lt {D : Dv} {m : Nat} (h : m < D.keys.length) : D.keys.getD m 0 < D.n ∧ (D.late (D.keys.getD m 0)).isSome = true := by
  rw [List.getD_eq_getElem?_getD, List.getElem?_eq_getElem h]
  exact mem_keys.1 (List.getElem_mem h)
theorem keys_nodup (D : Dv) : D.keys.Nodup := List.nodup_range.filter _
theorem keys_sorted (D : Dv) : D.keys.Pairwise (· ≤ ·) := (List.pairwise_le_range).filter _
theorem keys_length (D : Dv) : D.keys.length ≤ D.n := by
  have := List.length_filter_le (fun i => (D.late i).isSome) (List.range D.n)
  simpa [keys] using this

theorem lay_len {late : Nat → Option (List UInt8)} {laid : Nat → List UInt8} {n : Nat} (keep : Nat → Bool) (l : List Nat) (h1 : ∀ i, i < n → (laid i).length = 64) (h2 : ∀ i s, late i = some s → s.length = 64) :
    ∀ m, (∀ j, j < m → (late (l.getD j 0)).isSome = true) → ∀ i, i < n → (lay late laid keep l m i).length = 64
  | 0, _, i, hi => h1 i hi
  | m + 1, hm, i, hi => by
    have ih := lay_len keep l h1 h2 m (fun j hj => hm j (by omega)) i hi
    unfold lay
    split
    · show (if i = l.getD m 0 then (late i).getD [] else lay late laid keep l m i).length = 64
      split
      · next e =>
        subst e
        have := hm m (by omega)
        obtain ⟨s, hs⟩ := Option.isSome_iff_exists.1 this
        rw [hs]
        exact h2 _ _ hs
      · exact ih
    · exact ih

/-- what is not among those that are kept stays as it was -/
theorem lay_other {late : Nat → Option (List UInt8)} {laid : Nat → List UInt8} {keep : Nat → Bool} {l : List Nat} {i : Nat} : ∀ m, (∀ j, j < m → keep j = true → l.getD j 0 ≠ i) → lay late laid keep l m i = laid i
  | 0, _ => rfl
  | m + 1, h => by
    have ih := lay_other (late := late) (laid := laid) m (fun j hj => h j (by omega))
    unfold lay
    split
    · next hk =>
      show (if i = l.getD m 0 then (late i).getD [] else lay late laid keep l m i) = laid i
      rw [if_neg (fun e => h m (by omega) hk e.symm)]; exact ih
    · exact ih

/-- where all are kept -/
theorem lay_all {late : Nat → Option (List UInt8)} {laid : Nat → List UInt8} {l : List Nat} {i : Nat} : ∀ m, m ≤ l.length → lay late laid (fun _ => true) l m i = if i ∈ l.take m then (late i).getD [] else laid i
  | 0, _ => by simp [lay]
  | m + 1, h => by
    have ih := lay_all (late := late) (laid := laid) (l := l) (i := i) m (by omega)
    unfold lay
    rw [if_pos rfl]
    have hm : l.getD m 0 = l[m] := by rw [List.getD_eq_getElem?_getD, List.getElem?_eq_getElem (by omega)]; rfl
    have ht : l.take (m + 1) = l.take m ++ [l[m]] := by rw [List.take_add_one, List.getElem?_eq_getElem (by omega)]; rfl
    show (if i = l.getD m 0 then (late i).getD [] else lay late laid (fun _ => true) l m i) = _
    rw [ih, hm]
    by_cases e : i = l[m]
    · rw [if_pos e, if_pos (by rw [ht, e]; exact List.mem_append_right _ (List.mem_singleton.2 rfl))]
    · rw [if_neg e]
      by_cases e2 : i ∈ l.take m
      · rw [if_pos e2, if_pos (by rw [ht]; exact List.mem_append_left _ e2)]
      · rw [if_neg e2, if_neg (fun h3 => by
          rw [ht] at h3
          rcases List.mem_append.1 h3 with h4 | h4
          · exact e2 h4
          · exact e (List.mem_singleton.1 h4))]

theorem settle_lay (D : Dv) (i : Nat) (hi : i < D.n) : lay D.late D.laid (fun _ => true) D.keys D.keys.length i = (D.late i).getD (D.laid i) := by
  rw [lay_all _ (Nat.le_refl _), List.take_length]
  cases hs : D.late i with
  | none => rw [if_neg (fun h => by have := (mem_keys.1 h).2; rw [hs] at this; cases this)]; rfl
  | some s => rw [if_pos (mem_keys.2 ⟨hi, by rw [hs]; rfl⟩)]; rfl

section
variable {D : Dv}
theorem ok_fresh {n : Nat} (h : 1 ≤ n) (h' : n ≤ 4096) : (fresh n).Ok := ⟨h, h', fun _ _ => len_zeros, (fun _ _ h => by cases h), (fun _ _ h => by cases h), by simp [fresh], by simp [fresh]⟩
theorem Ok.die (h : D.Ok) : D.die.Ok := ⟨h.pos, h.top, h.laid, h.late, h.inn, h.left, h.left'⟩
theorem Ok.more (h : D.Ok) : D.more.Ok := ⟨h.pos, h.top, h.laid, h.late, h.inn, by simp [Dv.more]; omega, by have := h.left'; simp only [Dv.more]; omega⟩
theorem Ok.put (h : D.Ok) (i : Nat) (s : List UInt8) (hi : i < D.n) (hs : s.length = 64) : (D.put i s).Ok := by
  refine ⟨h.pos, h.top, h.laid, fun j t ht => ?_, fun j t ht => ?_, h.left, h.left'⟩
  · simp only [Dv.put] at ht
    split at ht
    · injection ht with ht; rw [← ht]; exact hs
    · exact h.late j t ht
  · simp only [Dv.put] at ht
    split at ht
    · next e => rw [e]; exact hi
    · exact h.inn j t ht
theorem Ok.settle (h : D.Ok) : D.settle.Ok := by
  refine ⟨h.pos, h.top, fun i hi => ?_, (fun _ _ h => by cases h), (fun _ _ h => by cases h), h.left, h.left'⟩
  show ((D.late i).getD (D.laid i)).length = 64
  cases hs : D.late i with
  | none => exact h.laid i hi
  | some s => exact h.late i s hs
theorem Ok.budget (h : D.Ok) (k : Int) (hk : k < 9223372036854775808) : (D.budget k).Ok := ⟨h.pos, h.top, h.laid, h.late, h.inn, by simp [Dv.budget]; omega, by simp only [Dv.budget]; omega⟩
theorem Ok.crash (h : D.Ok) (keep : Nat → Bool) : (D.crash keep).Ok :=
  ⟨h.pos, h.top, lay_len keep D.keys h.laid h.late _ (fun _ hj => (keys_lt hj).2), (fun _ _ h => by cases h), (fun _ _ h => by cases h), by simp [Dv.crash], by simp [Dv.crash]⟩
theorem has_lt {at_ : Int} (ha : D.has at_ = true) : at_.toNat < D.n ∧ 0 ≤ at_ ∧ ((at_.toNat : Nat) : Int) = at_ := by
  simp only [Dv.has, Bool.and_eq_true, decide_eq_true_eq] at ha
  omega
theorem Ok.write (h : D.Ok) (at_ : Int) (b : List UInt8) : (D.write at_ b).Ok := by
  unfold Dv.write
  split
  · exact h
  · split
    · next hc =>
      simp only [Bool.and_eq_true, decide_eq_true_eq] at hc
      split
      · exact h.die
      · exact h.more.put _ _ (has_lt hc.1).1 (len_pad b hc.2)
    · exact h
theorem Ok.flush (h : D.Ok) : D.flush.Ok := by
  unfold Dv.flush
  split
  · exact h
  · split
    · exact h.die
    · exact h.more.settle
theorem Ok.sector (h : D.Ok) {i : Nat} (hi : i < D.n) : ((D.late i).getD (D.laid i)).length = 64 := by
  cases hs : D.late i with
  | none => exact h.laid i hi
  | some s => exact h.late i s hs
theorem write_n (at_ : Int) (b : List UInt8) : (D.write at_ b).n = D.n := by unfold Dv.write; split <;> (try split) <;> (try split) <;> rfl
theorem flush_n : D.flush.n = D.n := by unfold Dv.flush; split <;> (try split) <;> rfl
theorem write_spent (at_ : Int) (b : List UInt8) : (D.write at_ b).spent ≤ D.spent + 1 := by unfold Dv.write; split <;> (try split) <;> (try split) <;> simp [die, more, put]
theorem flush_spent : D.flush.spent ≤ D.spent + 1 := by unfold Dv.flush; split <;> (try split) <;> simp [die, more, settle]
end

end Dv
end Go.Proofs.Ytnpgmiokimahiaa

namespace Go.Proofs.Ytnpgmiokimahiaa
set_option maxRecDepth 100000
open Go.RowKit Go.Maps

/-- w' is as w but for the blocks of which S holds, and new ones -/
structure Turn (S : Nat → Prop) (w w' : World) : Prop where
  os : w'.os = w.os
  tape : w'.tape = w.tape
  output : w'.output = w.output
  size : w.heap.size ≤ w'.heap.size
  block : ∀ k, k < w.heap.size → ¬ S k → w'.heap[k]? = w.heap[k]?

section
variable {S S' : Nat → Prop} {w w' w'' : World}
theorem Turn.refl (S : Nat → Prop) (w : World) : Turn S w w := ⟨rfl, rfl, rfl, Nat.le_refl _, fun _ _ _ => rfl⟩
theorem Turn.trans (h : Turn S w w') (k : Turn S w' w'') : Turn S w w'' :=
  ⟨k.os.trans h.os, k.tape.trans h.tape, k.output.trans h.output, Nat.le_trans h.size k.size, fun i hi hs => (k.block i (Nat.lt_of_lt_of_le hi h.size) hs).trans (h.block i hi hs)⟩
theorem Turn.mono (h : Turn S w w') (hs : ∀ k, S k → S' k) : Turn S' w w' := ⟨h.os, h.tape, h.output, h.size, fun k hk hn => h.block k hk fun h' => hn (hs k h')⟩
theorem Turn.grown (h : Turn S w w') {row : Option Nat} (hg : w'.grownBy w'' row) (hr : ∀ j, row = some j → S j ∨ w.heap.size ≤ j) : Turn S w w'' :=
  ⟨hg.os.trans h.os, hg.tape.trans h.tape, hg.output.trans h.output, Nat.le_trans h.size hg.size, fun k hk hn =>
    (hg.block k (Nat.lt_of_lt_of_le hk h.size) (fun e => by rcases hr k e.symm with h1 | h1; exact hn h1; omega)).trans (h.block k hk hn)⟩
theorem Turn.alloc (h : Turn S w w') (o : Obj) : Turn S w (w'.alloc o) := h.grown (World.grownBy_alloc w' o none) (by simp)
theorem Turn.drew (h : Turn S w w') : Turn S w w'.drew := ⟨h.os, h.tape, h.output, h.size, h.block⟩
theorem Turn.setCell (h : Turn S w w') (p : Addr) (v : Value) (hp : S p.block ∨ w.heap.size ≤ p.block) : Turn S w (w'.setCell p v) :=
  ⟨h.os, h.tape, h.output, by simpa [World.setCell] using h.size, fun k hk hn => by
    have hne : k ≠ p.block := fun e => by subst e; rcases hp with h1 | h1; exact hn h1; omega
    rw [heap_setCell_other _ _ _ _ hne]
    exact h.block k hk hn⟩
theorem Turn.setRow (h : Turn S w w') (g : Nat) (cs : Array Value) (hp : S g ∨ w.heap.size ≤ g) : Turn S w (w'.setRow g cs) :=
  ⟨h.os, h.tape, h.output, by rw [setRow_size]; exact h.size, fun k hk hn => by
    have hne : k ≠ g := fun e => by subst e; rcases hp with h1 | h1; exact hn h1; omega
    rw [setRow_other _ _ _ _ hne]
    exact h.block k hk hn⟩
theorem Turn.below (h : Turn S w w') {B : Nat} (hS : ∀ k, S k → B ≤ k) (hB : B ≤ w.heap.size) : Below B w w' :=
  ⟨h.os, h.tape, h.output, h.size, fun k hk => h.block k (by omega) fun h1 => by have := hS k h1; omega⟩
theorem Turn.ofBelow (h : Below w.heap.size w w') : Turn S w w' := ⟨h.os, h.tape, h.output, h.size, fun k hk _ => h.block k hk⟩
/-- what turned nothing that was there -/
theorem Turn.toBelow (h : Turn S w w') (hS : ∀ k, S k → w.heap.size ≤ k) : Below w.heap.size w w' := h.below hS (Nat.le_refl _)
end

/-- the blocks of a device -/
def DS (p L M : Nat) (k : Nat) : Prop := k = p ∨ k = L ∨ k = M

/-- a sector as the program has it -/
def secV (s : List UInt8) : Value := .agg (byteVs s).toArray

theorem byteV_inj {x y : UInt8} (h : byteV x = byteV y) : x = y := by
  simp only [byteV, Value.int.injEq, true_and] at h
  exact UInt8.toNat_inj.1 (by omega)
theorem byteVs_inj : ∀ {s t : List UInt8}, byteVs s = byteVs t → s = t
  | [], [], _ => rfl
  | [], _ :: _, h => by simp [byteVs] at h
  | _ :: _, [], h => by simp [byteVs] at h
  | x :: s, y :: t, h => by
    simp only [byteVs, List.map_cons, List.cons.injEq] at h
    rw [byteV_inj h.1, byteVs_inj (s := s) (t := t) h.2]
theorem secV_inj {s t : List UInt8} (h : secV s = secV t) : s = t := by
  simp only [secV, Value.agg.injEq] at h
  exact byteVs_inj (by simpa using congrArg Array.toList h)

open Classical in
/-- how a sector in a map reads -/
noncomputable def secElem (v : Value) : Option (DataW Unit × List MemPlace) :=
  if h : ∃ s : List UInt8, s.length = 64 ∧ v = secV s then some (.lit (.string h.choose), []) else none

theorem secElem_mk {s : List UInt8} (h : s.length = 64) : secElem (secV s) = some (.lit (.string s), []) := by
  have hx : ∃ t : List UInt8, t.length = 64 ∧ secV s = secV t := ⟨s, h, rfl⟩
  unfold secElem
  rw [dif_pos hx, ← secV_inj hx.choose_spec.2]
theorem secElem_inv {v : Value} {y : DataW Unit × List MemPlace} (h : secElem v = some y) : ∃ s : List UInt8, s.length = 64 ∧ v = secV s ∧ y = (.lit (.string s), []) := by
  by_cases hx : ∃ s : List UInt8, s.length = 64 ∧ v = secV s
  · obtain ⟨s, hs, rfl⟩ := hx
    rw [secElem_mk hs] at h
    exact ⟨s, hs, rfl, (Option.some.inj h).symm⟩
  · unfold secElem at h
    rw [dif_neg hx] at h
    cases h

theorem lawK : Keyed Try.prog 3 := int_keyed Try.underlying3
theorem zeroS (w : World) : (zeroValue 60).run Try.prog w = .ok (secV Dv.zeros) w := by kernel_rfl

def keyL (i : Nat) : Lit := .int .i64 (i : Int)
theorem keyL_ne {i j : Nat} (h : i ≠ j) : keyL i ≠ keyL j := fun e => h (by simp only [keyL, Lit.int.injEq, true_and] at e; omega)

/-- the map as read holds what is cached -/
structure Reads (D : DataW Unit) (late : Nat → Option (List UInt8)) : Prop where
  has : ∀ i : Nat, Maps.has D (keyL i) = (late i).isSome
  at_ : ∀ (i : Nat) s, late i = some s → ∀ z, D.atKey (keyL i) z = .lit (.string s)
  neg : ∀ x : Int, x < 0 → Maps.has D (.int .i64 x) = false
  map : IsMap D

theorem Reads.empty : Reads (.map []) fun _ => none := ⟨fun _ => rfl, (fun _ _ h => by cases h), fun _ _ => rfl, isMap_empty⟩
theorem Reads.put {D : DataW Unit} {late : Nat → Option (List UInt8)} (h : Reads D late) (i : Nat) (s : List UInt8) : Reads (D.put (keyL i) (.lit (.string s))) fun j => if j = i then some s else late j := by
  have hk : WideAt.IsKeyLit (keyL i) := trivial
  refine ⟨fun j => ?_, fun j t ht z => ?_, fun x hx => ?_, h.map.put _ _⟩
  · by_cases e : j = i
    · subst e; rw [has_put_same h.map hk, if_pos rfl]; rfl
    · rw [has_put_other (keyL_ne e), if_neg e]; exact h.has j
  · by_cases e : j = i
    · subst e
      rw [if_pos rfl] at ht
      rw [atKey_put_same h.map hk, Option.some.inj ht]
    · rw [if_neg e] at ht
      rw [atKey_put_other (keyL_ne e)]; exact h.at_ j t ht z
  · rw [has_put_other (by simp only [keyL, ne_eq, Lit.int.injEq, true_and]; omega)]; exact h.neg x hx

/-- block M is a map that holds what is cached, of at most m entries -/
def Cache (w : World) (M m : Nat) (late : Nat → Option (List UInt8)) : Prop :=
  ∃ D : DataW Unit, w.ownsMap Try.prog 3 secElem M m D ∧ Reads D late

section
variable {w w' : World} {M m : Nat} {late : Nat → Option (List UInt8)}
theorem ownsMap_same {D : DataW Unit} (h : w.ownsMap Try.prog 3 secElem M m D) (e : w'.heap[M]? = w.heap[M]?) : w'.ownsMap Try.prog 3 secElem M m D := by
  obtain ⟨es, clock, hb, r⟩ := h
  exact ⟨es, clock, e.trans hb, r⟩
theorem Cache.same (h : Cache w M m late) (e : w'.heap[M]? = w.heap[M]?) : Cache w' M m late := by
  obtain ⟨D, hD, hR⟩ := h
  exact ⟨D, ownsMap_same hD e, hR⟩
theorem Cache.lt (h : Cache w M m late) : M < w.heap.size := by obtain ⟨D, hD, _⟩ := h; exact hD.lt
theorem Cache.mono (h : Cache w M m late) {m' : Nat} (hm : m ≤ m') : Cache w M m' late := by obtain ⟨D, hD, hR⟩ := h; exact ⟨D, hD.mono hm, hR⟩
theorem Cache.noRow (h : Cache w M m late) {g : Nat} {cs : Array Value} {t : TypeId} {fr : Nat × Nat} (hg : w.heap[g]? = some (.cells cs t fr)) : g ≠ M := by
  obtain ⟨D, ⟨es, clock, hb, _⟩, _⟩ := h
  intro e
  rw [e, hb] at hg
  cases hg

theorem Cache.look (h : Cache w M m late) (i : Nat) (hi : (i : Int) < 9223372036854775808) : (Instr.lookup 51 (.map (some M)) (.int .i64 (i : Int)) true).run Try.prog w = .ok (.tuple #[secV ((late i).getD Dv.zeros), .bool (late i).isSome]) w := by
  obtain ⟨D, hD, hR⟩ := h
  obtain ⟨v, ps, hrun, hv⟩ := hD.look_ok lawK Try.underlying51 (zeroS w) (secElem_mk Dv.len_zeros) (key := .int .i64 (i : Int)) (kl := keyL i) (keyOf_int_mk Try.underlying3 (WalkArith.wf_i64 (by omega)))
  obtain ⟨s, hs, rfl, e⟩ := secElem_inv hv
  rw [hrun, hR.has i]
  cases hl : late i with
  | none =>
    have : D.atKey (keyL i) (.lit (.string Dv.zeros)) = .lit (.string Dv.zeros) := atKey_of_not_has (by rw [hR.has i, hl]; rfl) _
    rw [this] at e
    simp only [Prod.mk.injEq, DataW.lit.injEq, Lit.string.injEq] at e
    rw [← e.1]; rfl
  | some t =>
    rw [hR.at_ i t hl] at e
    simp only [Prod.mk.injEq, DataW.lit.injEq, Lit.string.injEq] at e
    rw [← e.1]; rfl

theorem Cache.get (h : Cache w M m late) (i : Nat) (hi : (i : Int) < 9223372036854775808) (s : List UInt8) (hs : late i = some s) : (Instr.lookup 51 (.map (some M)) (.int .i64 (i : Int)) false).run Try.prog w = .ok (secV s) w := by
  obtain ⟨D, hD, hR⟩ := h
  obtain ⟨v, ps, hrun, hv⟩ := hD.lookup lawK Try.underlying51 (zeroS w) (secElem_mk Dv.len_zeros) (key := .int .i64 (i : Int)) (kl := keyL i) (keyOf_int_mk Try.underlying3 (WalkArith.wf_i64 (by omega)))
  obtain ⟨t, ht, rfl, e⟩ := secElem_inv hv
  rw [hR.at_ i s hs] at e
  simp only [Prod.mk.injEq, DataW.lit.injEq, Lit.string.injEq] at e
  rw [hrun, ← e.1]

theorem Cache.store (h : Cache w M m late) (hm : m < 1000000000) (i : Nat) (hi : (i : Int) < 9223372036854775808) (s : List UInt8) (hs : s.length = 64) :
    ∃ w', (Instr.mapUpdate 51 (.map (some M)) (.int .i64 (i : Int)) (secV s)).run Try.prog w = .ok () w' ∧ Cache w' M (m + 1) (fun j => if j = i then some s else late j) ∧ w.grownBy w' (some M) := by
  obtain ⟨D, hD, hR⟩ := h
  obtain ⟨w', hrun, h2, h3⟩ := hD.update lawK Try.underlying51 (by unfold maxLen; omega) (key := .int .i64 (i : Int)) (kl := keyL i) (keyOf_int_mk Try.underlying3 (WalkArith.wf_i64 (by omega))) (secElem_mk hs)
  exact ⟨w', hrun, ⟨_, h2, hR.put i s⟩, h3⟩

theorem Cache.made (w : World) : Cache (w.alloc (.map #[] 0)) w.heap.size 0 fun _ => none := ⟨_, World.ownsMap_made w _ _ _, Reads.empty⟩

theorem Cache.clear (h : Cache w M m late) (ty : TypeId) : ∃ w', (Builtin.clear_ #[51] ty #[.map (some M)]).run Try.prog w = .ok (.tuple #[]) w' ∧ Cache w' M 0 (fun _ => none) ∧ w.grownBy w' (some M) := by
  obtain ⟨D, ⟨es, clock, hb, F, hs, hD⟩, hR⟩ := h
  refine ⟨ChangeMaps.setBlock w M (.map #[] clock), ?_, ⟨.map [], ⟨#[], clock, ChangeMaps.heap_setBlock_same hb _, ⟨by simp, MapKept.stamped_empty clock, by simp⟩, by simp, rfl⟩, Reads.empty⟩,
    ⟨rfl, rfl, rfl, by simp [ChangeMaps.setBlock], fun i _ hi => ChangeMaps.heap_setBlock_other hb _ (fun e => hi (by rw [e]))⟩⟩
  simp [Builtin.clear_, run_underlying Try.underlying51, MapKept.run_getObj_map hb, MapKept.run_setObj_map _ hb, Result.andThen, ChangeMaps.setBlock]
end

/-- the sectors of a device, one behind the other -/
def secs (n : Nat) (f : Nat → List UInt8) : Array Value := Array.ofFn (n := n * 64) fun j => byteV ((f (j.val / 64)).getD (j.val % 64) 0)

theorem size_secs (n : Nat) (f : Nat → List UInt8) : (secs n f).size = n * 64 := by simp [secs]
theorem get_secs (n : Nat) (f : Nat → List UInt8) (j : Nat) (h : j < n * 64) : (secs n f)[j]? = some (byteV ((f (j / 64)).getD (j % 64) 0)) := by
  unfold secs
  rw [Array.getElem?_ofFn, dif_pos h]
theorem secs_eq (n : Nat) (f g : Nat → List UInt8) (h : ∀ i, i < n → f i = g i) : secs n f = secs n g := by
  unfold secs
  congr 1
  funext j
  rw [h _ (by have := j.isLt; omega)]

section
variable {w : World} {L n : Nat} {f : Nat → List UInt8} {t : TypeId}
theorem sec_cell (hg : w.heap[L]? = some (.cells (secs n f) t (0, 0))) (i : Nat) (hi : i < n) (hl : (f i).length = 64) (j : Nat) (v : Value) (hv : (byteVs (f i))[j]? = some v) : w.cell? ⟨L, i * 64 + j, none⟩ = some v := by
  have hj : j < 64 := by
    have := (List.getElem?_eq_some_iff.1 hv).1
    rw [length_byteVs, hl] at this
    exact this
  rw [cell_of_row _ _ _ _ _ _ hg, get_secs n f _ (by omega), show (i * 64 + j) / 64 = i from by omega, show (i * 64 + j) % 64 = j from by omega]
  rw [byteVs, List.getElem?_map] at hv
  rw [List.getD_eq_getElem?_getD, ← hv, List.getElem?_eq_getElem (by omega)]
  rfl


theorem run_load_sec (hg : w.heap[L]? = some (.cells (secs n f) t (0, 0))) (i : Nat) (hi : i < n) (hl : (f i).length = 64) : (loadVar 60 ⟨L, i * 64, none⟩).run Try.prog w = .ok (secV (f i)) w := by
  have hq : ((Try.prog.info? 60).map (·.size)) = some 64 := by kernel_rfl
  have hload : (loadCells ⟨L, i * 64, none⟩ (byteVs (f i)).length).run Try.prog w = .ok (byteVs (f i)).toArray w :=
    run_loadCells_list w ⟨L, i * 64, none⟩ (byteVs (f i)) (fun j v hv => by rw [addr_add]; exact sec_cell hg i hi hl j v hv)
  rw [length_byteVs, hl] at hload
  cases hi2 : Try.prog.info? 60 with
  | none => rw [hi2] at hq; cases hq
  | some ti =>
    have hs : ti.size = 64 := by rw [hi2] at hq; exact Option.some.inj hq
    have hagg : (isAgg 60).run Try.prog w = .ok true w := by
      unfold isAgg
      rw [Sem.run_bind, run_underlying Try.underlying60 w]
      rfl
    simp [loadVar, Sem.run_bind, hagg, sizeOf, typeInfo, hi2, hs, hload, secV]

theorem setRow_self (hg : w.heap[L]? = some (.cells (secs n f) t (0, 0))) : w.setRow L (secs n f) = w := by
  have hlt : L < w.heap.size := (Array.getElem?_eq_some_iff.1 hg).1
  have hv : w.heap[L] = .cells (secs n f) t (0, 0) := (Array.getElem?_eq_some_iff.1 hg).2
  unfold World.setRow
  cases w with
  | mk heap tape drawn os output =>
    congr 1
    apply Array.ext
    · simp
    · intro k h1 h2
      simp only [Array.getElem_modify]
      split
      · rename_i hk; subst hk; simp at hv; simp [hv]
      · rfl
end

theorem setRow_same {w : World} {g : Nat} {cur : Array Value} {t : TypeId} (hg : w.heap[g]? = some (.cells cur t (0, 0))) : w.setRow g cur = w := by
  have hlt : g < w.heap.size := (Array.getElem?_eq_some_iff.1 hg).1
  have hv : w.heap[g] = .cells cur t (0, 0) := (Array.getElem?_eq_some_iff.1 hg).2
  unfold World.setRow
  cases w with
  | mk heap tape drawn os output =>
    congr 1
    apply Array.ext
    · simp
    · intro k h1 h2
      simp only [Array.getElem_modify]
      split
      · rename_i hk; subst hk; simp at hv; simp [hv]
      · rfl

/-- cells are stored into the middle of a row -/
theorem run_storeCells_at {P : Program} (g off : Nat) (t : TypeId) : ∀ (vs : List Value) (i : Nat) (cur new : Array Value) (w : World), w.heap[g]? = some (.cells cur t (0, 0)) → off + i + vs.length ≤ cur.size → (∀ v ∈ vs, v.oneCell' = true) →
    new.size = cur.size → (∀ k, k < off + i ∨ off + i + vs.length ≤ k → new[k]? = cur[k]?) → (∀ j, j < vs.length → new[off + i + j]? = vs[j]?) →
    (storeCells ⟨g, off, none⟩ vs i).run P w = .ok () (w.setRow g new)
  | [], i, cur, new, w, hg, _, _, _, h1, _ => by
    have e : new = cur := by
      apply Array.ext_getElem?
      intro k
      exact h1 k (by simp only [List.length_nil]; omega)
    subst e
    rw [setRow_same hg]
    rfl
  | v :: rest, i, cur, new, w, hg, hl, hone, hs, h1, h2 => by
    simp only [List.length_cons] at hl h1 h2
    have hi : off + i < cur.size := by omega
    have hcell : w.cell? ⟨g, off + i, none⟩ = some cur[off + i] := by simp [World.cell?, hg, hi]
    have hfro : w.frozen? ⟨g, off + i, none⟩ = false := by simp [World.frozen?, hg]
    have hst : (store ((⟨g, off, none⟩ : Addr).add i) v).run P w = .ok () (w.setRow g (cur.setIfInBounds (off + i) v)) := by
      rw [addr_add, run_store P w _ v _ (hone v (by simp)), hcell]
      simp [hfro, setCell_eq_setRow w g (off + i) cur t (0, 0) v hg]
    have ih := run_storeCells_at (P := P) g off t rest (i + 1) (cur.setIfInBounds (off + i) v) new (w.setRow g (cur.setIfInBounds (off + i) v)) (setRow_heap w g cur _ t _ hg) (by simp; omega) (fun x hx => hone x (by simp [hx])) (by simp [hs])
      (fun k hk => by
        rw [Array.getElem?_setIfInBounds]
        by_cases e : off + i = k
        · subst e
          rw [if_pos rfl, if_pos hi]
          exact (h2 0 (by omega)).trans rfl
        · rw [if_neg e]
          exact h1 k (by omega))
      (fun j hj => by
        have := h2 (j + 1) (by omega)
        rw [show off + i + (j + 1) = off + (i + 1) + j from by omega] at this
        exact this)
    simp only [storeCells, Sem.run_bind, hst, Result.andThen_ok, ih, setRow_setRow]

section
variable {w : World} {L n : Nat} {f : Nat → List UInt8} {t : TypeId}
theorem run_store_sec (hg : w.heap[L]? = some (.cells (secs n f) t (0, 0))) (i : Nat) (hi : i < n) (s : List UInt8) (hl : s.length = 64) :
    (storeVar 60 ⟨L, i * 64, none⟩ (secV s)).run Try.prog w = .ok () (w.setRow L (secs n fun j => if j = i then s else f j)) := by
  have hq : ((Try.prog.info? 60).map (·.size)) = some 64 := by kernel_rfl
  have hst := run_storeCells_at (P := Try.prog) L (i * 64) t (byteVs s) 0 (secs n f) (secs n fun j => if j = i then s else f j) w hg (by rw [length_byteVs, hl, size_secs]; omega) (byteVs_one s) (by rw [size_secs, size_secs])
    (fun k hk => by
      rw [length_byteVs, hl] at hk
      rcases Nat.lt_or_ge k (n * 64) with hlt | hge
      · rw [get_secs _ _ _ hlt, get_secs _ _ _ hlt, if_neg (by omega)]
      · rw [Array.getElem?_eq_none (by rw [size_secs]; exact hge), Array.getElem?_eq_none (by rw [size_secs]; exact hge)])
    (fun j hj => by
      rw [length_byteVs, hl] at hj
      rw [get_secs _ _ _ (by omega), show (i * 64 + 0 + j) / 64 = i from by omega, show (i * 64 + 0 + j) % 64 = j from by omega, if_pos rfl, byteVs, List.getElem?_map, List.getD_eq_getElem?_getD, List.getElem?_eq_getElem (by omega)]
      rfl)
  cases hi2 : Try.prog.info? 60 with
  | none => rw [hi2] at hq; cases hq
  | some ti =>
    have hs : ti.size = 64 := by rw [hi2] at hq; exact Option.some.inj hq
    have hlen : (byteVs s).length = 64 := by rw [length_byteVs, hl]
    simp [storeVar, sizeOf, typeInfo, hi2, Value.cells, secV, hs, hlen, hst]
end

/-- a device in memory: its struct in block p, its sectors in block L, its cache in block M -/
structure IsDev (w : World) (p L M : Nat) (D : Dv) : Prop where
  ok : D.Ok
  ne : p ≠ L
  own : ∃ c : Int, max c (-1) = D.left ∧ -9223372036854775808 ≤ c ∧ w.heap[p]? = some (.cells #[.slice (some ⟨L, 0, none⟩) D.n D.n, .map (some M), .int .i64 c, .bool D.gone, .int .i64 (D.spent : Int)] 53 (0, 0))
  laid : w.heap[L]? = some (.cells (secs D.n D.laid) 60 (0, 0))
  cache : Cache w M D.spent D.late

section
variable {w w' : World} {p L M : Nat} {D : Dv}
theorem IsDev.turn (h : IsDev w p L M D) {S : Nat → Prop} (ht : Turn S w w') (hp : ¬ S p) (hL : ¬ S L) (hM : ¬ S M) : IsDev w' p L M D := by
  obtain ⟨ok, ne, ⟨c, h1, h2, h3⟩, h4, h5⟩ := h
  have b1 := lt_of_block h3
  have b2 := lt_of_block h4
  exact ⟨ok, ne, ⟨c, h1, h2, (ht.block p b1 hp).trans h3⟩, (ht.block L b2 hL).trans h4, h5.same (ht.block M h5.lt hM)⟩
theorem IsDev.lt (h : IsDev w p L M D) : p < w.heap.size ∧ L < w.heap.size ∧ M < w.heap.size := by
  obtain ⟨ok, ne, ⟨c, h1, h2, h3⟩, h4, h5⟩ := h
  exact ⟨lt_of_block h3, lt_of_block h4, h5.lt⟩
theorem IsDev.nm (h : IsDev w p L M D) : p ≠ L ∧ p ≠ M ∧ L ≠ M := by
  obtain ⟨ok, ne, ⟨c, h1, h2, h3⟩, h4, h5⟩ := h
  exact ⟨ne, h5.noRow h3, h5.noRow h4⟩
end

end Go.Proofs.Ytnpgmiokimahiaa

namespace Go.Proofs.Ytnpgmiokimahiaa
set_option maxRecDepth 100000
open Go.RowKit

/-- the pointer to a device in block p -/
abbrev ptr (p : Nat) : Value := .pointer (some ⟨p, 0, none⟩)

section
variable {w : World} {p L M : Nat} {D : Dv}
theorem IsDev.c0 (h : IsDev w p L M D) : w.cell? ⟨p, 0, none⟩ = some (.slice (some ⟨L, 0, none⟩) D.n D.n) := by obtain ⟨c, _, _, hb⟩ := h.own; rw [cell_of_row _ _ _ _ _ _ hb]; rfl
theorem IsDev.c1 (h : IsDev w p L M D) : w.cell? ⟨p, 1, none⟩ = some (.map (some M)) := by obtain ⟨c, _, _, hb⟩ := h.own; rw [cell_of_row _ _ _ _ _ _ hb]; rfl
theorem IsDev.c3 (h : IsDev w p L M D) : w.cell? ⟨p, 3, none⟩ = some (.bool D.gone) := by obtain ⟨c, _, _, hb⟩ := h.own; rw [cell_of_row _ _ _ _ _ _ hb]; rfl
theorem IsDev.c4 (h : IsDev w p L M D) : w.cell? ⟨p, 4, none⟩ = some (.int .i64 (D.spent : Int)) := by obtain ⟨c, _, _, hb⟩ := h.own; rw [cell_of_row _ _ _ _ _ _ hb]; rfl
theorem IsDev.fr (h : IsDev w p L M D) (i : Nat) : w.frozen? ⟨p, i, none⟩ = false := by obtain ⟨c, _, _, hb⟩ := h.own; exact frozen_of_row _ _ _ _ _ hb
end

theorem made_any {w : World} {p L M : Nat} {D : Dv} (h : IsDev w p L M D) : Calls Try.prog 30 #[ptr p] w fun e w' => e = .returned (.bool true) ∧ w' = w := by
  have c0 := h.c0
  have hn := h.ok.pos
  clear h
  generalize D.n = n at *
  have hq : (binOp .neq 50 (.slice (some ⟨L, 0, none⟩) n n) (.slice none 0 0)).run Try.prog w = .ok (.bool true) w := run_neq_slice_nil w 50 60 (some ⟨L, 0, none⟩) n n Try.underlying50
  go_enter Try.func30, Try.ntmps30
  go_wp2_with fail
  go_ret
  exact ⟨rfl, rfl⟩

theorem made_nil (w : World) : Calls Try.prog 30 #[.pointer none] w fun e w' => e = .returned (.bool false) ∧ w' = w := by
  go_enter Try.func30, Try.ntmps30
  go_wp2_with fail
  go_ret
  exact ⟨rfl, rfl⟩

theorem size_any {w : World} {p L M : Nat} {D : Dv} (h : IsDev w p L M D) : Calls Try.prog 33 #[ptr p] w fun e w' => e = .returned (.int .i64 (D.n : Int)) ∧ w' = w := by
  have hm := made_any h
  have c0 := h.c0
  clear h
  generalize D.n = n at *
  go_enter Try.func33, Try.ntmps33
  go_wp2_with (go_at_call 30; refine hm.mono ?_; rintro e w' ⟨rfl, rfl⟩)
  go_ret
  exact ⟨rfl, rfl⟩

theorem size_nil (w : World) : Calls Try.prog 33 #[.pointer none] w fun e w' => e = .returned (.int .i64 0) ∧ w' = w := by
  go_enter Try.func33, Try.ntmps33
  go_wp2_with (go_at_call 30; refine (made_nil w).mono ?_; rintro e w' ⟨rfl, rfl⟩)
  go_ret
  exact ⟨rfl, rfl⟩

theorem gone_any {w : World} {p L M : Nat} {D : Dv} (h : IsDev w p L M D) : Calls Try.prog 24 #[ptr p] w fun e w' => e = .returned (.bool D.gone) ∧ w' = w := by
  have hm := made_any h
  have c3 := h.c3
  clear h
  generalize D.gone = g at *
  go_enter Try.func24, Try.ntmps24
  go_wp2_with (go_at_call 30; refine hm.mono ?_; rintro e w' ⟨rfl, rfl⟩)
  go_ret
  exact ⟨rfl, rfl⟩

theorem gone_nil (w : World) : Calls Try.prog 24 #[.pointer none] w fun e w' => e = .returned (.bool true) ∧ w' = w := by
  go_enter Try.func24, Try.ntmps24
  go_wp2_with (go_at_call 30; refine (made_nil w).mono ?_; rintro e w' ⟨rfl, rfl⟩)
  go_ret
  exact ⟨rfl, rfl⟩

theorem spent_any {w : World} {p L M : Nat} {D : Dv} (h : IsDev w p L M D) : Calls Try.prog 18 #[ptr p] w fun e w' => e = .returned (.int .i64 (D.spent : Int)) ∧ w' = w := by
  have hm := made_any h
  have c4 := h.c4
  clear h
  generalize D.spent = s at *
  go_enter Try.func18, Try.ntmps18
  go_wp2_with (go_at_call 30; refine hm.mono ?_; rintro e w' ⟨rfl, rfl⟩)
  go_ret
  exact ⟨rfl, rfl⟩

theorem spent_nil (w : World) : Calls Try.prog 18 #[.pointer none] w fun e w' => e = .returned (.int .i64 0) ∧ w' = w := by
  go_enter Try.func18, Try.ntmps18
  go_wp2_with (go_at_call 30; refine (made_nil w).mono ?_; rintro e w' ⟨rfl, rfl⟩)
  go_ret
  exact ⟨rfl, rfl⟩

theorem has_any {w : World} {p L M : Nat} {D : Dv} (h : IsDev w p L M D) (at_ : Int) : Calls Try.prog 29 #[ptr p, .int .i64 at_] w fun e w' => e = .returned (.bool (D.has at_)) ∧ w' = w := by
  have hs := size_any h
  unfold Dv.has
  clear h
  generalize D.n = n at *
  by_cases h0 : 0 ≤ at_
  · have d0 : decide (0 ≤ at_) = true := decide_eq_true h0
    rw [d0]
    go_enter Try.func29, Try.ntmps29
    go_wp2_with (go_at_call 33; refine hs.mono ?_; rintro e w' ⟨rfl, rfl⟩)
    go_ret
    exact ⟨by simp, rfl⟩
  · have d0 : decide (0 ≤ at_) = false := decide_eq_false h0
    rw [d0]
    go_enter Try.func29, Try.ntmps29
    go_wp2_with (go_at_call 33; refine hs.mono ?_; rintro e w' ⟨rfl, rfl⟩)
    go_ret
    exact ⟨rfl, rfl⟩

/-- a cell of the struct is written -/
theorem IsDev.left_ {w : World} {p L M : Nat} {D : Dv} (h : IsDev w p L M D) (k : Int) (hk : -9223372036854775808 ≤ k ∧ k < 9223372036854775808) : IsDev (w.setCell ⟨p, 2, none⟩ (.int .i64 k)) p L M (D.budget k) := by
  have hl := h.lt
  have nm := h.nm
  obtain ⟨ok, ne, ⟨c, h1, h2, h3⟩, h4, h5⟩ := h
  exact ⟨ok.budget k hk.2, ne, ⟨k, rfl, hk.1, heap_setCell_same _ _ _ _ _ _ h3⟩, by rw [heap_setCell_other _ _ _ _ (Ne.symm nm.1)]; exact h4, h5.same (heap_setCell_other _ _ _ _ (Ne.symm nm.2.1))⟩

end Go.Proofs.Ytnpgmiokimahiaa

namespace Go.Proofs.Ytnpgmiokimahiaa
set_option maxRecDepth 100000
open Go.RowKit

section
variable {w : World} {p L M : Nat} {D : Dv}
theorem IsDev.die_ (h : IsDev w p L M D) : IsDev (w.setCell ⟨p, 3, none⟩ (.bool true)) p L M D.die := by
  have nm := h.nm
  obtain ⟨ok, ne, ⟨c, h1, h2, h3⟩, h4, h5⟩ := h
  exact ⟨ok.die, ne, ⟨c, h1, h2, heap_setCell_same _ _ _ _ _ _ h3⟩, by rw [heap_setCell_other _ _ _ _ (Ne.symm nm.1)]; exact h4, h5.same (heap_setCell_other _ _ _ _ (Ne.symm nm.2.1))⟩
theorem IsDev.more_ (h : IsDev w p L M D) (c' : Int) (hc : max c' (-1) = max (D.left - 1) (-1)) (hl : -9223372036854775808 ≤ c') : IsDev ((w.setCell ⟨p, 2, none⟩ (.int .i64 c')).setCell ⟨p, 4, none⟩ (.int .i64 (D.spent + 1 : Int))) p L M D.more := by
  have nm := h.nm
  obtain ⟨ok, ne, ⟨c, h1, h2, h3⟩, h4, h5⟩ := h
  refine ⟨ok.more, ne, ⟨c', hc, hl, heap_setCell_same _ _ _ _ _ _ (heap_setCell_same _ _ _ _ _ _ h3)⟩, ?_, ?_⟩
  · rw [heap_setCell_other _ _ _ _ (Ne.symm nm.1), heap_setCell_other _ _ _ _ (Ne.symm nm.1)]; exact h4
  · exact (h5.mono (by simp [Dv.more])).same ((heap_setCell_other _ _ _ _ (Ne.symm nm.2.1)).trans (heap_setCell_other _ _ _ _ (Ne.symm nm.2.1)))
theorem IsDev.more1_ (h : IsDev w p L M D) (hl : D.left = -1) : IsDev (w.setCell ⟨p, 4, none⟩ (.int .i64 (D.spent + 1 : Int))) p L M D.more := by
  have nm := h.nm
  obtain ⟨ok, ne, ⟨c, h1, h2, h3⟩, h4, h5⟩ := h
  refine ⟨ok.more, ne, ⟨c, by rw [h1, hl]; simp only [Dv.more, hl]; decide, h2, heap_setCell_same _ _ _ _ _ _ h3⟩, ?_, ?_⟩
  · rw [heap_setCell_other _ _ _ _ (Ne.symm nm.1)]; exact h4
  · exact (h5.mono (by simp [Dv.more])).same (heap_setCell_other _ _ _ _ (Ne.symm nm.2.1))
end

/-- what 'spend' answers -/
def spendE (D : Dv) : Int := if D.left = 0 then 11 else 0

theorem spend_any {w : World} {p L M : Nat} {D : Dv} (h : IsDev w p L M D) (hf : D.spent ≤ 1000000) : Calls Try.prog 32 #[ptr p] w fun e w' => e = .returned (.int .i64 (spendE D)) ∧ IsDev w' p L M D.spend ∧ Turn (· = p) w w' := by
  have hd := h.die_
  have hm := h.more_
  have hm1 := h.more1_
  obtain ⟨c, hc1, hc2, hb⟩ := h.own
  have hleft := h.ok.left'
  have hleft2 := h.ok.left
  have c2 : w.cell? ⟨p, 2, none⟩ = some (.int .i64 c) := by rw [cell_of_row _ _ _ _ _ _ hb]; rfl
  have c3 := h.c3
  have c4 := h.c4
  have f2 := h.fr 2
  have f3 := h.fr 3
  have f4 := h.fr 4
  unfold spendE Dv.spend
  clear h hb
  rcases (show c = 0 ∨ 0 < c ∨ c < 0 from by omega) with h0 | h0 | h0
  · subst h0
    have hl : D.left = 0 := by omega
    rw [if_pos hl, if_pos hl]
    have HD := Lib.hid hd
    clear hd hm hm1 hc1 hc2 hl hleft hleft2 hf
    go_enter Try.func32, Try.ntmps32
    go_wp2_with fail
    go_ret
    exact ⟨rfl, HD.out, (Turn.refl (· = p) w).setCell ⟨p, 3, none⟩ _ (.inl rfl)⟩
  · have hl : D.left = c := by omega
    rw [if_neg (by omega), if_neg (by omega)]
    have HM := Lib.hid (hm (c - 1) (by omega) (by omega))
    have e1 : (c == 0) = false := by simp; omega
    have e2 : decide (0 < c) = true := decide_eq_true h0
    have hcl : c < 9223372036854775808 := by omega
    generalize D.spent = s at *
    clear hd hm hm1 hc1 hl hleft2 hleft
    go_enter Try.func32, Try.ntmps32
    go_wp2_with fail
    go_ret
    exact ⟨rfl, HM.out, ((Turn.refl (· = p) w).setCell ⟨p, 2, none⟩ _ (.inl rfl)).setCell ⟨p, 4, none⟩ _ (.inl rfl)⟩
  · have hl : D.left = -1 := by omega
    rw [if_neg (by omega), if_neg (by omega)]
    have HM := Lib.hid (hm1 hl)
    have e1 : (c == 0) = false := by simp; omega
    have e2 : decide (0 < c) = false := decide_eq_false (by omega)
    generalize D.spent = s at *
    clear hd hm hm1 hc1 hl hleft2 hleft
    go_enter Try.func32, Try.ntmps32
    go_wp2_with fail
    go_ret
    exact ⟨rfl, HM.out, (Turn.refl (· = p) w).setCell ⟨p, 4, none⟩ _ (.inl rfl)⟩

/-- a new one: its three blocks are new -/
def NewDev (w : World) (D : Dv) (e : Ending) (w' : World) : Prop :=
  ∃ p L M, e = .returned (.tuple #[ptr p, .int .i64 0]) ∧ IsDev w' p L M D ∧ Below w.heap.size w w' ∧ w.heap.size ≤ p ∧ w.heap.size ≤ L ∧ w.heap.size ≤ M

theorem new_bad (w : World) (n : Int) (hn : n < 1 ∨ 4096 < n) : Calls Try.prog 10 #[.int .i64 n] w fun e w' => e = .returned (.tuple #[.pointer none, .int .i64 1]) ∧ w' = w := by
  by_cases h1 : n < 1
  · have d1 : decide (n < 1) = true := decide_eq_true h1
    clear hn
    go_enter Try.func10, Try.ntmps10
    go_wp2_with fail
    go_ret2
    exact ⟨rfl, rfl⟩
  · have d1 : decide (n < 1) = false := decide_eq_false h1
    have d2 : decide (4096 < n) = true := decide_eq_true (by omega)
    clear hn
    go_enter Try.func10, Try.ntmps10
    go_wp2_with fail
    go_ret2
    exact ⟨rfl, rfl⟩

theorem madeCells_zero (n : Nat) : madeCells (secV Dv.zeros).cells (n * 64) = secs n fun _ => Dv.zeros := by
  apply Array.ext_getElem?
  intro j
  rcases Nat.lt_or_ge j (n * 64) with hj | hj
  · rw [get_secs _ _ _ hj]
    unfold madeCells
    rw [Array.getElem?_map, Array.getElem?_range, if_pos hj]
    have e1 : (secV Dv.zeros).cells.size = 64 := by simp [secV, Value.cells, length_byteVs, Dv.len_zeros]
    have e2 : ∀ k, k < 64 → (secV Dv.zeros).cells[k]? = some (byteV 0) := fun k hk => by
      simp only [secV, Value.cells, byteVs, Dv.zeros, List.map_replicate]
      rw [List.getElem?_toArray, List.getElem?_replicate, if_pos hk]
    simp only [Option.map_some, e1]
    rw [getElem!_def, e2 _ (Nat.mod_lt _ (by omega))]
    simp only [Dv.zeros, List.getD_eq_getElem?_getD]
    rw [List.getElem?_replicate, if_pos (Nat.mod_lt _ (by omega))]
    rfl
  · rw [Array.getElem?_eq_none (by simp [madeCells]; exact hj), Array.getElem?_eq_none (by rw [size_secs]; exact hj)]

theorem row_block {w : World} {base g n : Nat} {f : Nat → List UInt8} (h : w.ownsRow base 60 64 (.slice (some ⟨g, 0, none⟩) n n) n (secs n f).toList) : w.heap[g]? = some (.cells (secs n f) 60 (0, 0)) ∧ base ≤ g := by
  rcases h.2 with ⟨e, _⟩ | ⟨g', cap, cur, e, hb, hh, h1, h2, h3, h4⟩
  · cases e
  · injection e with e1 e2 e3
    injection e1 with e1
    injection e1 with e1 _ _
    subst e1 e3
    refine ⟨?_, hb⟩
    rw [hh]
    have : cur = secs n f := by
      apply Array.ext'
      rw [← h4, List.take_of_length_le]
      rw [Array.length_toList, h3]; omega
    rw [this]

theorem newdev_any (w : World) (n : Nat) (h1 : 1 ≤ n) (h2 : n ≤ 4096) : Calls Try.prog 10 #[.int .i64 (n : Int)] w (NewDev w (.fresh n)) := by
  have hi0 : ∃ i, Try.prog.info? 60 = some i ∧ i.zero = some (secV Dv.zeros) ∧ i.size = 64 ∧ i.bytes = 64 := by
    have hz : (Try.prog.info? 60).map (fun i => (i.zero, i.size, i.bytes)) = some (some (secV Dv.zeros), 64, 64) := by kernel_rfl
    cases hi : Try.prog.info? 60 with
    | none => rw [hi] at hz; cases hz
    | some i =>
      rw [hi] at hz
      simp only [Option.map_some, Option.some.injEq, Prod.mk.injEq] at hz
      exact ⟨i, rfl, hz.1, hz.2.1, hz.2.2⟩
  obtain ⟨i, hi, hz, hs, hby⟩ := hi0
  have HI := Lib.hid hi
  clear hi
  have hmm := @run_makeMap Try.prog
  have d1 : decide ((n : Int) < 1) = false := decide_eq_false (by omega)
  have d2 : decide (4096 < (n : Int)) = false := decide_eq_false (by omega)
  go_enter Try.func10, Try.ntmps10
  go_wp2_with (at_make; refine wpList_make_full _ rfl _ _ 50 rfl w.heap.size 60 i (secV Dv.zeros) 64 Try.underlying50 HI.out hz hs .i64 .i64 _ _ n rfl rfl rfl rfl (by rw [hby]; omega) (by unfold maxLen; omega) (Nat.le_refl _) ?_; intro w1 hown hg1; rw [madeCells_zero] at hown; have HO := Lib.hid (row_block hown); have HG := Lib.hid hg1; clear hown hg1)
  go_ret2
  have g1 := HG.out
  obtain ⟨hb, _⟩ := HO.out
  have hlt := lt_of_block hb
  refine ⟨w1.heap.size + 1, w.heap.size, w1.heap.size, rfl, ⟨Dv.ok_fresh h1 h2, by omega, ⟨-1, rfl, by omega, heap_alloc2_new _ _ _⟩, ?_, ?_⟩, ?_, by omega, Nat.le_refl _, g1.size⟩
  · rw [heap_alloc_old _ _ (by simp; omega), heap_alloc_old _ _ hlt]; exact hb
  · exact (Cache.made w1).same (heap_alloc_old _ _ (by simp))
  · exact (((Below.refl _ _).grown g1 (Nat.le_refl _) (by simp)).alloc g1.size _).alloc (by simp; exact Nat.le_succ_of_le g1.size) _

end Go.Proofs.Ytnpgmiokimahiaa

namespace Go.Proofs.Ytnpgmiokimahiaa
set_option maxRecDepth 100000
open Go.RowKit

section
variable {P : Program}
end

/-- the cells of a sector -/
def secC (s : List UInt8) : Array Value := (byteVs s).toArray
theorem size_secC {s : List UInt8} (h : s.length = 64) : (secC s).size = 64 := by simp [secC, length_byteVs, h]
theorem secC_one (s : List UInt8) : (secC s).all (·.oneCell') = true := by
  rw [Array.all_eq_true]
  intro i hi
  exact byteVs_one s _ (by simp [secC])
theorem info_sec : ((Try.prog.info? 60).map (fun i => i.zero.map (·.cells))) = some (some (secC Dv.zeros)) := by kernel_rfl
theorem info_size : ((Try.prog.info? 60).map (·.size)) = some 64 := by kernel_rfl

section
variable {w : World} {L n : Nat} {f : Nat → List UInt8} {t : TypeId}
theorem wpList_load_sec {ops : Array Oper} {rest : List Oper} {o : Oper} {a : Act} {Q : Exit → Act → World → Prop} (hgd : o.guard = none) (x : Operand) (ho : o.op = .load 60 x)
    (i : Nat) (hx : a.eval x = .pointer (some ⟨L, i * 64, none⟩)) (hg : w.heap[L]? = some (.cells (secs n f) t (0, 0))) (hi : i < n) (hl : (f i).length = 64)
    (h : wpList Try.prog ops Q rest (a.put o.dst (secV (f i))) w) : wpList Try.prog ops Q (o :: rest) a w := by
  refine wpList_plain hgd fun K hK => ?_
  unfold Oper.wp execOp
  simp only [ho, hx, Instr.loadAt, Instr.sureAddr, Sem.run_bind, Sem.run_pure, Result.andThen_ok, run_load_sec hg i hi hl]
  exact hK _ _ h
end

/-- bytes that a read has answered: nothing, or a sector in a block from base on -/
def Got (w : World) (base : Nat) (A : Option Addr) (n c : Nat) (l : List UInt8) : Prop :=
  (l = [] ∧ A = none ∧ n = 0 ∧ c = 0) ∨ ∃ g, A = some ⟨g, 0, none⟩ ∧ n = 64 ∧ c = 64 ∧ l.length = 64 ∧ base ≤ g ∧ w.heap[g]? = some (.cells (secC l) 60 (0, 0))

section
variable {w w' : World} {base n c : Nat} {A : Option Addr} {l : List UInt8}
theorem Got.len (h : Got w base A n c l) : l.length = n := by
  rcases h with ⟨rfl, _, rfl, _⟩ | ⟨g, _, rfl, _, h, _⟩
  · rfl
  · exact h
theorem secC_cell {w : World} {g : Nat} {l : List UInt8} {t : TypeId} (hb : w.heap[g]? = some (.cells (secC l) t (0, 0))) (j : Nat) (x : UInt8) (hx : l[j]? = some x) : w.cell? ⟨g, j, none⟩ = some (byteV x) := by
  rw [cell_of_row _ _ _ _ _ _ hb, secC, List.getElem?_toArray, byteVs, List.getElem?_map, hx]
  rfl
theorem Got.rd (h : Got w base A n c l) : Rd w w.heap.size A l := by
  rcases h with ⟨rfl, _⟩ | ⟨g, rfl, _, _, _, _, hb⟩
  · exact .nil _ _ _
  · exact .inr ⟨g, 0, rfl, lt_of_block hb, fun j x hx => by rw [Nat.zero_add]; exact secC_cell hb j x hx⟩
theorem Got.below (h : Got w base A n c l) (hb : Below w.heap.size w w') : Got w' base A n c l := by
  rcases h with h | ⟨g, h1, h2, h3, h4, h5, h6⟩
  · exact .inl h
  · exact .inr ⟨g, h1, h2, h3, h4, h5, (hb.block g (lt_of_block h6)).trans h6⟩
theorem Got.turn (h : Got w base A n c l) {S : Nat → Prop} (ht : Turn S w w') (hS : ∀ k, S k → k < base) : Got w' base A n c l := by
  rcases h with h | ⟨g, h1, h2, h3, h4, h5, h6⟩
  · exact .inl h
  · exact .inr ⟨g, h1, h2, h3, h4, h5, (ht.block g (lt_of_block h6) (fun hs => by have := hS g hs; omega)).trans h6⟩
end

/-- a read has answered l and er -/
def ReadOut (w : World) (l : List UInt8) (er : Int) (e : Ending) (w' : World) : Prop :=
  ∃ A n c, e = .returned (.tuple #[.slice A n c, .int .i64 er]) ∧ Got w' w.heap.size A n c l ∧ Below w.heap.size w w'

theorem ReadOut.sec {w : World} {old l : List UInt8} (hl : l.length = 64) :
    ReadOut w l 0 (.returned (.tuple #[.slice (some ⟨w.heap.size, 0, none⟩) 64 64, .int .i64 0])) ((w.alloc (.cells (secC old) 60)).setRow w.heap.size (secC l)) :=
  ⟨_, _, _, rfl, .inr ⟨_, rfl, rfl, rfl, hl, Nat.le_refl _, setRow_heap _ _ _ _ _ _ (heap_alloc_new _ _)⟩, ⟨rfl, rfl, rfl, by rw [setRow_size]; simp, fun k hk => by rw [setRow_other _ _ _ _ (by omega), heap_alloc_old _ _ hk]⟩⟩

set_option maxRecDepth 100000 in
set_option maxHeartbeats 400000 in
theorem dread_any {w : World} {p L M : Nat} {D : Dv} (h : IsDev w p L M D) (at_ : Int) : Calls Try.prog 17 #[ptr p, .int .i64 at_] w (ReadOut w (D.read at_) (D.readE at_)) := by
  have hg := gone_any h
  unfold Dv.read Dv.readE
  by_cases hgone : D.gone = true
  · rw [hgone] at hg
    rw [if_pos hgone, if_pos hgone]
    clear h
    go_enter Try.func17, Try.ntmps17
    go_wp2_with (go_at_call 24; refine hg.mono ?_; rintro e w' ⟨rfl, hw⟩; replace hw := hw.symm; subst hw)
    go_ret2
    exact ⟨_, _, _, rfl, .inl ⟨rfl, rfl, rfl, rfl⟩, Below.refl _ _⟩
  · rw [if_neg hgone, if_neg hgone]
    have hgf : D.gone = false := by cases hD : D.gone <;> simp_all
    rw [hgf] at hg
    have hh := has_any h at_
    by_cases hat : D.has at_ = true
    · rw [if_pos hat, if_pos hat]
      rw [hat] at hh
      obtain ⟨hlt, h0, hi⟩ := Dv.has_lt hat
      generalize at_.toNat = i at *
      subst hi
      have hbd : (i : Int) < 9223372036854775808 := by have := h.ok.top; omega
      have hlk := h.cache.look i hbd
      have c0 := h.c0
      have c1 := h.c1
      have hsec := h.ok.sector hlt
      have hlen := h.ok.laid i hlt
      have HL := Lib.hid h.laid
      have hlL := h.lt.2.1
      have h' := h
      have htop := h.ok.top
      clear h hat hgone hgf
      cases hlate : D.late i with
      | none =>
        rw [hlate] at hlk hsec
        simp only [Option.getD_none, Option.isSome_none] at hlk ⊢
        have HLen := Lib.hid hlen
        have HR := Lib.hid (ReadOut.sec (w := w) (old := Dv.zeros) hlen)
        have hpl := h'.lt.1
        have k0 : ((w.alloc (.cells (secC Dv.zeros) 60)).setRow w.heap.size (secC Dv.zeros)).cell? ⟨p, 0, none⟩ = some (.slice (some ⟨L, 0, none⟩) D.n D.n) := by
          rw [cell_setRow_other _ _ _ _ (by show p ≠ _; omega), World.cell?_alloc_lt _ _ _ hpl]; exact c0
        have kL : ((w.alloc (.cells (secC Dv.zeros) 60)).setRow w.heap.size (secC Dv.zeros)).heap[L]? = some (.cells (secs D.n D.laid) 60 (0, 0)) := by
          rw [setRow_other _ _ _ _ (by omega), heap_alloc_old _ _ hlL]; exact HL.out
        have kG : ((w.alloc (.cells (secC Dv.zeros) 60)).setRow w.heap.size (secC Dv.zeros)).heap[w.heap.size]? = some (.cells (secC Dv.zeros) 60 (0, 0)) := setRow_heap _ _ _ _ _ _ (heap_alloc_new _ _)
        have kS : ((w.alloc (.cells (secC Dv.zeros) 60)).setRow w.heap.size (secC Dv.zeros)).setRow w.heap.size (secC (D.laid i)) = (w.alloc (.cells (secC Dv.zeros) 60)).setRow w.heap.size (secC (D.laid i)) := setRow_setRow _ _ _ _
        have KL := Lib.hid kL
        have KG := Lib.hid kG
        have KS := Lib.hid kS
        clear hlate hsec hlen kL kG kS h'
        generalize D.n = n at *
        generalize D.laid = f at *
        go_enter Try.func17, Try.ntmps17
        go_wp2_with (first
          | (go_at_call 24; refine hg.mono ?_; rintro e w' ⟨rfl, hw⟩; replace hw := hw.symm; subst hw)
          | (go_at_call 29; refine hh.mono ?_; rintro e w' ⟨rfl, hw⟩; replace hw := hw.symm; subst hw)
          | ((with_reducible refine wpList_alloc_zero (by rfl) 60 (by rfl) _ info_sec ?_))
          | (refine wpList_store_row rfl 60 (.tmp 6) (.tmp 21) rfl w.heap.size (secC Dv.zeros) rfl rfl _ _ (heap_alloc_new _ _) (by rw [size_secC Dv.len_zeros]; exact info_size) (by rw [size_secC Dv.len_zeros]) (secC_one _) ?_; generalize ((w.alloc (.cells (secC Dv.zeros) 60)).setRow w.heap.size (secC Dv.zeros)) = W1 at *)
          | (refine wpList_load_sec rfl (.tmp 30) rfl i rfl KL.out hlt HLen.out ?_)
          | (refine wpList_store_row rfl 60 (.tmp 6) (.tmp 31) rfl w.heap.size (secC (f i)) rfl rfl _ _ KG.out (by rw [size_secC HLen.out]; exact info_size) (by rw [size_secC HLen.out, size_secC Dv.len_zeros]) (secC_one _) ?_))
        go_ret2
        rw [KS.out]
        exact HR.out
      | some s =>
        rw [hlate] at hlk hsec
        have hs : s.length = 64 := hsec
        have HS := Lib.hid hs
        simp only [Option.getD_some, Option.isSome_some] at hlk ⊢
        have HR := Lib.hid (ReadOut.sec (w := w) (old := Dv.zeros) hs)
        clear hlate hsec HL hlen hs h'
        generalize D.n = n at *
        go_enter Try.func17, Try.ntmps17
        go_wp2_with (first
          | (go_at_call 24; refine hg.mono ?_; rintro e w' ⟨rfl, hw⟩; replace hw := hw.symm; subst hw)
          | (go_at_call 29; refine hh.mono ?_; rintro e w' ⟨rfl, hw⟩; replace hw := hw.symm; subst hw)
          | ((with_reducible refine wpList_alloc_zero (by rfl) 60 (by rfl) _ info_sec ?_))
          | (refine wpList_store_row rfl 60 (.tmp 6) (.tmp 21) rfl w.heap.size (secC s) rfl rfl _ _ (heap_alloc_new _ _) (by rw [size_secC HS.out]; exact info_size) (by rw [size_secC HS.out, size_secC Dv.len_zeros]) (secC_one _) ?_))
        go_ret2
        exact HR.out
    · have hat' : D.has at_ = false := by cases hD : D.has at_ <;> simp_all
      rw [if_neg hat, if_neg hat]
      rw [hat'] at hh
      clear h
      go_enter Try.func17, Try.ntmps17
      go_wp2_with (first
        | (go_at_call 24; refine hg.mono ?_; rintro e w' ⟨rfl, hw⟩; replace hw := hw.symm; subst hw)
        | (go_at_call 29; refine hh.mono ?_; rintro e w' ⟨rfl, hw⟩; replace hw := hw.symm; subst hw))
      go_ret2
      exact ⟨_, _, _, rfl, .inl ⟨rfl, rfl, rfl, rfl⟩, Below.refl _ _⟩

end Go.Proofs.Ytnpgmiokimahiaa

namespace Go.Proofs.Ytnpgmiokimahiaa
set_option maxRecDepth 100000
open Go.RowKit

section
variable {P : Program} {ops : Array Oper} {Q : Exit → Act → World → Prop} {md : Region.Mode} {X : Nat → Prop}

theorem wpAnyH_weak {S S' : World → Prop} (h : ∀ W, S' W → S W) : ∀ (fuel : Nat) (listed : Array Bool) (a : Act) (w : World), wpAnyH P md ops Q S' fuel listed a w → wpAnyH P md ops Q S fuel listed a w
  | 0, _, _, _, H => H
  | fuel + 1, _, _, _, H => ⟨H.1, fun i hi => wpOp_mono (fun a' w' h' => ⟨h _ h'.1, wpAnyH_weak h fuel _ a' w' h'.2⟩) (H.2 i hi)⟩

theorem wpAnyH_turn {a b : World} (hab : Turn X a b) {fuel : Nat} {listed : Array Bool} {x : Act} {w : World} (h : wpAnyH P md ops Q (Turn X b) fuel listed x w) : wpAnyH P md ops Q (Turn X a) fuel listed x w :=
  wpAnyH_weak (fun _ hW => Turn.trans hab hW) fuel listed x w h

theorem wp_region_turn {id : Nat} {a : Act} {w : World} (hm : P.follows .mixedOrders = true)
    (h : wpAnyH P .any ops Q (Turn X w) ops.size (Array.replicate ops.size false) a w.drew) : (Code.region id ops true).wp P Q a w :=
  wp_region_held_drew hm ((Turn.refl _ _).drew) (fun _ => h)
end

theorem Turn.cell {X : Nat → Prop} {w W : World} (h : Turn X w W) {a : Addr} {v : Value} (hc : w.cell? a = some v) (hx : ¬ X a.block) : W.cell? a = some v :=
  (World.cell?_of_block (h.block a.block (World.block_lt_of_cell? w a hc) hx)).trans hc

/-- a load, by what it runs to -/
theorem exec_load {P : Program} {W : World} {o : Oper} {ρ : Operand → Value} {ty : TypeId} {x : Operand} {ad : Addr} {v : Value} (ho : o.op = .load ty x) (hx : ρ x = .pointer (some ad)) (hl : (loadVar ty ad).run P W = .ok v W) : (execOp ρ o).run P W = .ok (.value v) W := by
  unfold execOp
  simp only [ho, hx, Instr.loadAt, Instr.sureAddr, Sem.run_bind, Sem.run_pure, Result.andThen_ok, hl]

/-- a sector is laid down -/
theorem wp_store_sec {o : Oper} {a : Act} {w : World} {K : Act → World → Prop} {Q : Exit → Act → World → Prop} {L n i : Nat} {f : Nat → List UInt8} {t : TypeId} {s : List UInt8} (x y : Operand) (ho : o.op = .store 60 x y)
    (hx : a.eval x = .pointer (some ⟨L, i * 64, none⟩)) (hy : a.eval y = secV s) (hg : w.heap[L]? = some (.cells (secs n f) t (0, 0))) (hi : i < n) (hs : s.length = 64)
    (h : K (a.put o.dst undef) (w.setRow L (secs n fun j => if j = i then s else f j))) : o.wp Try.prog a w K Q := by
  unfold Oper.wp execOp
  simp only [ho, hx, hy, Instr.storeAt, Instr.sureAddr, Sem.run_bind, Sem.run_pure, Result.andThen_ok, run_store_sec hg i hi s hs]
  exact h

/-- bytes that lie in no block of which X holds: they lie so in every world that is as w but for these -/
def Firm (X : Nat → Prop) (w : World) (A : Option Addr) (l : List UInt8) : Prop := ∀ V, Turn X w V → Rd V V.heap.size A l
theorem Firm.rd {X : Nat → Prop} {w : World} {A : Option Addr} {l : List UInt8} (h : Firm X w A l) : Rd w w.heap.size A l := h w (Turn.refl _ _)
theorem Firm.turn {X : Nat → Prop} {w w' : World} {A : Option Addr} {l : List UInt8} (h : Firm X w A l) (ht : Turn X w w') : Firm X w' A l := fun _ hV => h _ (ht.trans hV)
theorem Firm.mono {X X' : Nat → Prop} {w : World} {A : Option Addr} {l : List UInt8} (h : Firm X w A l) (hx : ∀ k, X' k → X k) : Firm X' w A l := fun _ hV => h _ (hV.mono hx)
theorem Rd.firm {X : Nat → Prop} {w : World} {B : Nat} {A : Option Addr} {l : List UInt8} (h : Rd w B A l) (hB : B ≤ w.heap.size) (hx : ∀ k, X k → B ≤ k) : Firm X w A l :=
  fun _ hV => (h.below (hV.below hx hB)).more (Nat.le_trans hB hV.size)
theorem Firm.block {X : Nat → Prop} {w : World} {g : Nat} {l : List UInt8} (hg : ¬ X g) (hl : g < w.heap.size) (hc : ∀ j x, l[j]? = some x → w.cell? ⟨g, j, none⟩ = some (byteV x)) : Firm X w (some ⟨g, 0, none⟩) l :=
  fun _ hV => .inr ⟨g, 0, rfl, Nat.lt_of_lt_of_le hl hV.size, fun j x hx => by rw [Nat.zero_add]; exact hV.cell (hc j x hx) hg⟩
theorem Firm.nil {X : Nat → Prop} {w : World} {A : Option Addr} : Firm X w A [] := fun _ _ => .nil _ _ _

theorem pad_get (l : List UInt8) (hl : l.length ≤ 64) (k : Nat) (h1 : l.length ≤ k) (h2 : k < 64) : (Dv.pad l)[k]? = some 0 := by
  unfold Dv.pad
  rw [List.getElem?_append_right h1, List.getElem?_replicate, if_pos (by omega)]
theorem secC_get (l : List UInt8) (k : Nat) : (secC l)[k]? = (l[k]?).map byteV := by
  unfold secC byteVs
  rw [List.getElem?_toArray, List.getElem?_map]

/-- 'copy(sector[:], b)' -/
theorem run_copy_sec {w : World} {g : Nat} (hg : w.heap[g]? = some (.cells (secC Dv.zeros) 60 (0, 0))) {B : Nat} {A : Option Addr} {l : List UInt8} (hr : Rd w B A l) (n c : Nat) (hn : l.length = n) (hl : n ≤ 64) (ty : TypeId) :
    (Builtin.copy_ #[33, 33] ty #[.slice (some ⟨g, 0, none⟩) 64 64, .slice A n c]).run Try.prog w = .ok (.int .i64 (n : Int)) (w.setRow g (secC (Dv.pad l))) := by
  subst hn
  have hmin : Nat.min l.length 64 = l.length := Nat.min_eq_left hl
  have hsz : ∃ i, Try.prog.info? 5 = some i ∧ i.size = 1 := by
    have hz : (Try.prog.info? 5).map (·.size) = some 1 := by kernel_rfl
    cases hi : Try.prog.info? 5 with
    | none => rw [hi] at hz; cases hz
    | some i => rw [hi] at hz; exact ⟨i, rfl, Option.some.inj hz⟩
  obtain ⟨i, hi, hs⟩ := hsz
  have hst := run_storeCells_at (P := Try.prog) g 0 60 (byteVs l) 0 (secC Dv.zeros) (secC (Dv.pad l)) w hg (by rw [length_byteVs, size_secC Dv.len_zeros]; omega) (byteVs_one l) (by rw [size_secC Dv.len_zeros, size_secC (Dv.len_pad l hl)])
    (fun k hk => by
      rw [length_byteVs] at hk
      rw [secC_get, secC_get]
      rcases Nat.lt_or_ge k 64 with h2 | h2
      · rw [pad_get l hl k (by omega) h2]
        unfold Dv.zeros
        rw [List.getElem?_replicate, if_pos h2]
      · rw [List.getElem?_eq_none (by rw [Dv.len_pad l hl]; exact h2), List.getElem?_eq_none (by rw [Dv.len_zeros]; exact h2)])
    (fun j hj => by
      rw [length_byteVs] at hj
      rw [secC_get, byteVs, List.getElem?_map, Dv.pad, List.getElem?_append_left (by omega)]
      simp only [Nat.zero_add])
  have hfc : (Builtin.firstCells 1 l.length (.slice A l.length c)).run Try.prog w = .ok (byteVs l).toArray w := by
    rcases A with _ | ad
    · have : l = [] := by
        rcases hr with h | ⟨b, o, e, _⟩
        · exact h
        · cases e
      subst this
      simp [Builtin.firstCells, byteVs]
    · have := run_loadCells_list (P := Try.prog) w ad (byteVs l) (fun j v hv => by
        rcases hr with h | ⟨b, o, e, _, hc⟩
        · subst h; simp [byteVs] at hv
        · injection e with e
          subst e
          rw [byteVs, List.getElem?_map] at hv
          cases hx : l[j]? with
          | none => rw [hx] at hv; cases hv
          | some x =>
            rw [hx] at hv
            rw [addr_add, hc j x hx]
            exact hv)
      rw [length_byteVs] at this
      simpa [Builtin.firstCells] using this
  simp [Builtin.copy_, run_underlying Try.underlying33, Builtin.lenOf, hmin, sizeOf, typeInfo, hi, hs, hfc, hst, goInt, Result.andThen]

theorem wpList_copy_sec {w : World} {ops : Array Oper} {rest : List Oper} {o : Oper} {a : Act} {Q : Exit → Act → World → Prop} (hgd : o.guard = none) (s x : Operand) (ho : o.op = .call { callee := .builtin .copy, args := #[s, x], argTypes := #[33, 33] })
    {g : Nat} (hg : w.heap[g]? = some (.cells (secC Dv.zeros) 60 (0, 0))) {B : Nat} {A : Option Addr} {l : List UInt8} (hr : Rd w B A l) (n c : Nat) (hn : l.length = n) (hl : n ≤ 64)
    (hs : a.eval s = .slice (some ⟨g, 0, none⟩) 64 64) (hx : a.eval x = .slice A n c)
    (h : wpList Try.prog ops Q rest (a.put o.dst (.int .i64 (n : Int))) (w.setRow g (secC (Dv.pad l)))) : wpList Try.prog ops Q (o :: rest) a w := by
  refine wpList_plain hgd fun K hK => ?_
  unfold Oper.wp
  simp [execOp, ho, resolve, invoke, builtin, hs, hx, run_copy_sec hg hr n c hn hl, Result.andThen]
  exact hK _ _ h

end Go.Proofs.Ytnpgmiokimahiaa
