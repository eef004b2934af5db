/-
  PoolFew's two pools, by their words.
-/
import Derived.Test.YtnpgmiokimahiaaPs
import Derived.Test.YtnpgmiokimahiaaVr
namespace Go.Proofs.Ytnpgmiokimahiaa
set_option maxRecDepth 100000
set_option linter.unusedVariables false
open Go.RowKit Pl

/-- so many sectors are written, each with its number and one -/
structure Fw (D : Dv) (j : Nat) : Prop where
  free : D.Free
  n : D.n = 8
  spent : D.spent = j
  sec : ∀ i, i < j → sec D i = Dv.pad [UInt8.ofNat (i + 1)]
theorem Fw.zero : Fw (Dv.fresh 8) 0 := ⟨Dv.free_fresh 8, rfl, rfl, fun _ h => by omega⟩
theorem Fw.step {D : Dv} {j : Nat} (h : Fw D j) (hj : j < 8) : Fw (D.write (j : Int) [UInt8.ofNat (j + 1)]) (j + 1) := by
  obtain ⟨w1, w2, w3, _⟩ := free_write h.free (i := j) (by rw [h.n]; exact hj) (b := [UInt8.ofNat (j + 1)]) (by simp)
  refine ⟨w1, w2.trans h.n, by rw [w3, h.spent], fun i hi => ?_⟩
  rw [sec_write_pad h.free (by rw [h.n]; exact hj) (by simp)]
  by_cases e : i = j
  · subst e; rw [if_pos rfl]
  · rw [if_neg e]; exact h.sec i (by omega)

def cntM (met : Nat → Bool) : Nat := ((List.range 8).filter met).length
def meet (met : Nat → Bool) (i : Nat) : Nat → Bool := fun j => if j = i then true else met j
theorem meet_met {met : Nat → Bool} {i : Nat} (h : met i = true) : meet met i = met := by
  funext j
  unfold meet
  split
  · next e => rw [e, h]
  · rfl
theorem cntM_new {met : Nat → Bool} {i : Nat} (hi : i < 8) (h : met i = false) : cntM (meet met i) = cntM met + 1 :=
  filter_upd_len 8 met (meet met i) i hi h (if_pos rfl) (fun j hj => if_neg hj)
theorem cntM_le (met : Nat → Bool) : cntM met ≤ 8 := by
  have := List.length_filter_le met (List.range 8)
  rw [List.length_range] at this
  exact this
/-- how many were met then -/
def nextN (met : Nat → Bool) (i n : Nat) : Nat := if met i = true then n else n + 1

/-- the pool with room for all -/
def mA (D : Dv) (met : Nat → Bool) (n : Nat) : Pm := ⟨fun i => if i < 8 ∧ met i = true then some ⟨sec D i, false, 0, 0⟩ else none, 8, 0, n⟩
theorem mA_zero (D : Dv) : mA D (fun _ => false) 0 = new_ 8 := pm_ext (fun i => if_neg (by simp)) rfl rfl rfl
theorem mA_keys (D : Dv) (met : Nat → Bool) (n : Nat) : (keys 8 (mA D met n).F).length = cntM met := by
  unfold keys cntM
  congr 1
  apply List.filter_congr
  intro i hi
  have h8 := List.mem_range.1 hi
  show (if i < 8 ∧ met i = true then some _ else none).isSome = met i
  cases h : met i with
  | true => rw [if_pos ⟨h8, rfl⟩]; rfl
  | false => rw [if_neg (by simp)]; rfl
theorem mA_get {D : Dv} {met : Nat → Bool} {i : Nat} {E : Int} {D' : Dv} {m' : Pm} (hn : D.n = 8) (hi : i < 8) (h : Held D (mA D met (cntM met)) i E D' m') : E = 0 ∧ D' = D ∧ m' = mA D (meet met i) (cntM (meet met i)) ∧ cntM (meet met i) = nextN met i (cntM met) := by
  cases hm : met i with
  | true =>
    have hf : (mA D met (cntM met)).F i = some ⟨sec D i, false, 0, 0⟩ := if_pos ⟨hi, hm⟩
    obtain ⟨h1, h2, h3⟩ := h.same _ hf
    refine ⟨h3, h1, by rw [h2, meet_met hm], ?_⟩
    unfold nextN
    rw [meet_met hm, if_pos hm]
  | false =>
    have hf : (mA D met (cntM met)).F i = none := if_neg (by rw [hm]; simp)
    have hc := cntM_new hi hm
    have hle := cntM_le (meet met i)
    obtain ⟨h1, h2, h3⟩ := h.wide hf (by rw [hn, mA_keys]; show cntM met < 8; omega)
    refine ⟨h3, h2, ?_, ?_⟩
    · rw [h1]
      refine pm_ext (fun j => ?_) rfl rfl (by show cntM met + 1 = _; rw [hc]; rfl)
      by_cases e : j = i
      · subst e
        rw [take_same]
        exact (if_pos ⟨hi, if_pos rfl⟩).symm
      · rw [take_ne _ _ e]
        show (if j < 8 ∧ met j = true then _ else _) = if j < 8 ∧ (meet met i) j = true then _ else _
        have : meet met i j = met j := if_neg e
        rw [this]
    · unfold nextN
      rw [hc, hm]
      rfl
theorem mA_cur (D : Dv) (met : Nat → Bool) (n i : Nat) : cur D (mA D met n) i = sec D i := by
  by_cases h : i < 8 ∧ met i = true
  · exact cur_some (f := ⟨sec D i, false, 0, 0⟩) (if_pos h)
  · exact cur_none (if_neg h)
theorem mA_dirt (D : Dv) (met : Nat → Bool) (n : Nat) : dirt 8 (mA D met n).F = [] := by
  unfold dirt
  rw [List.filter_eq_nil_iff]
  intro i _
  show ¬ isDirty (if i < 8 ∧ met i = true then some _ else none) = true
  split <;> simp [isDirty]

/-- the pool with less -/
structure FB (met : Nat → Bool) (k j n : Nat) (m : Pm) : Prop where
  room : m.room = k
  fr : ∀ i f, m.F i = some f → f.dirty = false ∧ f.pins = 0 ∧ met i = true
  lo : n ≤ m.reads
  hi : m.reads ≤ j
theorem FB.zero (k : Nat) : FB (fun _ => false) k 0 0 (new_ k) := ⟨rfl, fun _ _ h => (by cases h), Nat.le_refl _, Nat.le_refl _⟩
theorem FB.get {D : Dv} {met : Nat → Bool} {k j n i : Nat} {m : Pm} {E : Int} {D' : Dv} {m' : Pm} (hb : FB met k j n m) (hk : 1 ≤ k) (h : Held D m i E D' m') : E = 0 ∧ D' = D ∧ FB (meet met i) k (j + 1) (nextN met i n) m' := by
  have hE : E = 0 := by
    rcases h.e with e | e
    · exact e
    · obtain ⟨_, _, _, h1, h2⟩ := h.full e
      rw [hb.room] at h1
      cases hks : keys D.n m.F with
      | nil => rw [hks] at h1; simp at h1; omega
      | cons a l =>
        have ha : a ∈ keys D.n m.F := by rw [hks]; exact List.mem_cons_self ..
        obtain ⟨_, ha2⟩ := mem_keys.1 ha
        obtain ⟨f, hf⟩ := Option.isSome_iff_exists.1 ha2
        obtain ⟨f1, f2, _⟩ := hb.fr a f hf
        exact absurd ⟨f2, fun hd => by rw [f1] at hd; cases hd⟩ (h2 a f hf)
  have hlo := hb.lo
  have hhi := hb.hi
  refine ⟨hE, h.dry (fun q f hq => (hb.fr q f hq).1), h.room.trans hb.room, fun q f hq => ?_, ?_, by have := h.reads; omega⟩
  · rcases h.old q f hq with h1 | ⟨rfl, _, h2, h3, _⟩
    · obtain ⟨f1, f2, f3⟩ := hb.fr q f h1
      exact ⟨f1, f2, by unfold meet; rw [f3]; simp⟩
    · exact ⟨h2, h3, if_pos rfl⟩
  · unfold nextN
    cases hm : met i with
    | true => simp only [if_true]; have := h.reads; omega
    | false =>
      simp only [Bool.false_eq_true, if_false]
      have hf : m.F i = none := by
        cases hfi : m.F i with
        | none => rfl
        | some f => have := (hb.fr i f hfi).2.2; rw [hm] at this; cases this
      have := h.new hf hE
      omega
theorem FB.dirt {met : Nat → Bool} {k j n : Nat} {m : Pm} (hb : FB met k j n m) (q : Nat) : Pl.dirt q m.F = [] := by
  unfold Pl.dirt
  rw [List.filter_eq_nil_iff]
  intro i _
  cases hfi : m.F i with
  | none => simp [isDirty]
  | some f => simp [isDirty, (hb.fr i f hfi).1]
theorem FB.cur {met : Nat → Bool} {k j n : Nat} {m : Pm} {D : Dv} (hb : FB met k j n m) (ha : Agree D m) (i : Nat) : Pl.cur D m i = sec D i := by
  cases hfi : m.F i with
  | none => exact cur_none hfi
  | some f => rw [cur_some hfi]; exact ha i f hfi (hb.fr i f hfi).1

end Go.Proofs.Ytnpgmiokimahiaa
