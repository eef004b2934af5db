/-
  PoolPins' pool, by its words: one sector is pinned, none is dirty.
-/
import Derived.Test.YtnpgmiokimahiaaPs
namespace Go.Proofs.Ytnpgmiokimahiaa
set_option maxRecDepth 100000
set_option linter.unusedVariables false
open Go.RowKit Pl

structure PI (a k t r : Nat) (m : Pm) : Prop where
  room : m.room = k
  dry : ∀ i f, m.F i = some f → f.dirty = false ∧ (i ≠ a → f.pins = 0)
  pin : ∃ g, m.F a = some g ∧ g.pins = t
  reads : m.reads ≤ r

theorem PI.pins {a k t r : Nat} {m : Pm} (h : PI a k t r m) : ∀ i f, m.F i = some f → f.pins ≤ t := fun i f hf => by
  by_cases e : i = a
  · subst e
    obtain ⟨g, hg, hp⟩ := h.pin
    rw [hf] at hg
    injection hg with hg
    subst hg
    omega
  · have := (h.dry i f hf).2 e; omega

theorem PI.start {a k : Nat} {D : Dv} {E : Int} {D' : Dv} {m1 m' : Pm} (hk : 1 ≤ k) (h : Held D (new_ k) a E D' m1) (hm : (E ≠ 0 ∧ m' = m1) ∨ (E = 0 ∧ ∃ g, m1.F a = some g ∧ m' = m1.set a { g with pins := g.pins + 1 })) : E = 0 ∧ D' = D ∧ PI a k 1 1 m' := by
  have hl : (keys D.n (new_ k).F).length < (new_ k).room := by
    have : keys D.n (new_ k).F = [] := List.filter_eq_nil_iff.2 (fun _ _ => by simp [new_])
    rw [this]
    exact hk
  obtain ⟨h1, h2, h3⟩ := h.wide rfl hl
  refine ⟨h3, h2, ?_⟩
  rcases hm with ⟨h4, _⟩ | ⟨_, g, hg, rfl⟩
  · exact absurd h3 h4
  · rw [h1, take_same] at hg
    injection hg with hg
    subst hg
    rw [h1]
    refine ⟨rfl, fun i f hf => ?_, ⟨_, set_same _ _ _, rfl⟩, Nat.le_refl _⟩
    by_cases e : i = a
    · subst e
      rw [set_same] at hf
      injection hf with hf
      subst hf
      exact ⟨rfl, fun h => absurd rfl h⟩
    · rw [set_ne _ _ e, take_ne _ _ e] at hf
      cases hf

theorem PI.repin {a k t r : Nat} {m : Pm} (h : PI a k t r m) {g : Fr} (hg : m.F a = some g) (p : Nat) : PI a k p r (m.set a { g with pins := p }) := by
  refine ⟨h.room, fun i f hf => ?_, ⟨_, set_same _ _ _, rfl⟩, h.reads⟩
  by_cases e : i = a
  · subst e
    rw [set_same] at hf
    injection hf with hf
    subst hf
    exact ⟨(h.dry i g hg).1, fun h => absurd rfl h⟩
  · rw [set_ne _ _ e] at hf
    exact h.dry i f hf

theorem PI.more {a k t r : Nat} {m : Pm} (hi : PI a k t r m) {D : Dv} {E : Int} {D' : Dv} {m1 m' : Pm} (h : Held D m a E D' m1) (hm : (E ≠ 0 ∧ m' = m1) ∨ (E = 0 ∧ ∃ g, m1.F a = some g ∧ m' = m1.set a { g with pins := g.pins + 1 })) : E = 0 ∧ D' = D ∧ PI a k (t + 1) r m' := by
  obtain ⟨g, hg, hp⟩ := hi.pin
  obtain ⟨h1, h2, h3⟩ := h.same g hg
  refine ⟨h3, h1, ?_⟩
  rcases hm with ⟨h4, _⟩ | ⟨_, g', hg', rfl⟩
  · exact absurd h3 h4
  · rw [h2] at hg' ⊢
    rw [hg] at hg'
    injection hg' with hg'
    subst hg'
    have := hi.repin hg (g.pins + 1)
    rw [hp] at this ⊢
    exact this

theorem PI.get {a k t r b : Nat} {m : Pm} (hi : PI a k t r m) (ht : 1 ≤ t) {D : Dv} {E : Int} {D' : Dv} {m' : Pm} (h : Held D m b E D' m') : D' = D ∧ PI a k t (r + 1) m' ∧ (E = 0 ∨ (E = 5 ∧ k ≤ 1 ∧ b ≠ a)) := by
  obtain ⟨g, hg, hp⟩ := hi.pin
  have hr := hi.reads
  refine ⟨h.dry (fun j f hj => (hi.dry j f hj).1), ⟨h.room.trans hi.room, fun i f hf => ?_, ?_, by have := h.reads; omega⟩, ?_⟩
  · rcases h.old i f hf with h1 | ⟨_, _, h2, h3, _⟩
    · exact hi.dry i f h1
    · exact ⟨h2, fun _ => h3⟩
  · rcases h.left a g hg with h1 | h1
    · exact ⟨g, h1, hp⟩
    · have := h1.1; omega
  · rcases h.e with h1 | h1
    · exact .inl h1
    · obtain ⟨_, _, h2, h3, h4⟩ := h.full h1
      refine .inr ⟨h1, ?_, fun e => by rw [e, hg] at h2; cases h2⟩
      have hone : ∀ j, j ∈ keys D.n m.F → j = a := fun j hj => by
        obtain ⟨_, hj2⟩ := mem_keys.1 hj
        obtain ⟨f, hf⟩ := Option.isSome_iff_exists.1 hj2
        refine Classical.byContradiction fun e => h4 j f hf ⟨(hi.dry j f hf).2 e, fun hd => ?_⟩
        rw [(hi.dry j f hf).1] at hd
        cases hd
      have hnd := keys_nodup D.n m.F
      rw [hi.room] at h3
      have hlen : (keys D.n m.F).length ≤ 1 := by
        cases hks : keys D.n m.F with
        | nil => simp
        | cons x l =>
          cases l with
          | nil => simp
          | cons y l' =>
            rw [hks] at hone hnd
            have e1 := hone x (by simp)
            have e2 := hone y (by simp)
            rw [e1, e2] at hnd
            simp at hnd
      omega
theorem PI.mem {a k t r n : Nat} {m : Pm} (hi : PI a k t r m) (ha : a < n) : a ∈ keys n m.F := by
  obtain ⟨g, hg, _⟩ := hi.pin
  exact mem_keys.2 ⟨ha, by rw [hg]; rfl⟩
theorem PI.unpin {a k t r : Nat} {m : Pm} (hi : PI a k (t + 1) r m) : unpinE m (a : Int) = 0 ∧ PI a k t r (m.unpin (a : Int)) := by
  obtain ⟨g, hg, hp⟩ := hi.pin
  have h0 : ¬ ((a : Int) < 0) := by omega
  constructor
  · unfold unpinE
    rw [if_neg h0, Int.toNat_natCast, hg]
    show (if g.pins = 0 then (7 : Int) else 0) = 0
    rw [if_neg (by omega)]
  · unfold Pm.unpin
    rw [if_neg h0, Int.toNat_natCast, hg]
    show PI a k t r (m.set a { g with pins := g.pins - 1 })
    have := hi.repin hg (g.pins - 1)
    rw [hp] at this ⊢
    exact this
theorem PI.last {a k r b : Nat} {m : Pm} (hi : PI a k 0 r m) {D : Dv} {E : Int} {D' : Dv} {m' : Pm} (h : Held D m b E D' m') : E = 0 ∧ D' = D ∧ unpinE m' (a : Int) = 7 ∧ m'.reads ≤ r + 1 ∧ ∀ i f, m'.F i = some f → f.pins = 0 := by
  obtain ⟨g, hg, hp⟩ := hi.pin
  have hr := hi.reads
  have h0 : ¬ ((a : Int) < 0) := by omega
  have hall : ∀ i f, m'.F i = some f → f.pins = 0 := fun i f hf => by
    rcases h.old i f hf with h1 | ⟨_, _, _, h3, _⟩
    · have := hi.pins i f h1; omega
    · exact h3
  refine ⟨?_, h.dry (fun j f hj => (hi.dry j f hj).1), ?_, by have := h.reads; omega, hall⟩
  · rcases h.e with h1 | h1
    · exact h1
    · obtain ⟨_, _, _, _, h4⟩ := h.full h1
      exact absurd ⟨hp, fun hd => by rw [(hi.dry a g hg).1] at hd; cases hd⟩ (h4 a g hg)
  · unfold unpinE
    rw [if_neg h0, Int.toNat_natCast]
    cases hf : m'.F a with
    | none => rfl
    | some f => show (if f.pins = 0 then (7 : Int) else 0) = 7; rw [if_pos (hall a f hf)]

end Go.Proofs.Ytnpgmiokimahiaa
