/-
  A pool's frames as memory has them, in a ring, and what they say of the pool by its words; the hand's way round. No program.
-/
import Derived.Test.YtnpgmiokimahiaaPx
namespace Go.Proofs.Ytnpgmiokimahiaa
set_option maxRecDepth 100000
set_option linter.unusedVariables false
open Go.RowKit Dv

namespace Pl

/-- a frame in a block -/
structure Fq where
  g : Nat
  at_ : Nat
  b : List UInt8
  dirty : Bool
  lsn : Int
  pins : Nat
  used : Bool

/-- it says the same as one by the words -/
structure Ag (f : Fr) (x : Fq) : Prop where
  b : f.b = x.b
  dirty : f.dirty = x.dirty
  pins : f.pins = x.pins
  lsn : x.lsn = if x.dirty = true then f.lsn else 0

/-- no two have the same -/
def Inj (f : Fq → Nat) (l : List Fq) : Prop := ∀ (i j : Nat) (x y : Fq), l[i]? = some x → l[j]? = some y → f x = f y → i = j
theorem Inj.nodup {f : Fq → Nat} {l : List Fq} (h : Inj f l) : (l.map f).Nodup := by
  rw [List.nodup_iff_pairwise_ne, List.pairwise_iff_getElem]
  intro i j hi hj hij e
  rw [List.length_map] at hi hj
  rw [List.getElem_map, List.getElem_map] at e
  have := h i j _ _ (List.getElem?_eq_getElem hi) (List.getElem?_eq_getElem hj) e
  omega
theorem Inj.set {f : Fq → Nat} {l : List Fq} (h : Inj f l) {k : Nat} {y : Fq} (hy : ∀ (i : Nat) (x : Fq), l[i]? = some x → i ≠ k → f x ≠ f y) : Inj f (l.set k y) := by
  intro i j a b hi hj e
  rw [List.getElem?_set] at hi hj
  by_cases e1 : k = i
  · by_cases e2 : k = j
    · omega
    · rw [if_neg e2] at hj
      rw [if_pos e1] at hi
      split at hi
      · injection hi with hi
        subst hi
        exact absurd e.symm (hy j b hj (fun e => e2 e.symm))
      · cases hi
  · rw [if_neg e1] at hi
    by_cases e2 : k = j
    · rw [if_pos e2] at hj
      split at hj
      · injection hj with hj
        subst hj
        exact absurd e (hy i a hi (fun e => e1 e.symm))
      · cases hj
    · rw [if_neg e2] at hj
      exact h i j a b hi hj e
theorem Inj.same {f : Fq → Nat} {l : List Fq} (h : Inj f l) {k : Nat} {x y : Fq} (hx : l[k]? = some x) (e : f y = f x) : Inj f (l.set k y) :=
  h.set fun i z hz hne e2 => hne (h i k z x hz hx (e2.trans e))
theorem Inj.snoc {f : Fq → Nat} {l : List Fq} (h : Inj f l) {y : Fq} (hy : ∀ x ∈ l, f x ≠ f y) : Inj f (l ++ [y]) := by
  intro i j a b hi hj e
  rw [List.getElem?_append] at hi hj
  split at hi
  · split at hj
    · exact h i j a b hi hj e
    · have : b = y := by
        cases hk : j - l.length with
        | zero => rw [hk] at hj; simpa using hj.symm
        | succ q => rw [hk] at hj; simp at hj
      subst this
      exact absurd e (hy a (List.mem_of_getElem? hi))
  · have ha : a = y ∧ i = l.length := by
      cases hk : i - l.length with
      | zero => rw [hk] at hi; exact ⟨by simpa using hi.symm, by omega⟩
      | succ q => rw [hk] at hi; simp at hi
    obtain ⟨rfl, rfl⟩ := ha
    split at hj
    · exact absurd e.symm (hy b (List.mem_of_getElem? hj))
    · cases hk : j - l.length with
      | zero => omega
      | succ q => rw [hk] at hj; simp at hj

/-- the frames of a pool on a device of n sectors -/
structure Ring (n : Nat) (m : Pm) (l : List Fq) : Prop where
  ok : m.Ok n
  has : ∀ x ∈ l, ∃ f, m.F x.at_ = some f ∧ Ag f x
  of : ∀ i f, m.F i = some f → ∃ x ∈ l, x.at_ = i
  ats : Inj Fq.at_ l
  gs : Inj Fq.g l

def mayF (s : Int) (x : Fq) : Bool := decide (x.pins = 0) && decide (x.lsn ≤ s)
def wipe (x : Fq) : Fq := { x with used := false }

section
variable {n : Nat} {m : Pm} {l l' : List Fq} {x y : Fq} {f : Fr}
theorem Ring.frame (h : Ring n m l) (hx : x ∈ l) (hf : m.F x.at_ = some f) : Ag f x := by
  obtain ⟨f', h1, h2⟩ := h.has x hx
  rw [hf] at h1
  injection h1 with h1
  rw [h1]; exact h2
theorem Ring.bd (h : Ring n m l) (hx : x ∈ l) : x.at_ < n ∧ x.b.length = 64 ∧ 0 ≤ x.lsn ∧ x.lsn ≤ 9223372036854775807 := by
  obtain ⟨f, h1, h2⟩ := h.has x hx
  obtain ⟨a, b, c, d⟩ := h.ok.fr _ _ h1
  refine ⟨a, by rw [← h2.b]; exact b, ?_, ?_⟩
  · rw [h2.lsn]; split <;> omega
  · rw [h2.lsn]; split <;> omega
theorem Ring.goes (h : Ring n m l) (hx : x ∈ l) (hf : m.F x.at_ = some f) : goes m.safe f ↔ mayF m.safe x = true := by
  have ha := h.frame hx hf
  have hs := h.ok.safe
  unfold Pl.goes mayF
  rw [Bool.and_eq_true, decide_eq_true_eq, decide_eq_true_eq, ha.pins, ha.dirty, ha.lsn]
  constructor
  · rintro ⟨h1, h2⟩
    refine ⟨h1, ?_⟩
    by_cases hd : x.dirty = true
    · rw [if_pos hd]; exact h2 hd
    · rw [if_neg hd]; exact hs.1
  · rintro ⟨h1, h2⟩
    refine ⟨h1, fun hd => ?_⟩
    rw [if_pos hd] at h2
    exact h2
theorem Ring.perm (h : Ring n m l) : (keys n m.F).Perm (l.map Fq.at_) := by
  rw [List.perm_ext_iff_of_nodup (keys_nodup n m.F) h.ats.nodup]
  intro i
  rw [mem_keys, List.mem_map]
  constructor
  · rintro ⟨h1, h2⟩
    obtain ⟨f, hf⟩ := Option.isSome_iff_exists.1 h2
    exact h.of i f hf
  · rintro ⟨x, hx, rfl⟩
    obtain ⟨f, hf, _⟩ := h.has x hx
    exact ⟨(h.bd hx).1, by rw [hf]; rfl⟩
theorem Ring.len (h : Ring n m l) : (keys n m.F).length = l.length := by have := h.perm.length_eq; rwa [List.length_map] at this
theorem Ring.few (h : Ring n m l) : l.length ≤ m.room ∧ l.length ≤ 64 := by
  have h1 := h.ok.few
  have h2 := h.ok.room
  rw [h.len] at h1
  omega
/-- sorted, the sectors are those that are held -/
theorem Ring.sorted (h : Ring n m l) (hp : l'.Perm l) (hs : l'.Pairwise fun x y => x.at_ ≤ y.at_) : l'.map Fq.at_ = keys n m.F := by
  refine List.Perm.eq_of_pairwise (le := fun a b : Nat => a ≤ b) (fun a b _ _ h1 h2 => by omega) ?_ ?_ ((hp.map _).trans h.perm.symm)
  · rw [List.pairwise_map]; exact hs
  · unfold keys
    exact (List.pairwise_le_range).filter _
/-- one says something else of its sector -/
theorem Ring.put (h : Ring n m l) {j : Nat} (hx : l[j]? = some x) (hg : y.g = x.g) (ha : y.at_ = x.at_) (hf : Ag f y) (hok : (m.set x.at_ f).Ok n) : Ring n (m.set x.at_ f) (l.set j y) := by
  have hj : j < l.length := (List.getElem?_eq_some_iff.1 hx).1
  refine ⟨hok, fun z hz => ?_, fun i q hq => ?_, h.ats.same hx ha, h.gs.same hx hg⟩
  · obtain ⟨k, hk⟩ := List.mem_iff_getElem?.1 hz
    rw [List.getElem?_set] at hk
    by_cases e : j = k
    · rw [if_pos e, if_pos hj] at hk
      injection hk with hk
      subst hk
      exact ⟨f, by rw [ha]; exact set_same _ _ _, hf⟩
    · rw [if_neg e] at hk
      have hne : z.at_ ≠ x.at_ := fun e2 => e (h.ats k j z x hk hx e2).symm
      obtain ⟨f', h1, h2⟩ := h.has z (List.mem_of_getElem? hk)
      exact ⟨f', by rw [set_ne _ _ hne]; exact h1, h2⟩
  · by_cases e : i = x.at_
    · exact ⟨y, List.mem_of_getElem? (i := j) (by rw [List.getElem?_set, if_pos rfl, if_pos hj]), by rw [e, ha]⟩
    · rw [set_ne _ _ e] at hq
      obtain ⟨z, hz, e2⟩ := h.of i q hq
      obtain ⟨k, hk⟩ := List.mem_iff_getElem?.1 hz
      have hne : j ≠ k := fun e3 => by
        subst e3
        rw [hx] at hk
        injection hk with hk
        subst hk
        exact e e2.symm
      exact ⟨z, List.mem_of_getElem? (i := k) (by rw [List.getElem?_set, if_neg hne]; exact hk), e2⟩
theorem set_ok (h : m.Ok n) {i : Nat} {f0 : Fr} (hf : m.F i = some f0) (h1 : f.b.length = 64) (h2 : 0 ≤ f.lsn) (h3 : f.lsn ≤ 9223372036854775807) : (m.set i f).Ok n := by
  refine ⟨fun j q hq => ?_, h.room, ?_, h.safe⟩
  · by_cases e : j = i
    · subst e
      rw [set_same] at hq
      injection hq with hq
      subst hq
      exact ⟨(h.fr j f0 hf).1, h1, h2, h3⟩
    · rw [set_ne _ _ e] at hq
      exact h.fr j q hq
  · have e : keys n (m.set i f).F = keys n m.F := by
      unfold keys
      apply List.filter_congr
      intro j _
      by_cases e : j = i
      · subst e; rw [set_same, hf]; rfl
      · rw [set_ne _ _ e]
    rw [e]; exact h.few
/-- one more -/
theorem Ring.add {D : Dv} (h : Ring D.n m l) (hd : D.Ok) {i g : Nat} (hi : i < D.n) (hf : m.F i = none) (hc : l.length < m.room) (hg : ∀ x ∈ l, x.g ≠ g) (u : Bool) : Ring D.n (m.take D i) (l ++ [⟨g, i, sec D i, false, 0, 0, u⟩]) := by
  have hna : ∀ x ∈ l, x.at_ ≠ i := fun x hx e => by
    obtain ⟨f, h1, _⟩ := h.has x hx
    rw [e, hf] at h1; cases h1
  refine ⟨take_ok hd h.ok hi hf (by rw [h.len]; exact hc), fun z hz => ?_, fun k q hq => ?_, h.ats.snoc hna, h.gs.snoc hg⟩
  · rcases List.mem_append.1 hz with hz | hz
    · obtain ⟨f, h1, h2⟩ := h.has z hz
      exact ⟨f, by rw [take_ne _ _ (hna z hz)]; exact h1, h2⟩
    · obtain rfl := List.mem_singleton.1 hz
      exact ⟨_, take_same _ _ _, rfl, rfl, rfl, rfl⟩
  · by_cases e : k = i
    · exact ⟨_, List.mem_append_right _ (List.mem_singleton.2 rfl), e.symm⟩
    · rw [take_ne _ _ e] at hq
      obtain ⟨z, hz, e2⟩ := h.of k q hq
      exact ⟨z, List.mem_append_left _ hz, e2⟩
/-- one in place of another; the device may have been written -/
theorem Ring.over {D : Dv} (h : Ring D.n m l) (hd : D.Ok) {i g j : Nat} (hx : l[j]? = some x) (hi : i < D.n) (hf : m.F i = none) (hg : ∀ x ∈ l, x.g ≠ g) (u : Bool) : Ring D.n ((m.drop x.at_).take D i) (l.set j ⟨g, i, sec D i, false, 0, 0, u⟩) := by
  have hj : j < l.length := (List.getElem?_eq_some_iff.1 hx).1
  have hna : ∀ x ∈ l, x.at_ ≠ i := fun x hx e => by
    obtain ⟨f, h1, _⟩ := h.has x hx
    rw [e, hf] at h1; cases h1
  have hxm := List.mem_of_getElem? hx
  obtain ⟨fx, hfx, _⟩ := h.has x hxm
  obtain ⟨o1, o2⟩ := drop_ok h.ok hfx
  have hff : (m.drop x.at_).F i = none := by rw [drop_ne _ (fun e => hna x hxm e.symm)]; exact hf
  refine ⟨take_ok hd o1 hi hff o2, fun z hz => ?_, fun k q hq => ?_, h.ats.set (fun k z hz _ => hna z (List.mem_of_getElem? hz)), h.gs.set (fun k z hz _ => hg z (List.mem_of_getElem? hz))⟩
  · obtain ⟨k, hk⟩ := List.mem_iff_getElem?.1 hz
    rw [List.getElem?_set] at hk
    by_cases e : j = k
    · rw [if_pos e, if_pos hj] at hk
      injection hk with hk
      subst hk
      exact ⟨_, take_same _ _ _, rfl, rfl, rfl, rfl⟩
    · rw [if_neg e] at hk
      have hzm := List.mem_of_getElem? hk
      have hne : z.at_ ≠ x.at_ := fun e2 => e (h.ats k j z x hk hx e2).symm
      obtain ⟨f', h1, h2⟩ := h.has z hzm
      exact ⟨f', by rw [take_ne _ _ (hna z hzm), drop_ne _ hne]; exact h1, h2⟩
  · by_cases e : k = i
    · exact ⟨_, List.mem_of_getElem? (i := j) (by rw [List.getElem?_set, if_pos rfl, if_pos hj]), e.symm⟩
    · rw [take_ne _ _ e] at hq
      by_cases e2 : k = x.at_
      · rw [e2, drop_same] at hq; cases hq
      · rw [drop_ne _ e2] at hq
        obtain ⟨z, hz, e3⟩ := h.of k q hq
        obtain ⟨k2, hk2⟩ := List.mem_iff_getElem?.1 hz
        have hne : j ≠ k2 := fun e4 => by
          subst e4
          rw [hx] at hk2
          injection hk2 with hk2
          subst hk2
          exact e2 e3.symm
        exact ⟨z, List.mem_of_getElem? (i := k2) (by rw [List.getElem?_set, if_neg hne]; exact hk2), e3⟩
theorem Ring.safe (h : Ring n m l) {s : Int} (hs : 0 ≤ s ∧ s ≤ 9223372036854775807) : Ring n { m with safe := s } l :=
  ⟨⟨h.ok.fr, h.ok.room, h.ok.few, hs⟩, h.has, h.of, h.ats, h.gs⟩
theorem ring_new {room n : Nat} (hr : 1 ≤ room ∧ room ≤ 64) : Ring n (new_ room) [] :=
  ⟨⟨fun i f h => (by cases h), hr, (by unfold keys new_; simp only [Option.isSome_none]; rw [List.filter_eq_nil_iff.2 (fun i _ => by simp)]; exact Nat.zero_le _), ⟨by show (0 : Int) ≤ 0; omega, by show (0 : Int) ≤ _; omega⟩⟩,
    fun x hx => (by cases hx), fun i f h => (by cases h), fun i j x y h => (by simp at h), fun i j x y h => (by simp at h)⟩
end

/-- the same frames but for what was used lately -/
def Sm (l l' : List Fq) : Prop := l'.map wipe = l.map wipe
section
variable {n : Nat} {m : Pm} {l l' l2 : List Fq} {x y : Fq} {f : Fr} {s : Int}
theorem Sm.refl (l : List Fq) : Sm l l := rfl
theorem Sm.trans (h : Sm l l') (k : Sm l' l2) : Sm l l2 := Eq.trans k h
theorem Sm.len (h : Sm l l') : l'.length = l.length := by have := congrArg List.length h; simpa using this
theorem Sm.get (h : Sm l l') {i : Nat} (hx : l'[i]? = some x) : ∃ y, l[i]? = some y ∧ wipe x = wipe y := by
  have e : (l'.map wipe)[i]? = (l.map wipe)[i]? := by rw [show l'.map wipe = l.map wipe from h]
  rw [List.getElem?_map, List.getElem?_map, hx] at e
  cases hy : l[i]? with
  | none => rw [hy] at e; cases e
  | some y => rw [hy] at e; exact ⟨y, rfl, Option.some.inj e⟩
theorem Sm.symm (h : Sm l l') : Sm l' l := Eq.symm h
theorem wipe_g (h : wipe x = wipe y) : x.g = y.g := by have := congrArg Fq.g h; exact this
theorem wipe_at (h : wipe x = wipe y) : x.at_ = y.at_ := by have := congrArg Fq.at_ h; exact this
theorem wipe_may (h : wipe x = wipe y) : mayF s x = mayF s y := by
  have h1 : x.pins = y.pins := by have e := congrArg Fq.pins h; exact e
  have h2 : x.lsn = y.lsn := by have e := congrArg Fq.lsn h; exact e
  unfold mayF
  rw [h1, h2]
theorem wipe_ag (h : wipe x = wipe y) (ha : Ag f y) : Ag f x := by
  have h1 : x.pins = y.pins := by have e := congrArg Fq.pins h; exact e
  have h2 : x.lsn = y.lsn := by have e := congrArg Fq.lsn h; exact e
  have h3 : x.b = y.b := by have e := congrArg Fq.b h; exact e
  have h4 : x.dirty = y.dirty := by have e := congrArg Fq.dirty h; exact e
  exact ⟨by rw [h3]; exact ha.b, by rw [h4]; exact ha.dirty, by rw [h1]; exact ha.pins, by rw [h2, h4]; exact ha.lsn⟩
theorem Sm.gs (h : Sm l l') : l'.map Fq.g = l.map Fq.g := by
  have e := congrArg (List.map Fq.g) (show l'.map wipe = l.map wipe from h)
  rw [List.map_map, List.map_map] at e
  exact e
theorem Sm.mem (h : Sm l l') (hx : x ∈ l') : ∃ y ∈ l, wipe x = wipe y := by
  obtain ⟨k, hk⟩ := List.mem_iff_getElem?.1 hx
  obtain ⟨y, hy, e⟩ := h.get hk
  exact ⟨y, List.mem_of_getElem? hy, e⟩
theorem Sm.inj (h : Sm l l') {f : Fq → Nat} (hf : ∀ x y, wipe x = wipe y → f x = f y) (k : Inj f l) : Inj f l' := by
  intro i j a b hi hj e
  obtain ⟨a', ha, ea⟩ := h.get hi
  obtain ⟨b', hb, eb⟩ := h.get hj
  exact k i j a' b' ha hb ((hf _ _ ea).symm.trans (e.trans (hf _ _ eb)))
theorem Ring.same (h : Ring n m l) (k : Sm l l') : Ring n m l' := by
  refine ⟨h.ok, fun z hz => ?_, fun i q hq => ?_, k.inj (fun _ _ => wipe_at) h.ats, k.inj (fun _ _ => wipe_g) h.gs⟩
  · obtain ⟨y, hy, e⟩ := k.mem hz
    obtain ⟨f, h1, h2⟩ := h.has y hy
    exact ⟨f, by rw [wipe_at e]; exact h1, wipe_ag e h2⟩
  · obtain ⟨z, hz, e⟩ := h.of i q hq
    obtain ⟨y, hy, e2⟩ := k.symm.mem hz
    exact ⟨y, hy, (wipe_at e2).symm.trans e⟩
theorem Sm.set {j : Nat} (hx : l[j]? = some x) (e : wipe y = wipe x) : Sm l (l.set j y) := by
  unfold Sm
  rw [List.map_set, e]
  apply List.ext_getElem?
  intro i
  rw [List.getElem?_set]
  by_cases h : j = i
  · subst h
    rw [if_pos rfl, List.length_map, if_pos (List.getElem?_eq_some_iff.1 hx).1, List.getElem?_map, hx]; rfl
  · rw [if_neg h]
end

/-- the hand has been at k frames, from h on, and none went -/
structure Round (s : Int) (l0 : List Fq) (h k : Nat) (l : List Fq) : Prop where
  sm : Sm l0 l
  cold : ∀ (i : Nat) (x : Fq), i < k → l[(h + i) % l0.length]? = some x → mayF s x = true → x.used = false
  none : ∀ (i : Nat) (x : Fq), i < k → l0.length ≤ i → l[(h + i) % l0.length]? = some x → mayF s x = false
section
variable {s : Int} {l0 l : List Fq} {h k : Nat} {x : Fq}
theorem Round.zero : Round s l0 h 0 l0 := ⟨Sm.refl _, fun _ _ h => (by omega), fun _ _ h => (by omega)⟩
theorem Round.late (r : Round s l0 h k l) (hN : l0.length ≤ k) (h0 : 0 < l0.length) (hx : l[(h + k) % l0.length]? = some x) (hm : mayF s x = true) : x.used = false := by
  refine r.cold (k - l0.length) x (by omega) ?_ hm
  have e : (h + (k - l0.length)) % l0.length = (h + k) % l0.length := by
    have : h + k = (h + (k - l0.length)) + l0.length := by omega
    rw [this, Nat.add_mod_right]
  rw [e]; exact hx
/-- it may not go -/
theorem Round.pass (r : Round s l0 h k l) (hx : l[(h + k) % l0.length]? = some x) (hm : mayF s x = false) : Round s l0 h (k + 1) l := by
  refine ⟨r.sm, fun i z hi hz hzm => ?_, fun i z hi hN hz => ?_⟩
  · by_cases e : i = k
    · subst e
      rw [hx] at hz
      injection hz with hz
      subst hz
      rw [hm] at hzm; cases hzm
    · exact r.cold i z (by omega) hz hzm
  · by_cases e : i = k
    · subst e
      rw [hx] at hz
      injection hz with hz
      subst hz
      exact hm
    · exact r.none i z (by omega) hN hz
/-- it may, and was used lately -/
theorem Round.spare (r : Round s l0 h k l) (h0 : 0 < l0.length) (hx : l[(h + k) % l0.length]? = some x) (hm : mayF s x = true) (hu : x.used = true) : Round s l0 h (k + 1) (l.set ((h + k) % l0.length) (wipe x)) := by
  have hlt : k < l0.length := by
    rcases Nat.lt_or_ge k l0.length with h1 | h1
    · exact h1
    · have := r.late h1 h0 hx hm
      rw [hu] at this; cases this
  refine ⟨r.sm.trans (Sm.set hx rfl), fun i z hi hz hzm => ?_, fun i z hi hN hz => (by omega)⟩
  rw [List.getElem?_set] at hz
  split at hz
  · split at hz
    · injection hz with hz
      subst hz
      rfl
    · cases hz
  · next e =>
    have hne : i ≠ k := fun e2 => e (by rw [e2])
    exact r.cold i z (by omega) hz hzm
/-- twice round -/
theorem Round.twice (r : Round s l0 h (2 * l0.length) l) (hh : h = 0 ∨ h < l0.length) : ∀ x ∈ l0, mayF s x = false := by
  intro x hx
  obtain ⟨j, hj⟩ := List.mem_iff_getElem?.1 hx
  have hjl : j < l0.length := (List.getElem?_eq_some_iff.1 hj).1
  have hlt : h < l0.length := by omega
  have hl := r.sm.len
  obtain ⟨z, hz⟩ : ∃ z, l[j]? = some z := ⟨_, List.getElem?_eq_getElem (by omega)⟩
  obtain ⟨y, hy, e⟩ := r.sm.get hz
  rw [hj] at hy
  injection hy with hy
  subst hy
  rw [← wipe_may e]
  rcases Nat.lt_or_ge j h with h1 | h1
  · refine r.none (l0.length + (j + l0.length - h)) z (by omega) (by omega) ?_
    have e : h + (l0.length + (j + l0.length - h)) = j + l0.length + l0.length := by omega
    rw [e, Nat.add_mod_right, Nat.add_mod_right, Nat.mod_eq_of_lt hjl]
    exact hz
  · refine r.none (l0.length + (j - h)) z (by omega) (by omega) ?_
    have e : h + (l0.length + (j - h)) = j + l0.length := by omega
    rw [e, Nat.add_mod_right, Nat.mod_eq_of_lt hjl]
    exact hz
end

/-- cleaning goes by the sectors that are held as by those that are dirty -/
theorem cleanTo_filter (s : Int) : ∀ (l : List Nat) (D : Dv) (F : Nat → Option Fr), l.Nodup → cleanTo s (l.filter fun i => isDirty (F i)) D F = cleanTo s l D F
  | [], _, _, _ => rfl
  | i :: l, D, F, h => by
    have hn := List.nodup_cons.1 h
    rw [List.filter_cons]
    cases hf : F i with
    | none =>
      rw [if_neg (by rw [show isDirty none = false from rfl]; exact Bool.false_ne_true), cleanTo_filter s l D F hn.2]
      simp only [cleanTo, hf]
    | some f =>
      by_cases hd : f.dirty = true
      · rw [if_pos (show isDirty (some f) = true from hd)]
        simp only [cleanTo, hf]
        by_cases hc : f.dirty = true ∧ f.lsn ≤ s
        · rw [if_pos hc, if_pos hc]
          split
          · have e : l.filter (fun j => isDirty (F j)) = l.filter fun j => isDirty (upd F i (some { f with dirty := false }) j) := by
              apply List.filter_congr
              intro j hj
              rw [upd_ne _ _ (fun e => hn.1 (by rw [← e]; exact hj))]
            rw [e]
            exact cleanTo_filter s l _ _ hn.2
          · rfl
        · rw [if_neg hc, if_neg hc]
          exact cleanTo_filter s l D F hn.2
      · rw [if_neg (show ¬ isDirty (some f) = true from hd), cleanTo_filter s l D F hn.2]
        simp only [cleanTo, hf]
        rw [if_neg (fun h => hd h.1)]
theorem dirt_keys (n : Nat) (F : Nat → Option Fr) : dirt n F = (keys n F).filter fun i => isDirty (F i) := by
  unfold dirt keys
  rw [List.filter_filter]
  apply List.filter_congr
  intro i _
  cases F i with
  | none => rfl
  | some f => simp [isDirty]
theorem clean_keys (D : Dv) (m : Pm) : clean D m = cleanTo m.safe (keys D.n m.F) D m.F := by
  unfold clean
  rw [dirt_keys]
  exact cleanTo_filter _ _ _ _ (keys_nodup _ _)

end Pl
end Go.Proofs.Ytnpgmiokimahiaa
