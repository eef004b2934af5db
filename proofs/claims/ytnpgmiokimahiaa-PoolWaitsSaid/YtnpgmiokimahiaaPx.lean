/-
  What put, pinned and cleaned come to on a device without a budget.
-/
import Derived.Test.YtnpgmiokimahiaaPm
namespace Go.Proofs.Ytnpgmiokimahiaa
set_option maxRecDepth 100000
set_option linter.unusedVariables false
open Go.RowKit

namespace Pl
open Dv

theorem count_le (n : Nat) (p q : Nat → Bool) (h : ∀ j, j < n → p j = true → q j = true) : ((List.range n).filter p).length ≤ ((List.range n).filter q).length := by
  rw [← List.countP_eq_length_filter, ← List.countP_eq_length_filter]
  exact List.countP_mono_left fun j hj hp => h j (List.mem_range.1 hj) hp

theorem dirt_le {n : Nat} {F G : Nat → Option Fr} (h : ∀ j f, G j = some f → f.dirty = true → F j = some f) : (dirt n G).length ≤ (dirt n F).length := by
  refine count_le n _ _ fun j hj hp => ?_
  cases hg : G j with
  | none => rw [hg] at hp; cases hp
  | some f =>
    rw [hg] at hp
    rw [h j f hg hp]
    exact hp

theorem Held.dirt {D : Dv} {m : Pm} {i : Nat} {E : Int} {D' : Dv} {m' : Pm} (h : Held D m i E D' m') : (dirt D.n m'.F).length ≤ (dirt D.n m.F).length := by
  refine dirt_le fun j f hj hd => ?_
  rcases h.old j f hj with h1 | ⟨_, _, h1, _⟩
  · exact h1
  · rw [h1] at hd; cases hd

/-- what put comes to on a device without a budget -/
structure Putd (D : Dv) (m : Pm) (i : Nat) (b : List UInt8) (lsn : Int) (E : Int) (D' : Dv) (m' : Pm) : Prop where
  e : E = 0 ∨ E = 5 ∨ (E = 1 ∧ 64 < b.length)
  free : D'.Free
  ok : D'.Ok
  n : D'.n = D.n
  mok : m'.Ok D.n
  agree : Agree D' m'
  cur : E ≠ 0 → ∀ j, j < D.n → cur D' m' j = cur D m j
  cur0 : E = 0 → b.length ≤ 64 ∧ ∀ j, j < D.n → Pl.cur D' m' j = if j = i then pad b else Pl.cur D m j
  room : m'.room = m.room
  safe : m'.safe = m.safe
  old : ∀ j f, m'.F j = some f → m.F j = some f ∨ (f.dirty = false ∧ f.pins = 0) ∨ (f.dirty = true ∧ (f.lsn = lsn ∨ ∃ g, m.F j = some g ∧ g.dirty = true ∧ f.lsn = g.lsn))
  spent : D'.spent = D.spent ∨ (D'.spent = D.spent + 1 ∧ ∃ j f, m.F j = some f ∧ f.dirty = true ∧ f.lsn ≤ m.safe)
  reads : m'.reads ≤ m.reads + 1
  dirt0 : E = 0 → (dirt D.n m'.F).length ≤ (dirt D.n m.F).length + 1
  dirt : E ≠ 0 → (dirt D.n m'.F).length ≤ (Pl.dirt D.n m.F).length
  wide : m.F i = none → (keys D.n m.F).length < m.room → b.length ≤ 64 → 0 ≤ lsn → E = 0 ∧ D' = D ∧ m' = (m.take D i).lay i b lsn

theorem put_putd {D : Dv} {m : Pm} {i : Nat} {b : List UInt8} {lsn E : Int} {D' : Dv} {m' : Pm} (h : PutR D m (i : Int) b lsn E D' m') (hi : i < D.n) (hl : 0 ≤ lsn ∧ lsn ≤ 9223372036854775807) (hf : D.Free) (hd : D.Ok) (hm : m.Ok D.n) (ha : Agree D m) : Putd D m i b lsn E D' m' := by
  cases h with
  | bad h =>
    have hb : 64 < b.length := by rcases h with h | h; exact h; omega
    exact ⟨.inr (.inr ⟨rfl, hb⟩), hf, hd, rfl, hm, ha, fun _ _ _ => rfl, fun h => (by omega), rfl, rfl, fun _ _ h => .inl h, .inl rfl, by omega, fun _ => by omega, fun _ => Nat.le_refl _, fun _ _ h1 _ => (by omega)⟩
  | no h hh he =>
    have H := hold_held hh hi hf hd hm ha
    have hrd := H.reads
    refine ⟨by rcases H.e with h | h; exact absurd h he; exact .inr (.inl h), H.free, H.ok, H.n, H.mok, H.agree, fun _ => H.cur, fun h => absurd h he, H.room, H.safe, ?_, H.spent, by omega, fun h => absurd h he, fun _ => H.dirt, fun h1 h2 _ _ => absurd (H.wide h1 h2).2.2 he⟩
    intro j f hj
    rcases H.old j f hj with h1 | ⟨_, _, h1, h2, _⟩
    · exact .inl h1
    · exact .inr (.inl ⟨h1, h2⟩)
  | yes h hh =>
    rename_i m1
    have H := hold_held hh hi hf hd hm ha
    obtain ⟨g, hg⟩ := H.has rfl
    have hN : ((i : Int)).toNat = i := Int.toNat_natCast i
    rw [hN]
    have hrd := H.reads
    have hlay : m1.lay i b lsn = m1.set i ⟨pad b, true, if g.dirty then max lsn g.lsn else lsn, g.pins⟩ := by unfold Pm.lay; rw [hg]
    rw [hlay]
    obtain ⟨g1, g2, g3, g4⟩ := H.mok.fr i g hg
    have hlsn : 0 ≤ (if g.dirty then max lsn g.lsn else lsn) ∧ (if g.dirty then max lsn g.lsn else lsn) ≤ 9223372036854775807 := by split <;> omega
    refine ⟨.inl rfl, H.free, H.ok, H.n, ⟨fun j f hj => ?_, H.mok.room, ?_, H.mok.safe⟩, fun j f hj hfd => ?_, fun h => absurd rfl h, fun _ => ⟨h.1, fun j hj => ?_⟩, H.room, H.safe, fun j f hj => ?_, H.spent, by show m1.reads ≤ _; omega, fun _ => ?_, fun h => absurd rfl h, fun h1 h2 _ _ => ?_⟩
    · by_cases e : j = i
      · subst e
        rw [set_same] at hj
        injection hj with hj
        subst hj
        exact ⟨g1, len_pad b h.1, hlsn⟩
      · rw [set_ne _ _ e] at hj
        exact H.mok.fr j f hj
    · have hle : (keys D.n (m1.set i ⟨pad b, true, if g.dirty then max lsn g.lsn else lsn, g.pins⟩).F).length ≤ (keys D.n m1.F).length := count_le _ _ _ fun j _ hp => by
        by_cases e : j = i
        · subst e; rw [hg]; rfl
        · rw [set_ne _ _ e] at hp; exact hp
      exact Nat.le_trans hle H.mok.few
    · by_cases e : j = i
      · subst e
        rw [set_same] at hj
        injection hj with hj
        subst hj
        cases hfd
      · rw [set_ne _ _ e] at hj
        exact H.agree j f hj hfd
    · by_cases e : j = i
      · subst e
        rw [if_pos rfl]
        exact cur_some (set_same _ _ _)
      · rw [if_neg e, ← H.cur j hj]
        unfold Pl.cur
        rw [set_ne _ _ e]
    · by_cases e : j = i
      · subst e
        rw [set_same] at hj
        injection hj with hj
        subst hj
        refine .inr (.inr ⟨rfl, ?_⟩)
        show (if g.dirty then max lsn g.lsn else lsn) = lsn ∨ _
        by_cases hgd : g.dirty = true
        · rw [if_pos hgd]
          rcases H.old j g hg with h1 | ⟨_, _, h1, _⟩
          · by_cases hx : g.lsn ≤ lsn
            · left; omega
            · right; exact ⟨g, h1, hgd, by show max lsn g.lsn = _; omega⟩
          · rw [h1] at hgd; cases hgd
        · left; rw [if_neg hgd]
      · rw [set_ne _ _ e] at hj
        rcases H.old j f hj with h1 | ⟨_, _, h1, h2, _⟩
        · exact .inl h1
        · exact .inr (.inl ⟨h1, h2⟩)
    · have h1 := filter_upd_le D.n (fun j => isDirty (m1.F j)) (fun j => isDirty ((m1.set i ⟨pad b, true, if g.dirty then max lsn g.lsn else lsn, g.pins⟩).F j)) i (fun j hj => by rw [set_ne _ _ hj])
      have h2 := H.dirt
      unfold Pl.dirt at *
      omega
    · obtain ⟨e1, e2, _⟩ := H.wide h1 h2
      refine ⟨rfl, e2, ?_⟩
      rw [← e1, hlay]

/-- what pinned comes to -/
theorem pin_held {D : Dv} {m : Pm} {i : Nat} {E : Int} {D' : Dv} {m' : Pm} (h : PinR D m (i : Int) E D' m') (hi : i < D.n) (hf : D.Free) (hd : D.Ok) (hm : m.Ok D.n) (ha : Agree D m) :
    ∃ m1, Held D m i E D' m1 ∧ ((E ≠ 0 ∧ m' = m1) ∨ (E = 0 ∧ ∃ g, m1.F i = some g ∧ m' = m1.set i { g with pins := g.pins + 1 })) := by
  cases h with
  | no hh he => exact ⟨_, hold_held hh hi hf hd hm ha, .inl ⟨he, rfl⟩⟩
  | yes hh =>
    rename_i m1
    have H := hold_held hh hi hf hd hm ha
    obtain ⟨g, hg⟩ := H.has rfl
    refine ⟨m1, H, .inr ⟨rfl, g, hg, ?_⟩⟩
    rw [Int.toNat_natCast]
    unfold Pm.pin
    rw [hg]

/-- frames with as many pins as may be: all else stays -/
theorem upd_ok {n : Nat} {m : Pm} (hm : m.Ok n) {i : Nat} {g g' : Fr} (hg : m.F i = some g) (h1 : g'.b = g.b) (h3 : g'.lsn = g.lsn) : (m.set i g').Ok n := by
  obtain ⟨a1, a2, a3, a4⟩ := hm.fr i g hg
  refine ⟨fun j f hj => ?_, hm.room, ?_, hm.safe⟩
  · by_cases e : j = i
    · subst e
      rw [set_same] at hj
      injection hj with hj
      subst hj
      exact ⟨a1, by rw [h1]; exact a2, by rw [h3]; exact a3, by rw [h3]; exact a4⟩
    · rw [set_ne _ _ e] at hj
      exact hm.fr j f hj
  · refine Nat.le_trans (count_le _ _ _ fun j _ hp => ?_) hm.few
    by_cases e : j = i
    · subst e; rw [hg]; rfl
    · rw [set_ne _ _ e] at hp; exact hp
theorem upd_agree {D : Dv} {m : Pm} (ha : Agree D m) {i : Nat} {g g' : Fr} (hg : m.F i = some g) (h1 : g'.b = g.b) (h2 : g'.dirty = g.dirty) : Agree D (m.set i g') := by
  intro j f hj hd
  by_cases e : j = i
  · subst e
    rw [set_same] at hj
    injection hj with hj
    subst hj
    rw [h1]
    exact ha j g hg (by rw [← h2]; exact hd)
  · rw [set_ne _ _ e] at hj
    exact ha j f hj hd
theorem upd_cur (D : Dv) {m : Pm} {i : Nat} {g g' : Fr} (hg : m.F i = some g) (h1 : g'.b = g.b) (j : Nat) : cur D (m.set i g') j = cur D m j := by
  by_cases e : j = i
  · subst e
    rw [cur_some hg, ← h1]
    exact cur_some (set_same _ _ _)
  · unfold cur
    rw [set_ne _ _ e]

/-! cleaned -/
def isClean (s : Int) (o : Option Fr) : Bool := match o with | some f => f.dirty && decide (f.lsn ≤ s) | none => false
def washed (s : Int) (o : Option Fr) : Option Fr := match o with | some f => if f.dirty = true ∧ f.lsn ≤ s then some { f with dirty := false } else some f | none => none

theorem washed_yes {s : Int} {f : Fr} (h : f.dirty = true ∧ f.lsn ≤ s) : washed s (some f) = some { f with dirty := false } := if_pos h
theorem washed_no {s : Int} {f : Fr} (h : ¬ (f.dirty = true ∧ f.lsn ≤ s)) : washed s (some f) = some f := if_neg h

theorem clean_free (s : Int) (n : Nat) : ∀ (l : List Nat) (D : Dv) (F : Nat → Option Fr), D.Free → D.Ok → D.n = n → l.Nodup → (∀ i f, F i = some f → i < n ∧ f.b.length = 64) →
    (cleanTo s l D F).1 = 0 ∧ (cleanTo s l D F).2.1.Free ∧ (cleanTo s l D F).2.1.Ok ∧ (cleanTo s l D F).2.1.n = n ∧ (cleanTo s l D F).2.1.spent = D.spent + (l.filter fun i => isClean s (F i)).length ∧
    (∀ i, (cleanTo s l D F).2.2 i = if i ∈ l then washed s (F i) else F i) ∧ (∀ i, sec (cleanTo s l D F).2.1 i = if i ∈ l ∧ isClean s (F i) = true then cur D ⟨F, 0, 0, 0⟩ i else sec D i)
  | [], D, F, hf, hd, hn, _, _ => ⟨rfl, hf, hd, hn, rfl, fun i => by simp [cleanTo], fun i => by simp [cleanTo]⟩
  | i :: l, D, F, hf, hd, hn, hnd, hF => by
    obtain ⟨hni, hnl⟩ := List.nodup_cons.1 hnd
    cases hi : F i with
    | none =>
      have e : cleanTo s (i :: l) D F = cleanTo s l D F := by simp [cleanTo, hi]
      rw [e]
      obtain ⟨c1, c2, c3, c4, c5, c6, c7⟩ := clean_free s n l D F hf hd hn hnl hF
      refine ⟨c1, c2, c3, c4, ?_, fun j => ?_, fun j => ?_⟩
      · rw [c5, List.filter_cons_of_neg (by simp [isClean, hi])]
      · rw [c6]
        by_cases ej : j = i
        · subst ej; rw [if_neg hni, if_pos (List.mem_cons_self ..), hi]; rfl
        · by_cases hj : j ∈ l
          · rw [if_pos hj, if_pos (List.mem_cons_of_mem _ hj)]
          · rw [if_neg hj, if_neg (by simp [ej, hj])]
      · rw [c7]
        by_cases ej : j = i
        · subst ej; rw [if_neg (fun h => hni h.1), if_neg (by rw [hi]; simp [isClean])]
        · by_cases hj : j ∈ l ∧ isClean s (F j) = true
          · rw [if_pos hj, if_pos ⟨List.mem_cons_of_mem _ hj.1, hj.2⟩]
          · rw [if_neg hj, if_neg (fun h => hj ⟨by simpa [ej] using h.1, h.2⟩)]
    | some f =>
      obtain ⟨hin, hb⟩ := hF i f hi
      by_cases hc : f.dirty = true ∧ f.lsn ≤ s
      · obtain ⟨w1, w2, w3, w4⟩ := free_write hf (i := i) (by omega) (b := f.b) (by omega)
        have e : cleanTo s (i :: l) D F = cleanTo s l (D.write (i : Int) f.b) (upd F i (some { f with dirty := false })) := by simp [cleanTo, hi, hc, w4]
        rw [e]
        have hs := fun q => sec_write hf (i := i) (by omega) hb q
        have hF' : ∀ j g, upd F i (some { f with dirty := false }) j = some g → j < n ∧ g.b.length = 64 := fun j g hj => by
          by_cases ej : j = i
          · subst ej
            rw [upd_same] at hj
            injection hj with hj
            subst hj
            exact ⟨hin, hb⟩
          · rw [upd_ne _ _ ej] at hj
            exact hF j g hj
        obtain ⟨c1, c2, c3, c4, c5, c6, c7⟩ := clean_free s n l (D.write (i : Int) f.b) (upd F i (some { f with dirty := false })) w1 (hd.write _ _) (by rw [w2]; exact hn) hnl hF'
        have hne : ∀ j, j ∈ l → j ≠ i := fun j hj e => hni (e ▸ hj)
        refine ⟨c1, c2, c3, c4, ?_, fun j => ?_, fun j => ?_⟩
        · have hfl : (l.filter fun j => isClean s (upd F i (some { f with dirty := false }) j)) = l.filter fun j => isClean s (F j) := by
            apply List.filter_congr
            intro j hj
            rw [upd_ne _ _ (hne j hj)]
          have hci : isClean s (F i) = true := by rw [hi]; simp [isClean, hc]
          rw [c5, w3, hfl, List.filter_cons_of_pos (p := fun j => isClean s (F j)) hci, List.length_cons]
          omega
        · rw [c6]
          by_cases ej : j = i
          · subst ej
            rw [if_neg hni, upd_same, if_pos (List.mem_cons_self ..), hi]
            exact (washed_yes hc).symm
          · rw [upd_ne _ _ ej]
            by_cases hj : j ∈ l
            · rw [if_pos hj, if_pos (List.mem_cons_of_mem _ hj)]
            · rw [if_neg hj, if_neg (by simp [ej, hj])]
        · rw [c7]
          by_cases ej : j = i
          · subst ej
            rw [if_neg (fun h => hni h.1), hs, if_pos rfl, if_pos ⟨List.mem_cons_self .., by rw [hi]; simp [isClean, hc]⟩]
            exact (cur_some hi).symm
          · rw [upd_ne _ _ ej, hs, if_neg ej]
            by_cases hj : j ∈ l ∧ isClean s (F j) = true
            · rw [if_pos hj, if_pos ⟨List.mem_cons_of_mem _ hj.1, hj.2⟩]
              have hcl := hj.2
              cases hfj : F j with
              | none => rw [hfj] at hcl; cases hcl
              | some g => rw [cur_some (m := ⟨F, 0, 0, 0⟩) hfj]; exact cur_some ((upd_ne _ _ ej).trans hfj)
            · rw [if_neg hj, if_neg (fun h => hj ⟨by simpa [ej] using h.1, h.2⟩)]
      · have e : cleanTo s (i :: l) D F = cleanTo s l D F := by simp only [cleanTo, hi]; rw [if_neg hc]
        rw [e]
        obtain ⟨c1, c2, c3, c4, c5, c6, c7⟩ := clean_free s n l D F hf hd hn hnl hF
        have hci : isClean s (F i) = false := by rw [hi]; unfold isClean; rcases hx : f.dirty with _ | _ <;> simp_all
        refine ⟨c1, c2, c3, c4, ?_, fun j => ?_, fun j => ?_⟩
        · rw [c5, List.filter_cons_of_neg (by simp [hci])]
        · rw [c6]
          by_cases ej : j = i
          · subst ej; rw [if_neg hni, if_pos (List.mem_cons_self ..), hi]; exact (washed_no hc).symm
          · by_cases hj : j ∈ l
            · rw [if_pos hj, if_pos (List.mem_cons_of_mem _ hj)]
            · rw [if_neg hj, if_neg (by simp [ej, hj])]
        · rw [c7]
          by_cases ej : j = i
          · subst ej; rw [if_neg (fun h => hni h.1), if_neg (by rw [hci]; simp)]
          · by_cases hj : j ∈ l ∧ isClean s (F j) = true
            · rw [if_pos hj, if_pos ⟨List.mem_cons_of_mem _ hj.1, hj.2⟩]
            · rw [if_neg hj, if_neg (fun h => hj ⟨by simpa [ej] using h.1, h.2⟩)]

/-- what Clean comes to on a device without a budget -/
structure Cleaned (D : Dv) (m : Pm) (E : Int) (D' : Dv) (m' : Pm) : Prop where
  e : E = 0
  free : D'.Free
  ok : D'.Ok
  n : D'.n = D.n
  mok : m'.Ok D.n
  agree : Agree D' m'
  cur : ∀ j, cur D' m' j = cur D m j
  room : m'.room = m.room
  safe : m'.safe = m.safe
  reads : m'.reads = m.reads
  F : ∀ i, m'.F i = washed m.safe (m.F i)
  sec : ∀ i, sec D' i = if isClean m.safe (m.F i) = true then Pl.cur D m i else sec D i
  spent : D'.spent = D.spent + ((List.range D.n).filter fun i => isClean m.safe (m.F i)).length

theorem clean_cleaned {D : Dv} {m : Pm} (hf : D.Free) (hd : D.Ok) (hm : m.Ok D.n) (ha : Agree D m) : Cleaned D m (clean D m).1 (clean D m).2.1 { m with F := (clean D m).2.2 } := by
  obtain ⟨c1, c2, c3, c4, c5, c6, c7⟩ := clean_free m.safe D.n (dirt D.n m.F) D m.F hf hd rfl (List.nodup_range.filter _) (fun i f h => ⟨(hm.fr i f h).1, (hm.fr i f h).2.1⟩)
  unfold clean
  have hin : ∀ i, isClean m.safe (m.F i) = true → i ∈ dirt D.n m.F := fun i h => by
    cases hfi : m.F i with
    | none => rw [hfi] at h; cases h
    | some f =>
      rw [hfi] at h
      exact mem_dirt.2 ⟨(hm.fr i f hfi).1, by rw [hfi]; unfold isClean at h; simp at h; exact h.1⟩
  have hF : ∀ i, (cleanTo m.safe (dirt D.n m.F) D m.F).2.2 i = washed m.safe (m.F i) := fun i => by
    rw [c6]
    by_cases h : i ∈ dirt D.n m.F
    · rw [if_pos h]
    · rw [if_neg h]
      cases hfi : m.F i with
      | none => rfl
      | some f =>
        refine (washed_no ?_).symm
        intro hc
        exact h (mem_dirt.2 ⟨(hm.fr i f hfi).1, by rw [hfi]; exact hc.1⟩)
  have hS : ∀ i, sec (cleanTo m.safe (dirt D.n m.F) D m.F).2.1 i = if isClean m.safe (m.F i) = true then cur D m i else sec D i := fun i => by
    rw [c7]
    by_cases h : isClean m.safe (m.F i) = true
    · rw [if_pos ⟨hin i h, h⟩, if_pos h]; rfl
    · rw [if_neg (fun k => h k.2), if_neg h]
  have hcnt : ((dirt D.n m.F).filter fun i => isClean m.safe (m.F i)) = (List.range D.n).filter fun i => isClean m.safe (m.F i) := by
    unfold dirt
    rw [List.filter_filter]
    apply List.filter_congr
    intro j _
    cases hfj : m.F j with
    | none => rfl
    | some f => show ((f.dirty && decide (f.lsn ≤ m.safe)) && f.dirty) = (f.dirty && decide (f.lsn ≤ m.safe)); cases f.dirty <;> simp
  generalize cleanTo m.safe (dirt D.n m.F) D m.F = R at *
  refine ⟨c1, c2, c3, c4, ⟨fun i f hi => ?_, hm.room, ?_, hm.safe⟩, fun i f hi hfd => ?_, fun j => ?_, rfl, rfl, rfl, hF, hS, by rw [c5, hcnt]⟩
  · replace hi : R.2.2 i = some f := hi
    rw [hF] at hi
    cases hfi : m.F i with
    | none => rw [hfi] at hi; cases hi
    | some g =>
      rw [hfi] at hi
      have := hm.fr i g hfi
      by_cases hc : g.dirty = true ∧ g.lsn ≤ m.safe
      · rw [washed_yes hc] at hi; injection hi with hi; subst hi; exact this
      · rw [washed_no hc] at hi; injection hi with hi; subst hi; exact this
  · refine Nat.le_trans (count_le _ _ _ fun j _ hp => ?_) hm.few
    replace hp : (R.2.2 j).isSome = true := hp
    rw [hF] at hp
    cases hfj : m.F j with
    | none => rw [hfj] at hp; exact hp
    | some g => rfl
  · replace hi : R.2.2 i = some f := hi
    rw [hF] at hi
    rw [hS]
    cases hfi : m.F i with
    | none => rw [hfi] at hi; cases hi
    | some g =>
      rw [hfi] at hi
      by_cases hc : g.dirty = true ∧ g.lsn ≤ m.safe
      · rw [washed_yes hc] at hi
        injection hi with hi
        subst hi
        rw [if_pos (by simp [isClean, hc])]
        exact (cur_some hfi).symm
      · rw [washed_no hc] at hi
        injection hi with hi
        subst hi
        rw [if_neg (by show ¬ ((g.dirty && decide (g.lsn ≤ m.safe)) = true); rw [hfd]; simp)]
        exact ha i g hfi hfd
  · cases hfj : m.F j with
    | none =>
      rw [cur_none hfj]
      refine (cur_none (show R.2.2 j = none from by rw [hF, hfj]; rfl)).trans ?_
      rw [hS, if_neg (by rw [hfj]; simp [isClean])]
    | some g =>
      rw [cur_some hfj]
      by_cases hc : g.dirty = true ∧ g.lsn ≤ m.safe
      · exact cur_some (f := { g with dirty := false }) ((hF j).trans (by rw [hfj, washed_yes hc]))
      · exact cur_some ((hF j).trans (by rw [hfj, washed_no hc]))

end Pl
end Go.Proofs.Ytnpgmiokimahiaa
