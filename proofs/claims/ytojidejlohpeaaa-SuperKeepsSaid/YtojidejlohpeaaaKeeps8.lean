/-
  SuperKeeps, plain: behind whatever is lost in a save, one of the two is there.
-/
import Derived.Test.YtojidejlohpeaaaWake8
import Derived.Test.YtojidejlohpeaaaIn7
namespace Go.Proofs.Ytojidejlohpeaaa
set_option maxRecDepth 100000
open Go.RowKit Crc Wm Sup

namespace Dv
/-- the device is there, nothing is cached, and its sectors tell this one -/
structure Alive (D : Dv) (s : Sup) : Prop where
  n : D.n = 4
  up : D.gone = false
  late : ∀ i, D.late i = none
  holds : Holds D.laid s
/-- whatever is kept of what is cached: one of the two -/
structure Fin (D : Dv) (s t : Sup) : Prop where
  n : D.n = 4
  one : ∀ keep, Holds (D.crash keep).laid s ∨ Holds (D.crash keep).laid t

theorem Alive.fin {D : Dv} {s : Sup} (h : D.Alive s) : D.Fin s s := ⟨h.n, fun keep => .inl (by rw [crash_none h.late]; exact h.holds)⟩
theorem look_laid {D : Dv} (h : ∀ i, D.late i = none) : D.look = D.laid := by
  funext i
  unfold look
  rw [h i]
  rfl
/-- behind a crash -/
theorem Fin.load {D : Dv} {s t : Sup} (h : D.Fin s t) (keep : Nat → Bool) : (D.crash keep).ldE = 0 ∧ ((D.crash keep).ldS = s ∨ (D.crash keep).ldS = t) := by
  have hl : (D.crash keep).look = (D.crash keep).laid := look_laid (D := D.crash keep) (fun _ => rfl)
  have hn : 2 ≤ (D.crash keep).n := by
    show 2 ≤ D.n
    rw [h.n]
    omega
  rcases h.one keep with g | g
  · rw [← hl] at g
    obtain ⟨a, b⟩ := g.load rfl hn
    exact ⟨a, .inl b⟩
  · rw [← hl] at g
    obtain ⟨a, b⟩ := g.load rfl hn
    exact ⟨a, .inr b⟩

/-- one sector alone is cached -/
theorem keys_one {D : Dv} {i : Nat} (hi : i < D.n) (h : ∀ j, (D.late j).isSome = true ↔ j = i) : D.keys = [i] := by
  have hm : ∀ j, j ∈ D.keys ↔ j = i := fun j => by
    rw [mem_keys, h]
    constructor
    · exact fun g => g.2
    · rintro rfl; exact ⟨hi, rfl⟩
  have hd := D.keys_nodup
  generalize D.keys = l at *
  rcases l with _ | ⟨a, _ | ⟨b, r⟩⟩
  · have := (hm i).2 rfl
    cases this
  · rw [(hm a).1 (by simp)]
  · exfalso
    have ha := (hm a).1 (by simp)
    have hb := (hm b).1 (by simp)
    rw [ha, hb] at hd
    simp at hd
theorem crash_one {D : Dv} {i : Nat} {x : List UInt8} (hi : i < D.n) (hl : D.late = fun j => if j = i then some x else none) (keep : Nat → Bool) (j : Nat) :
    (D.crash keep).laid j = if keep 0 = true then (if j = i then x else D.laid j) else D.laid j := by
  have hk : D.keys = [i] := keys_one hi (fun j => by
    rw [hl]
    show (if j = i then some x else none).isSome = true ↔ j = i
    split
    · rename_i h; exact ⟨fun _ => h, fun _ => rfl⟩
    · rename_i h; exact ⟨fun g => (by cases g), fun g => absurd g h⟩)
  show lay D.late D.laid keep D.keys D.keys.length j = _
  rw [hk]
  show lay D.late D.laid keep [i] (0 + 1) j = _
  rw [lay_succ]
  split
  · show (if j = i then (D.late j).getD [] else D.laid j) = if j = i then x else D.laid j
    split
    · rename_i h
      rw [hl]
      show Option.getD (if j = i then some x else none) [] = x
      rw [if_pos h]
      rfl
    · rfl
  · rfl

theorem Alive.step {D : Dv} {s t : Sup} (h : D.Alive s) (ht : t.May) (hv : t.V = s.V) (hm : t.V ≠ 281474976710656) :
    (D.svE t = 0 ∧ D.svS t = t.next ∧ (D.svD t).Alive t.next) ∨ (D.svE t ≠ 0 ∧ (D.svD t).gone = true ∧ (D.svD t).Fin s t.next) := by
  obtain ⟨ha, hl2⟩ := at_there t
  have hth : there t = there s := by unfold there; rw [hv]
  have hne : here s ≠ there s := by rcases two_ways s with ⟨g1, g2⟩ | ⟨g1, g2⟩ <;> omega
  have hat : D.has (there t : Int) = true := has_of (by rw [h.n]; omega)
  have hlen : decide (t.next.sector.length ≤ 64) = true := decide_eq_true (by rw [length_sector]; omega)
  have hok : t.May ∧ t.V ≠ 281474976710656 := ⟨ht, hm⟩
  -- the sectors with the next one laid
  have hput : ∀ f : Nat → List UInt8, (∀ j, f j = if j = there t then t.next.sector else D.laid j) → Holds f t.next := fun f hf => by
    refine h.holds.next hv ht hm ?_ ?_
    · rw [hf, hth, if_pos rfl]
    · rw [hf, hth, if_neg hne]
  by_cases h0 : D.left = 0
  · right
    have hE : D.svE1 t = 11 := by
      unfold svE1 writeE
      rw [ha, h.up, if_neg Bool.false_ne_true, hat, hlen, h0]
      rfl
    have hD : D.sv1 t = D.die := by
      unfold sv1 write
      rw [ha, h.up, if_neg Bool.false_ne_true, hat, hlen, h0]
      rfl
    have hsv : D.svD t = D.die := by
      unfold svD
      rw [if_pos hok, hE, if_pos (by decide), hD]
    refine ⟨by unfold svE; rw [if_pos hok, hE, if_pos (by decide)]; decide, by rw [hsv]; rfl, by rw [hsv]; exact h.n, fun keep => .inl ?_⟩
    rw [hsv, crash_none (D := D.die) h.late]
    exact h.holds
  · have hE : D.svE1 t = 0 := by
      unfold svE1 writeE
      rw [ha, h.up, if_neg Bool.false_ne_true, hat, hlen, if_neg h0]
      rfl
    have hD : D.sv1 t = D.more.put (there t) t.next.sector := by
      unfold sv1 write
      rw [ha, h.up, if_neg Bool.false_ne_true, hat, hlen, if_neg h0, pad_sector]
      rfl
    have hg1 : (D.sv1 t).gone = false := by rw [hD]; exact h.up
    have hlate : (D.sv1 t).late = fun j => if j = there t then some t.next.sector else none := by
      rw [hD]
      funext j
      show (if j = there t then some t.next.sector else D.late j) = _
      rw [h.late j]
    have hlaid : (D.sv1 t).laid = D.laid := by rw [hD]; rfl
    have hn1 : (D.sv1 t).n = 4 := by rw [sv1_n, h.n]
    have hsv : D.svD t = (D.sv1 t).flush := by
      unfold svD
      rw [if_pos hok, hE, if_neg (by decide)]
    have hse : D.svE t = (D.sv1 t).flushE := by
      unfold svE
      rw [if_pos hok, hE, if_neg (by decide)]
    by_cases h1 : (D.sv1 t).left = 0
    · right
      have hf : (D.sv1 t).flush = (D.sv1 t).die := by
        unfold flush
        rw [hg1, if_neg Bool.false_ne_true, if_pos h1]
      refine ⟨by rw [hse]; unfold flushE; rw [hg1, if_neg Bool.false_ne_true, if_pos h1]; decide, by rw [hsv, hf]; rfl, by rw [hsv, hf]; exact hn1, fun keep => ?_⟩
      rw [hsv, hf]
      have hc : ∀ j, (((D.sv1 t).die).crash keep).laid j = if keep 0 = true then (if j = there t then t.next.sector else D.laid j) else D.laid j := fun j => by
        have := crash_one (D := (D.sv1 t).die) (i := there t) (x := t.next.sector) (by show there t < (D.sv1 t).n; rw [hn1]; omega) hlate keep j
        rw [this]
        show (if keep 0 = true then (if j = there t then _ else (D.sv1 t).laid j) else (D.sv1 t).laid j) = _
        rw [hlaid]
      by_cases hk : keep 0 = true
      · right
        refine hput _ fun j => ?_
        rw [hc, if_pos hk]
      · left
        have e : (((D.sv1 t).die).crash keep).laid = D.laid := by
          funext j
          rw [hc, if_neg hk]
        rw [e]
        exact h.holds
    · left
      have hf : (D.sv1 t).flush = (D.sv1 t).more.settle := by
        unfold flush
        rw [hg1, if_neg Bool.false_ne_true, if_neg h1]
      have hfe : (D.sv1 t).flushE = 0 := by
        unfold flushE
        rw [hg1, if_neg Bool.false_ne_true, if_neg h1]
      have h0' : D.svE t = 0 := by rw [hse, hfe]
      refine ⟨h0', if_pos h0', ?_⟩
      rw [hsv, hf]
      refine ⟨hn1, hg1, fun _ => rfl, hput _ fun j => ?_⟩
      show ((D.sv1 t).late j).getD ((D.sv1 t).laid j) = _
      rw [hlate, hlaid]
      show Option.getD (if j = there t then some t.next.sector else none) (D.laid j) = _
      split <;> rfl

/-- the first one, and a budget -/
theorem alive_first (k : Int) : (((Dv.fresh 4).svD one).budget k).Alive one.next := by
  obtain ⟨_, _, h3, h4, _, h6, h7, _⟩ := fresh_save (n := 4) (by omega) one_may (by decide)
  refine ⟨h4, h3.gone, h6, ?_⟩
  show Holds ((Dv.fresh 4).svD one).laid one.next
  rw [← look_laid h6]
  exact h7
end Dv

/-- another head -/
def headTo_ (s : Sup) (h : Int) : Sup := { s with H := h }
theorem headTo_may {s : Sup} (hs : s.May) {h : Nat} (hh : h < 65536) : (headTo_ s (h : Int)).May := by
  obtain ⟨h0, h1, h2, h3, h4, h5, h6⟩ := hs
  exact ⟨h0, h1, h2, h3, h4, by show (0 : Int) ≤ (h : Int) ∧ (h : Int) ≤ 1099511627776; omega, h6⟩

end Go.Proofs.Ytojidejlohpeaaa
