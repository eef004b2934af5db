/-
  Things to do with a pool that came in, as they lie there; are they few?
-/
import Derived.Test.YtnpgmiokimahiaaFewWalk
namespace Go.Proofs.Ytnpgmiokimahiaa
set_option maxRecDepth 100000
set_option linter.unusedVariables false
open Go.RowKit Pl

/-- one thing that is done -/
structure Deed where
  what : Int
  at_ : Int
  lsn : Int
  b : List UInt8

def DeedAt (w : World) (b o : Nat) (x : Deed) : Prop :=
  w.cell? ⟨b, o, none⟩ = some (.int .i64 x.what) ∧ w.cell? ⟨b, o + 1, none⟩ = some (.int .i64 x.at_) ∧ w.cell? ⟨b, o + 2, none⟩ = some (.int .i64 x.lsn) ∧
  (∃ A c, w.cell? ⟨b, o + 3, none⟩ = some (.slice A x.b.length c) ∧ Rd w w.heap.size A x.b ∧ x.b.length ≤ c)
def Deeds (w : World) (a : Option Addr) (len : Nat) (X : Nat → Deed) : Prop :=
  len = 0 ∨ ∃ b o, a = some ⟨b, o, none⟩ ∧ b < w.heap.size ∧ ∀ i, i < len → DeedAt w b (o + i * 4) (X i)

/-- one of them, in whatever world has all that was there -/
structure DeedIn (w : World) (b o : Nat) (x : Deed) (A : Option Addr) (n c : Nat) : Prop where
  c0 : ∀ V, Below w.heap.size w V → V.cell? ⟨b, o, none⟩ = some (.int .i64 x.what)
  c1 : ∀ V, Below w.heap.size w V → V.cell? ⟨b, o + 1, none⟩ = some (.int .i64 x.at_)
  c2 : ∀ V, Below w.heap.size w V → V.cell? ⟨b, o + 2, none⟩ = some (.int .i64 x.lsn)
  c3 : ∀ V, Below w.heap.size w V → V.cell? ⟨b, o + 3, none⟩ = some (.slice A n c)
  rd : Rd w w.heap.size A x.b
  n_ : x.b.length = n
  cap : n ≤ c
theorem Deeds.get {w : World} {a : Option Addr} {len : Nat} {X : Nat → Deed} (h : Deeds w a len X) {i : Nat} (hi : i < len) : ∃ b o A n c, a = some ⟨b, o, none⟩ ∧ DeedIn w b (o + i * 4) (X i) A n c := by
  rcases h with h | ⟨b, o, e, hb, hd⟩
  · omega
  · obtain ⟨c0, c1, c2, A, c, c3, hr, hc⟩ := hd i hi
    exact ⟨b, o, A, _, c, e, fun V hV => (hV.cell (p := ⟨b, o + i * 4, none⟩) hb).trans c0, fun V hV => (hV.cell (p := ⟨b, o + i * 4 + 1, none⟩) hb).trans c1, fun V hV => (hV.cell (p := ⟨b, o + i * 4 + 2, none⟩) hb).trans c2,
      fun V hV => (hV.cell (p := ⟨b, o + i * 4 + 3, none⟩) hb).trans c3, hr, rfl, hc⟩

/-- few, as the statements have it -/
def Few (len : Nat) (X : Nat → Deed) : Prop := len ≤ 60 ∧ ∀ i, i < len → (X i).b.length ≤ 100
def SmallOut (len : Nat) (X : Nat → Deed) (w : World) (e : Ending) (w' : World) : Prop := w' = w ∧ ((e = .returned (.bool true) ∧ Few len X) ∨ e = .returned (.bool false))

set_option maxHeartbeats 1000000 in
theorem small_any (A : Option Addr) (len c : Nat) (X : Nat → Deed) (w : World) (hl : Deeds w A len X) : Calls Try.prog 9 #[.slice A len c] w (SmallOut len X w) := by
  have HL := Lib.hid hl
  clear hl
  by_cases h60 : len ≤ 60
  · have hd8 : decide ((60 : Int) < (len : Int)) = false := decide_eq_false (by omega)
    go_enter Try.func9, Try.ntmps9
    go_wp2_with fail
    go_loopg [3] len (fun gn i wr => ∃ (j : Nat), i = .int .i64 (j : Int) ∧ j + gn = len ∧ wr = w ∧ Hid (∀ i, i < j → (X i).b.length ≤ 100))
    case atStart => exact ⟨0, rfl, by omega, rfl, Lib.hid (fun i hi => by omega)⟩
    case round =>
      obtain ⟨j, rfl, hog, rfl, HS⟩ := hrel
      rcases Nat.lt_or_ge j len with hlt | hge
      · have hdj : decide (j < len) = true := decide_eq_true hlt
        have hdi : decide ((j : Int) < (len : Int)) = true := decide_eq_true (by omega)
        obtain ⟨b, o, B, n, cb, rfl, hD⟩ := HL.out.get hlt
        have hc3 := hD.c3 wr (Below.refl _ _)
        have HN := Lib.hid hD.n_
        clear hD
        by_cases h100 : n ≤ 100
        · have hdn : decide ((100 : Int) < (n : Int)) = false := decide_eq_false (by omega)
          go_wp2_with fail
          go_roundg (gk - 1)
          case measure => omega
          case rel => exact ⟨j + 1, by go_num, by omega, rfl, Lib.hid (fun i hi => by
            rcases Nat.lt_or_ge i j with h | h
            · exact HS.out i h
            · obtain rfl : i = j := by omega
              rw [HN.out]; exact h100)⟩
        · have hdn : decide ((100 : Int) < (n : Int)) = true := decide_eq_true (by omega)
          go_wp2_with fail
          go_ret
          exact ⟨rfl, .inr rfl⟩
      · obtain rfl : j = len := by omega
        clear hge
        go_wp2_with fail
        go_ret
        exact ⟨rfl, .inl ⟨rfl, h60, HS.out⟩⟩
  · have hd8 : decide ((60 : Int) < (len : Int)) = true := decide_eq_true (by omega)
    go_enter Try.func9, Try.ntmps9
    go_wp2_with fail
    go_ret
    exact ⟨rfl, .inr rfl⟩

/-- what PoolWaits keeps: nothing is safe, so nothing is written -/
structure WI (r put : Nat) (D : Dv) (m : Pm) : Prop where
  spent : D.spent = 0
  n : D.n = 12
  safe : m.safe = 0
  lsn : ∀ i f, m.F i = some f → f.dirty = true → 1 ≤ f.lsn
  put : (dirt 12 m.F).length ≤ put
  reads : m.reads ≤ r
theorem WI.held {r put i : Nat} {D : Dv} {m : Pm} (h : WI r put D m) {E : Int} {D' : Dv} {m' : Pm} (hh : Held D m i E D' m') : WI (r + 1) put D' m' := by
  have hr := h.reads
  refine ⟨?_, hh.n.trans h.n, hh.safe.trans h.safe, fun j f hj hd => ?_, ?_, by have := hh.reads; omega⟩
  · rcases hh.spent with e | ⟨_, j, f, hj, hd, hl⟩
    · rw [e, h.spent]
    · have := h.lsn j f hj hd; rw [h.safe] at hl; omega
  · rcases hh.old j f hj with h1 | ⟨_, _, h1, _⟩
    · exact h.lsn j f h1 hd
    · rw [h1] at hd; cases hd
  · have := hh.dirt; rw [h.n] at this; have := h.put; omega
theorem WI.putd {r put i : Nat} {D : Dv} {m : Pm} (h : WI r put D m) {b : List UInt8} {lsn E : Int} {D' : Dv} {m' : Pm} (hl1 : 1 ≤ lsn) (hh : Putd D m i b lsn E D' m') : WI (r + 1) (if E = 0 then put + 1 else put) D' m' := by
  have hr := h.reads
  refine ⟨?_, hh.n.trans h.n, hh.safe.trans h.safe, fun j f hj hd => ?_, ?_, by have := hh.reads; omega⟩
  · rcases hh.spent with e | ⟨_, j, f, hj, hd, hl⟩
    · rw [e, h.spent]
    · have := h.lsn j f hj hd; rw [h.safe] at hl; omega
  · rcases hh.old j f hj with h1 | ⟨h1, _⟩ | ⟨_, h1 | ⟨g, hg, hgd, h1⟩⟩
    · exact h.lsn j f h1 hd
    · rw [h1] at hd; cases hd
    · omega
    · have := h.lsn j g hg hgd; omega
  · have hp := h.put
    by_cases e : E = 0
    · rw [if_pos e]
      have := hh.dirt0 e
      rw [h.n] at this
      omega
    · rw [if_neg e]
      have := hh.dirt e
      rw [h.n] at this
      omega
theorem WI.wash {r put : Nat} {D : Dv} {m : Pm} (h : WI r put D m) {D' : Dv} {m' : Pm} (hh : Cleaned D m 0 D' m') : WI (r + 1) put D' m' := by
  have hno : ∀ i f, m.F i = some f → ¬ (f.dirty = true ∧ f.lsn ≤ m.safe) := fun i f hf hc => by
    have := h.lsn i f hf hc.1
    have h2 := hc.2
    rw [h.safe] at h2
    omega
  have hF : ∀ i, m'.F i = m.F i := fun i => by
    rw [hh.F]
    cases hf : m.F i with
    | none => rfl
    | some f => exact washed_no (hno i f hf)
  refine ⟨?_, hh.n.trans h.n, hh.safe.trans h.safe, fun j f hj hd => h.lsn j f (by rw [← hF]; exact hj) hd, ?_, by rw [hh.reads]; have := h.reads; omega⟩
  · rw [hh.spent, h.spent, List.filter_eq_nil_iff.2]
    · rfl
    · intro i _
      cases hf : m.F i with
      | none => simp [isClean]
      | some f =>
        intro hc
        have hc : (f.dirty && decide (f.lsn ≤ m.safe)) = true := hc
        rw [Bool.and_eq_true, decide_eq_true_eq] at hc
        exact hno i f hf hc
  · rw [show m'.F = m.F from funext hF]
    exact h.put
theorem WI.start {room : Nat} : WI 0 0 (Dv.fresh 12) (new_ room) := ⟨rfl, rfl, rfl, fun i f h => (by cases h), (by unfold dirt new_; simp [isDirty]), Nat.le_refl _⟩

end Go.Proofs.Ytnpgmiokimahiaa
