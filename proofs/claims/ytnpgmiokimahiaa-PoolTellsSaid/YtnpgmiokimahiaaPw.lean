/-
  What a pool's calls are to answer, as words over any way in which a pool may lie in memory; a pool and its device beside all that was there.
-/
import Derived.Test.YtnpgmiokimahiaaPm
import Derived.Test.YtnpgmiokimahiaaIn7
namespace Go.Proofs.Ytnpgmiokimahiaa
set_option maxRecDepth 100000
set_option linter.unusedVariables false
open Go.RowKit Pl

def okI (n : Int) : Prop := -9223372036854775808 ≤ n ∧ n ≤ 9223372036854775807

/-- what a call on a pool may turn: its own blocks, and the device's -/
def PS (T : Nat → Prop) (p L M : Nat) (k : Nat) : Prop := T k ∨ DS p L M k

/-- how a pool lies: a world, the device's block, how many sectors that has, the pool's block, what the pool is, its blocks -/
abbrev Lay := World → Nat → Nat → Nat → Pm → (Nat → Prop) → Prop

/-- the device and the pool behind a call -/
structure Nx (PAt : Lay) (w w' : World) (p L M v : Nat) (T : Nat → Prop) (D' : Dv) (m' : Pm) (T' : Nat → Prop) : Prop where
  dev : IsDev w' p L M D'
  pat : PAt w' p D'.n v m' T'
  new : ∀ k, T' k → T k ∨ w.heap.size ≤ k
  turn : Turn (PS T p L M) w w'

/-- the device and the pool ahead of a call -/
structure Pre (PAt : Lay) (w : World) (p L M v : Nat) (D : Dv) (m : Pm) (T : Nat → Prop) : Prop where
  dev : IsDev w p L M D
  pat : PAt w p D.n v m T
  off : ∀ k, T k → ¬ DS p L M k
  spent : D.spent ≤ 100000
  reads : m.reads ≤ 100000

def NewOk (PAt : Lay) : Prop := ∀ (w : World) (p L M : Nat) (D : Dv) (room : Int), IsDev w p L M D → okI room → Calls Try.prog 11 #[ptr p, .int .i64 room] w fun e w' =>
  Below w.heap.size w w' ∧ ((((room < 1 ∨ 64 < room) ∧ e = .returned (.tuple #[.pointer none, .int .i64 1])) ∨ (1 ≤ room ∧ room ≤ 64 ∧ D.gone = true ∧ e = .returned (.tuple #[.pointer none, .int .i64 11]))) ∨
    (1 ≤ room ∧ room ≤ 64 ∧ D.gone = false ∧ ∃ v T, e = .returned (.tuple #[ptr v, .int .i64 0]) ∧ PAt w' p D.n v (new_ room.toNat) T ∧ ∀ k, T k → w.heap.size ≤ k))
def GetOk (PAt : Lay) : Prop := ∀ (w : World) (p L M v : Nat) (D : Dv) (m : Pm) (T : Nat → Prop) (at_ : Int), Pre PAt w p L M v D m T → okI at_ → Calls Try.prog 15 #[ptr v, .int .i64 at_] w fun e w' =>
  ∃ E D' m' T' A N c, Hold D m at_ E D' m' ∧ e = .returned (.tuple #[.slice A N c, .int .i64 E]) ∧ (if E = 0 then Owns w' w.heap.size A c N (byt m' at_) else A = none ∧ N = 0 ∧ c = 0) ∧ (∀ a, A = some a → ¬ T' a.block) ∧ Nx PAt w w' p L M v T D' m' T'
def PutOk (PAt : Lay) : Prop := ∀ (w : World) (p L M v : Nat) (D : Dv) (m : Pm) (T : Nat → Prop) (at_ lsn : Int) (A : Option Addr) (N c : Nat) (b : List UInt8), Pre PAt w p L M v D m T → okI at_ → okI lsn → Firm (PS T p L M) w A b → b.length = N → N ≤ c →
  Calls Try.prog 12 #[ptr v, .int .i64 at_, .slice A N c, .int .i64 lsn] w fun e w' => ∃ E D' m' T', PutR D m at_ b lsn E D' m' ∧ e = .returned (.int .i64 E) ∧ Nx PAt w w' p L M v T D' m' T'
def PinOk (PAt : Lay) : Prop := ∀ (w : World) (p L M v : Nat) (D : Dv) (m : Pm) (T : Nat → Prop) (at_ : Int), Pre PAt w p L M v D m T → okI at_ → (∀ i f, m.F i = some f → f.pins ≤ 100000) →
  Calls Try.prog 19 #[ptr v, .int .i64 at_] w fun e w' => ∃ E D' m' T', PinR D m at_ E D' m' ∧ e = .returned (.int .i64 E) ∧ Nx PAt w w' p L M v T D' m' T'
def UnpinOk (PAt : Lay) : Prop := ∀ (w : World) (p L M v : Nat) (D : Dv) (m : Pm) (T : Nat → Prop) (at_ : Int), Pre PAt w p L M v D m T → okI at_ → (∀ i f, m.F i = some f → f.pins ≤ 1000000) →
  Calls Try.prog 20 #[ptr v, .int .i64 at_] w fun e w' => ∃ T', e = .returned (.int .i64 (unpinE m at_)) ∧ Nx PAt w w' p L M v T D (m.unpin at_) T'
def SafeOk (PAt : Lay) : Prop := ∀ (w : World) (p L M v : Nat) (D : Dv) (m : Pm) (T : Nat → Prop) (lsn : Int), Pre PAt w p L M v D m T → okI lsn →
  Calls Try.prog 13 #[ptr v, .int .i64 lsn] w fun e w' => ∃ T', e = .returned (.tuple #[]) ∧ Nx PAt w w' p L M v T D (m.tell lsn) T'
def CleanOk (PAt : Lay) : Prop := ∀ (w : World) (p L M v : Nat) (D : Dv) (m : Pm) (T : Nat → Prop), Pre PAt w p L M v D m T →
  Calls Try.prog 14 #[ptr v] w fun e w' => ∃ T', e = .returned (.int .i64 (clean D m).1) ∧ Nx PAt w w' p L M v T (clean D m).2.1 { m with F := (clean D m).2.2 } T'
def HeldOk (PAt : Lay) : Prop := ∀ (w : World) (p L M v : Nat) (D : Dv) (m : Pm) (T : Nat → Prop), Pre PAt w p L M v D m T → Calls Try.prog 21 #[ptr v] w (Listed w (keys D.n m.F))
def DirtyOk (PAt : Lay) : Prop := ∀ (w : World) (p L M v : Nat) (D : Dv) (m : Pm) (T : Nat → Prop), Pre PAt w p L M v D m T → Calls Try.prog 16 #[ptr v] w (Listed w (dirt D.n m.F))
def ReadsOk (PAt : Lay) : Prop := ∀ (w : World) (p L M v : Nat) (D : Dv) (m : Pm) (T : Nat → Prop), Pre PAt w p L M v D m T → Calls Try.prog 22 #[ptr v] w fun e w' => e = .returned (.int .i64 (m.reads : Int)) ∧ Below w.heap.size w w'

structure PoolOk (PAt : Lay) : Prop where
  turn : ∀ {w V : World} {p n v : Nat} {m : Pm} {T S : Nat → Prop}, PAt w p n v m T → Turn S w V → (∀ k, T k → ¬ S k) → PAt V p n v m T
  lt : ∀ {w : World} {p n v : Nat} {m : Pm} {T : Nat → Prop}, PAt w p n v m T → ∀ k, T k → k < w.heap.size
  ok : ∀ {w : World} {p n v : Nat} {m : Pm} {T : Nat → Prop}, PAt w p n v m T → m.Ok n
  new : NewOk PAt
  get : GetOk PAt
  put : PutOk PAt
  pin : PinOk PAt
  unpin : UnpinOk PAt
  safe : SafeOk PAt
  clean : CleanOk PAt
  held : HeldOk PAt
  dirty : DirtyOk PAt
  reads : ReadsOk PAt
  getN : ∀ (w : World) (at_ : Int), Calls Try.prog 15 #[.pointer none, .int .i64 at_] w fun e w' => e = .returned (.tuple #[.slice none 0 0, .int .i64 11]) ∧ Below w.heap.size w w'
  putN : ∀ (w : World) (at_ lsn : Int) (A : Option Addr) (N c : Nat), Calls Try.prog 12 #[.pointer none, .int .i64 at_, .slice A N c, .int .i64 lsn] w fun e w' => e = .returned (.int .i64 11) ∧ Below w.heap.size w w'
  pinN : ∀ (w : World) (at_ : Int), Calls Try.prog 19 #[.pointer none, .int .i64 at_] w fun e w' => e = .returned (.int .i64 11) ∧ Below w.heap.size w w'
  unpinN : ∀ (w : World) (at_ : Int), Calls Try.prog 20 #[.pointer none, .int .i64 at_] w fun e w' => e = .returned (.int .i64 11) ∧ Below w.heap.size w w'
  safeN : ∀ (w : World) (lsn : Int), Calls Try.prog 13 #[.pointer none, .int .i64 lsn] w fun e w' => e = .returned (.tuple #[]) ∧ Below w.heap.size w w'
  cleanN : ∀ (w : World), Calls Try.prog 14 #[.pointer none] w fun e w' => e = .returned (.int .i64 11) ∧ Below w.heap.size w w'
  heldN : ∀ (w : World), Calls Try.prog 21 #[.pointer none] w fun e w' => (∃ A c, e = .returned (.slice A 0 c)) ∧ Below w.heap.size w w'
  dirtyN : ∀ (w : World), Calls Try.prog 16 #[.pointer none] w fun e w' => (∃ A c, e = .returned (.slice A 0 c)) ∧ Below w.heap.size w w'
  readsN : ∀ (w : World), Calls Try.prog 22 #[.pointer none] w fun e w' => e = .returned (.int .i64 0) ∧ Below w.heap.size w w'

/-- a pool on a device without a budget, both made since w; all that was there is as it was -/
structure PW (PAt : Lay) (w W : World) (p L M v : Nat) (D : Dv) (m : Pm) (T : Nat → Prop) : Prop where
  dr : Dr w W p L M D
  pat : PAt W p D.n v m T
  lo : ∀ k, T k → w.heap.size ≤ k
  off : ∀ k, T k → ¬ DS p L M k
  free : D.Free
  agree : Agree D m

section
variable {PAt : Lay} {w W V : World} {p L M v : Nat} {D D' : Dv} {m m' : Pm} {T T' : Nat → Prop}
theorem PW.pre (h : PW PAt w W p L M v D m T) (hs : D.spent ≤ 100000) (hr : m.reads ≤ 100000) : Pre PAt W p L M v D m T := ⟨h.dr.dev, h.pat, h.off, hs, hr⟩
theorem PW.ok (K : PoolOk PAt) (h : PW PAt w W p L M v D m T) : m.Ok D.n := K.ok h.pat
theorem PW.dok (h : PW PAt w W p L M v D m T) : D.Ok := h.dr.dev.ok
theorem PW.below (K : PoolOk PAt) (h : PW PAt w W p L M v D m T) (hb : Below W.heap.size W V) : PW PAt w V p L M v D m T :=
  ⟨h.dr.below hb, K.turn h.pat (Turn.ofBelow (S := fun _ => False) hb) (fun _ _ h => h), h.lo, h.off, h.free, h.agree⟩
theorem PW.alloc (K : PoolOk PAt) (h : PW PAt w W p L M v D m T) (o : Obj) : PW PAt w (W.alloc o) p L M v D m T := h.below K ((Below.refl _ _).alloc (Nat.le_refl _) o)
theorem PW.los (h : PW PAt w W p L M v D m T) : ∀ k, PS T p L M k → w.heap.size ≤ k := fun k hk => by
  rcases hk with hk | hk
  · exact h.lo k hk
  · rcases hk with e | e | e
    · rw [e]; exact h.dr.lo.1
    · rw [e]; exact h.dr.lo.2.1
    · rw [e]; exact h.dr.lo.2.2
/-- a block that is not of these -/
structure Oth (W : World) (p L M : Nat) (T : Nat → Prop) (g : Nat) : Prop where
  lt : g < W.heap.size
  no : ¬ PS T p L M g
theorem PW.turn (K : PoolOk PAt) (h : PW PAt w W p L M v D m T) {g : Nat} (ho : Oth W p L M T g) (hg : W.grownBy V (some g)) (hw : w.heap.size ≤ g) : PW PAt w V p L M v D m T := by
  have ht : Turn (· = g) W V := Turn.ofGrown hg
  have h1 : ∀ k, DS p L M k → ¬ (k = g) := fun k hk e => ho.no (.inr (e ▸ hk))
  refine ⟨⟨h.dr.dev.turn ht (h1 p (.inl rfl)) (h1 L (.inr (.inl rfl))) (h1 M (.inr (.inr rfl))), h.dr.bel.trans (ht.below (fun k hk => by rw [hk]; exact hw) h.dr.bel.size), h.dr.lo⟩, K.turn h.pat ht (fun k hk e => ho.no (.inl (e ▸ hk))), h.lo, h.off, h.free, h.agree⟩
theorem Oth.new {o : Obj} (K : PoolOk PAt) (h : PW PAt w W p L M v D m T) : Oth (W.alloc o) p L M T W.heap.size :=
  ⟨by simp, fun hk => by
    rcases hk with hk | hk
    · have := K.lt h.pat _ hk; omega
    · exact h.dr.notNew hk⟩
theorem Oth.below {g : Nat} (h : Oth W p L M T g) (hb : Below W.heap.size W V) : Oth V p L M T g := ⟨Nat.lt_of_lt_of_le h.lt hb.size, h.no⟩
theorem Oth.size {g : Nat} (h : Oth W p L M T g) (hs : W.heap.size ≤ V.heap.size) : Oth V p L M T g := ⟨Nat.lt_of_lt_of_le h.lt hs, h.no⟩
/-- behind a call -/
theorem PW.next (h : PW PAt w W p L M v D m T) (k : Nx PAt W V p L M v T D' m' T') (hf : D'.Free) (ha : Agree D' m') : PW PAt w V p L M v D' m' T' := by
  have hps : ∀ k, PS T p L M k → w.heap.size ≤ k := fun k hk => by
    rcases hk with hk | hk
    · exact h.lo k hk
    · rcases hk with e | e | e
      · rw [e]; exact h.dr.lo.1
      · rw [e]; exact h.dr.lo.2.1
      · rw [e]; exact h.dr.lo.2.2
  refine ⟨⟨k.dev, h.dr.bel.trans (k.turn.below hps h.dr.bel.size), h.dr.lo⟩, k.pat, fun j hj => ?_, fun j hj hd => ?_, hf, ha⟩
  · rcases k.new j hj with h1 | h1
    · exact h.lo j h1
    · exact Nat.le_trans h.dr.bel.size h1
  · rcases k.new j hj with h1 | h1
    · exact h.off j h1 hd
    · have hl := h.dr.dev.lt
      rcases hd with e | e | e <;> omega
theorem Oth.next {g : Nat} (h : Oth W p L M T g) (k : Nx PAt W V p L M v T D' m' T') : Oth V p L M T' g := by
  refine ⟨Nat.lt_of_lt_of_le h.lt k.turn.size, fun hk => ?_⟩
  rcases hk with hk | hk
  · rcases k.new g hk with h1 | h1
    · exact h.no (.inl h1)
    · have := h.lt; omega
  · exact h.no (.inr hk)
theorem Nx.blk {g : Nat} (k : Nx PAt W V p L M v T D' m' T') (h : Oth W p L M T g) : V.heap[g]? = W.heap[g]? := k.turn.block g h.lt h.no
/-- bytes of an argument -/
theorem PW.firm (h : PW PAt w W p L M v D m T) {A : Option Addr} {l : List UInt8} (hr : Rd w w.heap.size A l) : Firm (PS T p L M) W A l :=
  (hr.below h.dr.bel).firm h.dr.bel.size (fun k hk => by
    rcases hk with hk | hk
    · exact h.lo k hk
    · rcases hk with e | e | e
      · rw [e]; exact h.dr.lo.1
      · rw [e]; exact h.dr.lo.2.1
      · rw [e]; exact h.dr.lo.2.2)

/-- what a Get of a sector answers -/
structure GetP (PAt : Lay) (w W : World) (p L M v : Nat) (D : Dv) (m : Pm) (T : Nat → Prop) (i : Nat) (E : Int) (N : Nat) (l : List UInt8) (D' : Dv) (m' : Pm) (T' : Nat → Prop) (V : World) : Prop where
  held : Held D m i E D' m'
  pw : PW PAt w V p L M v D' m' T'
  nx : Nx PAt W V p L M v T D' m' T'
  yes : E = 0 → N = 64 ∧ l = cur D m i
  no : E ≠ 0 → N = 0 ∧ l = []
theorem PW.get (K : PoolOk PAt) (h : PW PAt w W p L M v D m T) (hs : D.spent ≤ 100000) (hr : m.reads ≤ 100000) (i : Nat) (hi : i < D.n) : Calls Try.prog 15 #[ptr v, .int .i64 (i : Int)] W fun e V =>
    ∃ E A N c l D' m' T', e = .returned (.tuple #[.slice A N c, .int .i64 E]) ∧ Owns V W.heap.size A c N l ∧ GetP PAt w W p L M v D m T i E N l D' m' T' V := by
  have hn := h.dok.top
  refine (K.get W p L M v D m T (i : Int) (h.pre hs hr) ⟨by omega, by omega⟩).mono ?_
  rintro e V ⟨E, D', m', T', A, N, c, hh, rfl, ho, _, hn⟩
  have H := hold_held hh hi h.free h.dok (h.ok K) h.agree
  by_cases h0 : E = 0
  · rw [if_pos h0] at ho
    obtain ⟨f, hf⟩ := H.has h0
    have hb : byt m' (i : Int) = cur D m i := by
      rw [← H.cur i hi, cur_some hf]
      unfold byt
      rw [Int.toNat_natCast, hf]
    rw [hb] at ho
    have hl : (cur D m i).length = 64 := by
      rw [← H.cur i hi, cur_some hf]
      exact (H.mok.fr i f hf).2.1
    exact ⟨E, A, N, c, _, D', m', T', rfl, ho, H, h.next hn H.free H.agree, hn, fun _ => ⟨by rw [← ho.len, hl], rfl⟩, fun k => absurd h0 k⟩
  · rw [if_neg h0] at ho
    obtain ⟨rfl, rfl, rfl⟩ := ho
    exact ⟨E, none, 0, 0, [], D', m', T', rfl, ⟨rfl, .inl ⟨rfl, rfl⟩⟩, H, h.next hn H.free H.agree, hn, fun k => absurd k h0, fun _ => ⟨rfl, rfl⟩⟩
end

end Go.Proofs.Ytnpgmiokimahiaa
