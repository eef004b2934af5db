/-
  A pool by its words: which sectors are held, with which bytes, dirty or not, pinned how often; what each call does. No program; whatever goes, and in which order, is left open where the document's hand decides.
-/
import Derived.Test.YtnpgmiokimahiaaDevB
namespace Go.Proofs.Ytnpgmiokimahiaa
set_option maxRecDepth 100000
set_option linter.unusedVariables false
open Go.RowKit Dv

namespace Pl

/-- a sector that is held -/
structure Fr where
  b : List UInt8
  dirty : Bool
  lsn : Int
  pins : Nat
/-- a pool -/
structure Pm where
  F : Nat → Option Fr
  room : Nat
  safe : Int
  reads : Nat

def upd (F : Nat → Option Fr) (i : Nat) (x : Option Fr) : Nat → Option Fr := fun j => if j = i then x else F j
theorem upd_same (F : Nat → Option Fr) (i : Nat) (x : Option Fr) : upd F i x i = x := if_pos rfl
theorem upd_ne (F : Nat → Option Fr) {i j : Nat} (x : Option Fr) (h : j ≠ i) : upd F i x j = F j := if_neg h
/-- the sectors that are held, rising; and those that are dirty -/
def isDirty (o : Option Fr) : Bool := match o with | some f => f.dirty | none => false
def keys (n : Nat) (F : Nat → Option Fr) : List Nat := (List.range n).filter fun i => (F i).isSome
def dirt (n : Nat) (F : Nat → Option Fr) : List Nat := (List.range n).filter fun i => isDirty (F i)
def goes (s : Int) (f : Fr) : Prop := f.pins = 0 ∧ (f.dirty = true → f.lsn ≤ s)
/-- what stands on a device -/
def sec (D : Dv) (i : Nat) : List UInt8 := (D.late i).getD (D.laid i)
def Pm.take (m : Pm) (D : Dv) (i : Nat) : Pm := { m with F := upd m.F i (some ⟨sec D i, false, 0, 0⟩), reads := m.reads + 1 }
def Pm.drop (m : Pm) (j : Nat) : Pm := { m with F := upd m.F j none }
/-- a frame put -/
def Pm.set (m : Pm) (i : Nat) (x : Fr) : Pm := { m with F := upd m.F i (some x) }
theorem set_same (m : Pm) (i : Nat) (x : Fr) : (m.set i x).F i = some x := if_pos rfl
theorem set_ne (m : Pm) (x : Fr) {i j : Nat} (h : j ≠ i) : (m.set i x).F j = m.F j := if_neg h
theorem take_same (m : Pm) (D : Dv) (i : Nat) : (m.take D i).F i = some ⟨sec D i, false, 0, 0⟩ := if_pos rfl
theorem take_ne (m : Pm) (D : Dv) {i j : Nat} (h : j ≠ i) : (m.take D i).F j = m.F j := if_neg h
theorem drop_same (m : Pm) (j : Nat) : (m.drop j).F j = none := if_pos rfl
theorem drop_ne (m : Pm) {i j : Nat} (h : j ≠ i) : (m.drop i).F j = m.F j := if_neg h

/-- a pool on a device of n sectors, as one may be -/
structure Pm.Ok (m : Pm) (n : Nat) : Prop where
  fr : ∀ i f, m.F i = some f → i < n ∧ f.b.length = 64 ∧ 0 ≤ f.lsn ∧ f.lsn ≤ 9223372036854775807
  room : 1 ≤ m.room ∧ m.room ≤ 64
  few : (keys n m.F).length ≤ m.room
  safe : 0 ≤ m.safe ∧ m.safe ≤ 9223372036854775807

def new_ (room : Nat) : Pm := ⟨fun _ => none, room, 0, 0⟩

/-- a sector is held: with which error, and what the device and the pool are then -/
inductive Hold (D : Dv) (m : Pm) (at_ : Int) : Int → Dv → Pm → Prop
  | gone (h : D.gone = true) : Hold D m at_ 11 D m
  | held (h : D.gone = false) (i : Nat) (hi : at_ = (i : Int)) (f : Fr) (hf : m.F i = some f) : Hold D m at_ 0 D m
  | bad (h : D.gone = false) (hr : D.has at_ = false) : Hold D m at_ 1 D m
  | room (h : D.gone = false) (i : Nat) (hi : at_ = (i : Int)) (hr : i < D.n) (hf : m.F i = none) (hc : (keys D.n m.F).length < m.room) : Hold D m at_ 0 D (m.take D i)
  | full (h : D.gone = false) (i : Nat) (hi : at_ = (i : Int)) (hr : i < D.n) (hf : m.F i = none) (hc : m.room ≤ (keys D.n m.F).length) (hn : ∀ j f, m.F j = some f → ¬ goes m.safe f) : Hold D m at_ 5 D m
  | clean (h : D.gone = false) (i : Nat) (hi : at_ = (i : Int)) (hr : i < D.n) (hf : m.F i = none) (hc : m.room ≤ (keys D.n m.F).length) (j : Nat) (f : Fr) (hj : m.F j = some f) (hg : goes m.safe f) (hd : f.dirty = false) : Hold D m at_ 0 D ((m.drop j).take D i)
  | wrote (h : D.gone = false) (i : Nat) (hi : at_ = (i : Int)) (hr : i < D.n) (hf : m.F i = none) (hc : m.room ≤ (keys D.n m.F).length) (j : Nat) (f : Fr) (hj : m.F j = some f) (hg : goes m.safe f) (hd : f.dirty = true) (hw : D.writeE j f.b = 0) : Hold D m at_ 0 (D.write j f.b) ((m.drop j).take (D.write j f.b) i)
  | fails (h : D.gone = false) (i : Nat) (hi : at_ = (i : Int)) (hr : i < D.n) (hf : m.F i = none) (hc : m.room ≤ (keys D.n m.F).length) (j : Nat) (f : Fr) (hj : m.F j = some f) (hg : goes m.safe f) (hd : f.dirty = true) (hw : D.writeE j f.b ≠ 0) : Hold D m at_ (D.writeE j f.b) (D.write j f.b) m

def byt (m : Pm) (at_ : Int) : List UInt8 := match m.F at_.toNat with | some f => f.b | none => []
def Pm.lay (m : Pm) (i : Nat) (b : List UInt8) (lsn : Int) : Pm := match m.F i with
  | some f => m.set i ⟨pad b, true, if f.dirty then max lsn f.lsn else lsn, f.pins⟩
  | none => m
def Pm.pin (m : Pm) (i : Nat) : Pm := match m.F i with
  | some f => m.set i { f with pins := f.pins + 1 }
  | none => m
def unpinE (m : Pm) (at_ : Int) : Int := if at_ < 0 then 7 else match m.F at_.toNat with | some f => if f.pins = 0 then 7 else 0 | none => 7
def Pm.unpin (m : Pm) (at_ : Int) : Pm := if at_ < 0 then m else match m.F at_.toNat with
  | some f => m.set at_.toNat { f with pins := f.pins - 1 }
  | none => m
def Pm.tell (m : Pm) (lsn : Int) : Pm := { m with safe := max m.safe lsn }

/-- bytes are put -/
inductive PutR (D : Dv) (m : Pm) (at_ : Int) (b : List UInt8) (lsn : Int) : Int → Dv → Pm → Prop
  | bad (h : 64 < b.length ∨ lsn < 0) : PutR D m at_ b lsn 1 D m
  | no (h : b.length ≤ 64 ∧ 0 ≤ lsn) {E : Int} {D' : Dv} {m' : Pm} (hh : Hold D m at_ E D' m') (he : E ≠ 0) : PutR D m at_ b lsn E D' m'
  | yes (h : b.length ≤ 64 ∧ 0 ≤ lsn) {D' : Dv} {m' : Pm} (hh : Hold D m at_ 0 D' m') : PutR D m at_ b lsn 0 D' (m'.lay at_.toNat b lsn)
/-- a sector is pinned -/
inductive PinR (D : Dv) (m : Pm) (at_ : Int) : Int → Dv → Pm → Prop
  | no {E : Int} {D' : Dv} {m' : Pm} (hh : Hold D m at_ E D' m') (he : E ≠ 0) : PinR D m at_ E D' m'
  | yes {D' : Dv} {m' : Pm} (hh : Hold D m at_ 0 D' m') : PinR D m at_ 0 D' (m'.pin at_.toNat)

/-- all that may be written is, by rising sectors, up to the first error -/
def cleanTo (s : Int) : List Nat → Dv → (Nat → Option Fr) → Int × Dv × (Nat → Option Fr)
  | [], D, F => (0, D, F)
  | i :: l, D, F => match F i with
    | some f => if f.dirty = true ∧ f.lsn ≤ s then (if D.writeE i f.b = 0 then cleanTo s l (D.write i f.b) (upd F i (some { f with dirty := false })) else (D.writeE i f.b, D.write i f.b, F)) else cleanTo s l D F
    | none => cleanTo s l D F
def clean (D : Dv) (m : Pm) : Int × Dv × (Nat → Option Fr) := cleanTo m.safe (dirt D.n m.F) D m.F

/-! what follows -/

theorem mem_keys {n : Nat} {F : Nat → Option Fr} {i : Nat} : i ∈ keys n F ↔ i < n ∧ (F i).isSome = true := by simp [keys]
theorem mem_dirt {n : Nat} {F : Nat → Option Fr} {i : Nat} : i ∈ dirt n F ↔ i < n ∧ isDirty (F i) = true := by simp [dirt]
theorem keys_nodup (n : Nat) (F : Nat → Option Fr) : (keys n F).Nodup := List.nodup_range.filter _
theorem filter_upd_len (n : Nat) (p q : Nat → Bool) (i : Nat) (hi : i < n) (hp : p i = false) (hq : q i = true) (h : ∀ j, j ≠ i → q j = p j) : ((List.range n).filter q).length = ((List.range n).filter p).length + 1 := by
  induction n with
  | zero => omega
  | succ n ih =>
    rw [List.range_succ, List.filter_append, List.filter_append, List.length_append, List.length_append]
    rcases Nat.lt_or_ge i n with h1 | h1
    · rw [ih h1]
      have e : q n = p n := h n (by omega)
      simp only [List.filter_cons, List.filter_nil, e]
      omega
    · obtain rfl : i = n := by omega
      have e : ((List.range i).filter q) = ((List.range i).filter p) := by
        apply List.filter_congr
        intro j hj
        have := List.mem_range.1 hj
        rw [h j (by omega)]
      rw [e]
      simp [hp, hq]
theorem filter_upd_le (n : Nat) (p q : Nat → Bool) (i : Nat) (h : ∀ j, j ≠ i → q j = p j) : ((List.range n).filter q).length ≤ ((List.range n).filter p).length + 1 := by
  induction n with
  | zero => simp
  | succ n ih =>
    rw [List.range_succ, List.filter_append, List.filter_append, List.length_append, List.length_append]
    by_cases h1 : i = n
    · subst h1
      have e : ((List.range i).filter q) = ((List.range i).filter p) := by
        apply List.filter_congr
        intro j hj
        have := List.mem_range.1 hj
        rw [h j (by omega)]
      rw [e]
      have : ([i].filter q).length ≤ 1 := List.length_filter_le q [i]
      omega
    · have e : q n = p n := h n (fun e => h1 e.symm)
      simp only [List.filter_cons, List.filter_nil, e]
      omega
theorem keys_take (n : Nat) (F : Nat → Option Fr) (i : Nat) (hi : i < n) (hf : F i = none) (f : Fr) : (keys n (upd F i (some f))).length = (keys n F).length + 1 :=
  filter_upd_len n _ _ i hi (by rw [hf]; rfl) (by rw [upd_same]; rfl) (fun j hj => by rw [upd_ne _ _ hj])
theorem keys_drop (n : Nat) (F : Nat → Option Fr) (j : Nat) (hj : j < n) (f : Fr) (hf : F j = some f) : (keys n (upd F j none)).length + 1 = (keys n F).length :=
  (filter_upd_len n _ _ j hj (by rw [upd_same]; rfl) (by rw [hf]; rfl) (fun k hk => by rw [upd_ne _ _ hk])).symm

/-- a device that has no budget and is not gone, written -/
theorem sec_write {D : Dv} (hf : D.Free) {i : Nat} (hi : i < D.n) {b : List UInt8} (hb : b.length = 64) (j : Nat) : sec (D.write i b) j = if j = i then b else sec D j := by
  rw [hf.write hi (by omega)]
  have hp : pad b = b := by unfold pad; rw [hb, Nat.sub_self, List.replicate_zero, List.append_nil]
  rw [hp]
  unfold sec Dv.put Dv.more
  show Option.getD (if j = i then some b else D.late j) (D.laid j) = _
  split <;> rfl
theorem sec_write_pad {D : Dv} (hf : D.Free) {i : Nat} (hi : i < D.n) {b : List UInt8} (hb : b.length ≤ 64) (j : Nat) : sec (D.write i b) j = if j = i then pad b else sec D j := by
  rw [hf.write hi hb]
  unfold sec Dv.put Dv.more
  show Option.getD (if j = i then some (pad b) else D.late j) (D.laid j) = _
  split <;> rfl
theorem free_write {D : Dv} (hf : D.Free) {i : Nat} (hi : i < D.n) {b : List UInt8} (hb : b.length ≤ 64) : (D.write i b).Free ∧ (D.write i b).n = D.n ∧ (D.write i b).spent = D.spent + 1 ∧ D.writeE i b = 0 :=
  ⟨hf.wrote _ _, write_n _ _, by rw [hf.write hi hb]; rfl, hf.writeE hi hb⟩
theorem sec_len {D : Dv} (h : D.Ok) {i : Nat} (hi : i < D.n) : (sec D i).length = 64 := h.sector hi

/-- what is told of a sector: as it is held, or as it stands on the device -/
def cur (D : Dv) (m : Pm) (i : Nat) : List UInt8 := match m.F i with | some f => f.b | none => sec D i
theorem cur_some {D : Dv} {m : Pm} {i : Nat} {f : Fr} (h : m.F i = some f) : cur D m i = f.b := by unfold cur; rw [h]
theorem cur_none {D : Dv} {m : Pm} {i : Nat} (h : m.F i = none) : cur D m i = sec D i := by unfold cur; rw [h]
/-- what is not dirty reads as it stands on the device -/
def Agree (D : Dv) (m : Pm) : Prop := ∀ i f, m.F i = some f → f.dirty = false → f.b = sec D i

/-- what a hold on a device without a budget comes to -/
structure Held (D : Dv) (m : Pm) (i : Nat) (E : Int) (D' : Dv) (m' : Pm) : Prop where
  e : E = 0 ∨ E = 5
  free : D'.Free
  ok : D'.Ok
  n : D'.n = D.n
  mok : m'.Ok D.n
  agree : Agree D' m'
  cur : ∀ j, j < D.n → cur D' m' j = cur D m j
  has : E = 0 → ∃ f, m'.F i = some f
  room : m'.room = m.room
  safe : m'.safe = m.safe
  /-- each frame was there, or is new -/
  old : ∀ j f, m'.F j = some f → m.F j = some f ∨ (j = i ∧ m.F i = none ∧ f.dirty = false ∧ f.pins = 0 ∧ f.lsn = 0)
  /-- who is gone might go -/
  left : ∀ j f, m.F j = some f → m'.F j = some f ∨ goes m.safe f
  spent : D'.spent = D.spent ∨ (D'.spent = D.spent + 1 ∧ ∃ j f, m.F j = some f ∧ f.dirty = true ∧ f.lsn ≤ m.safe)
  reads : m'.reads = m.reads ∨ m'.reads = m.reads + 1
  /-- it was read, unless it was held, or none went -/
  new : m.F i = none → E = 0 → m'.reads = m.reads + 1
  full : E = 5 → D' = D ∧ m' = m ∧ m.F i = none ∧ m.room ≤ (keys D.n m.F).length ∧ ∀ j f, m.F j = some f → ¬ goes m.safe f
  same : ∀ f, m.F i = some f → D' = D ∧ m' = m ∧ E = 0
  wide : m.F i = none → (keys D.n m.F).length < m.room → m' = m.take D i ∧ D' = D ∧ E = 0
  dry : (∀ j f, m.F j = some f → f.dirty = false) → D' = D
  stuck : m.F i = none → m.room ≤ (keys D.n m.F).length → (∀ j f, m.F j = some f → ¬ goes m.safe f) → E = 5

theorem take_ok {D : Dv} {m : Pm} (hd : D.Ok) (hm : m.Ok D.n) {i : Nat} (hi : i < D.n) (hf : m.F i = none) (hc : (keys D.n m.F).length < m.room) : (m.take D i).Ok D.n := by
  refine ⟨fun j f hj => ?_, hm.room, ?_, hm.safe⟩
  · by_cases h : j = i
    · subst h
      rw [take_same] at hj
      injection hj with hj
      subst hj
      exact ⟨hi, sec_len hd hi, by show (0 : Int) ≤ 0; omega, by show (0 : Int) ≤ _; omega⟩
    · rw [take_ne _ _ h] at hj
      exact hm.fr j f hj
  · show (keys D.n (upd m.F i _)).length ≤ m.room
    rw [keys_take D.n m.F i hi hf]
    omega
theorem drop_ok {n : Nat} {m : Pm} (hm : m.Ok n) {j : Nat} {f : Fr} (hj : m.F j = some f) : (m.drop j).Ok n ∧ (keys n (m.drop j).F).length < m.room := by
  have h1 := keys_drop n m.F j (hm.fr j f hj).1 f hj
  have h2 := hm.few
  have h3 : (keys n (m.drop j).F).length + 1 = (keys n m.F).length := h1
  refine ⟨⟨fun k g hk => ?_, hm.room, by show (keys n (m.drop j).F).length ≤ m.room; omega, hm.safe⟩, by omega⟩
  by_cases h : k = j
  · subst h
    rw [drop_same] at hk
    cases hk
  · rw [drop_ne _ h] at hk
    exact hm.fr k g hk

/-- in a pool of room one there is one frame at most -/
theorem one_frame {n : Nat} {m : Pm} (hm : m.Ok n) (h1 : m.room = 1) {i j : Nat} {f g : Fr} (hi : m.F i = some f) (hj : m.F j = some g) : i = j := by
  refine Classical.byContradiction fun hne => ?_
  have h2 := keys_drop n m.F i (hm.fr i f hi).1 f hi
  have h3 := hm.few
  have h4 : j ∈ keys n (upd m.F i none) := mem_keys.2 ⟨(hm.fr j g hj).1, by rw [upd_ne _ _ (fun e => hne e.symm), hj]; rfl⟩
  have h5 := List.length_pos_of_mem h4
  omega

theorem hold_held {D : Dv} {m : Pm} {i : Nat} {E : Int} {D' : Dv} {m' : Pm} (h : Hold D m (i : Int) E D' m') (hi : i < D.n) (hf : D.Free) (hd : D.Ok) (hm : m.Ok D.n) (ha : Agree D m) : Held D m i E D' m' := by
  cases h with
  | gone h => rw [hf.gone] at h; cases h
  | bad h hr => rw [has_of hi] at hr; cases hr
  | held h k hk f hff =>
    obtain rfl : i = k := by omega
    exact ⟨.inl rfl, hf, hd, rfl, hm, ha, fun _ _ => rfl, fun _ => ⟨f, hff⟩, rfl, rfl, fun _ _ h => .inl h, fun _ _ h => .inl h, .inl rfl, .inl rfl, fun h => (by rw [hff] at h; cases h), fun h => (by cases h), fun _ _ => ⟨rfl, rfl, rfl⟩, fun h => (by rw [hff] at h; cases h), fun _ => rfl, fun h => (by rw [hff] at h; cases h)⟩
  | full h k hk hr hff hc hn =>
    obtain rfl : i = k := by omega
    exact ⟨.inr rfl, hf, hd, rfl, hm, ha, fun _ _ => rfl, fun h => (by cases h), rfl, rfl, fun _ _ h => .inl h, fun _ _ h => .inl h, .inl rfl, .inl rfl, fun _ h => (by cases h), fun _ => ⟨rfl, rfl, hff, hc, hn⟩, fun f h => (by rw [hff] at h; cases h), fun _ h => (by omega), fun _ => rfl, fun _ _ _ => rfl⟩
  | room h k hk hr hff hc =>
    obtain rfl : i = k := by omega
    refine ⟨.inl rfl, hf, hd, rfl, take_ok hd hm hr hff hc, ?_, ?_, fun _ => ⟨_, take_same _ _ _⟩, rfl, rfl, ?_, ?_, .inl rfl, .inr rfl, fun _ _ => rfl, fun h => (by cases h), fun f h => (by rw [hff] at h; cases h), fun _ _ => ⟨rfl, rfl, rfl⟩, fun _ => rfl, fun _ h _ => (by omega)⟩
    · intro j f hj hfd
      by_cases e : j = i
      · subst e
        rw [take_same] at hj
        injection hj with hj
        subst hj
        rfl
      · rw [take_ne _ _ e] at hj
        exact ha j f hj hfd
    · intro j hj
      by_cases e : j = i
      · subst e
        rw [cur_none hff]
        exact cur_some (take_same _ _ _)
      · unfold cur
        rw [take_ne _ _ e]
    · intro j f hj
      by_cases e : j = i
      · subst e
        rw [take_same] at hj
        injection hj with hj
        subst hj
        exact .inr ⟨rfl, hff, rfl, rfl, rfl⟩
      · rw [take_ne _ _ e] at hj
        exact .inl hj
    · intro j f hj
      left
      have e : j ≠ i := fun e => by rw [e, hff] at hj; cases hj
      rw [take_ne _ _ e]
      exact hj
  | fails h k hk hr hff hc j f hj hg hfd hw =>
    exact absurd (free_write hf (hm.fr j f hj).1 (by have := (hm.fr j f hj).2.1; omega)).2.2.2 hw
  | clean h k hk hr hff hc j f hj hg hfd =>
    obtain rfl : i = k := by omega
    have hne : j ≠ i := fun e => by rw [e, hff] at hj; cases hj
    obtain ⟨h1, h2⟩ := drop_ok hm hj
    have hff' : (m.drop j).F i = none := by rw [drop_ne _ (fun e => hne e.symm)]; exact hff
    refine ⟨.inl rfl, hf, hd, rfl, take_ok hd h1 hr hff' h2, ?_, ?_, fun _ => ⟨_, take_same _ _ _⟩, rfl, rfl, ?_, ?_, .inl rfl, .inr rfl, fun _ _ => rfl, fun h => (by cases h), fun f h => (by rw [hff] at h; cases h), fun _ h => (by omega), fun _ => rfl, fun _ _ h => absurd hg (h j f hj)⟩
    · intro q g hq hgd
      by_cases e : q = i
      · subst e
        rw [take_same] at hq
        injection hq with hq
        subst hq
        rfl
      · rw [take_ne _ _ e] at hq
        by_cases e2 : q = j
        · subst e2; rw [drop_same] at hq; cases hq
        · rw [drop_ne _ e2] at hq
          exact ha q g hq hgd
    · intro q hq
      by_cases e : q = i
      · subst e
        rw [cur_none hff]
        exact cur_some (take_same _ _ _)
      · by_cases e2 : q = j
        · subst e2
          rw [cur_some hj, ha q f hj hfd]
          refine cur_none ?_
          rw [take_ne _ _ e, drop_same]
        · unfold cur
          rw [take_ne _ _ e, drop_ne _ e2]
    · intro q g hq
      by_cases e : q = i
      · subst e
        rw [take_same] at hq
        injection hq with hq
        subst hq
        exact .inr ⟨rfl, hff, rfl, rfl, rfl⟩
      · rw [take_ne _ _ e] at hq
        by_cases e2 : q = j
        · subst e2; rw [drop_same] at hq; cases hq
        · rw [drop_ne _ e2] at hq
          exact .inl hq
    · intro q g hq
      by_cases e2 : q = j
      · subst e2
        rw [hj] at hq
        injection hq with hq
        subst hq
        exact .inr hg
      · left
        have e : q ≠ i := fun e => by rw [e, hff] at hq; cases hq
        rw [take_ne _ _ e, drop_ne _ e2]
        exact hq
  | wrote h k hk hr hff hc j f hj hg hfd hw =>
    obtain rfl : i = k := by omega
    have hne : j ≠ i := fun e => by rw [e, hff] at hj; cases hj
    obtain ⟨f1, f2, f3, f4⟩ := hm.fr j f hj
    obtain ⟨w1, w2, w3, w4⟩ := free_write hf f1 (b := f.b) (by omega)
    have hs := fun q => sec_write hf f1 f2 q
    obtain ⟨h1, h2⟩ := drop_ok hm hj
    have hff' : (m.drop j).F i = none := by rw [drop_ne _ (fun e => hne e.symm)]; exact hff
    have hdw := hd.write (j : Int) f.b
    have hmt : ((m.drop j).take (D.write (j : Int) f.b) i).Ok D.n := by
      have := take_ok (m := m.drop j) hdw (by rw [w2]; exact h1) (by rw [w2]; exact hr) hff' (by rw [w2]; exact h2)
      rw [w2] at this
      exact this
    generalize D.write (j : Int) f.b = D' at *
    refine ⟨.inl rfl, w1, hdw, w2, hmt, ?_, ?_, fun _ => ⟨_, take_same _ _ _⟩, rfl, rfl, ?_, ?_, .inr ⟨w3, j, f, hj, hfd, hg.2 hfd⟩, .inr rfl, fun _ _ => rfl, fun h => (by cases h), fun f h => (by rw [hff] at h; cases h), fun _ h => (by omega), fun h => absurd (h j f hj) (by rw [hfd]; simp), fun _ _ h => absurd hg (h j f hj)⟩
    · intro q g hq hgd
      by_cases e : q = i
      · subst e
        rw [take_same] at hq
        injection hq with hq
        subst hq
        rfl
      · rw [take_ne _ _ e] at hq
        by_cases e2 : q = j
        · subst e2; rw [drop_same] at hq; cases hq
        · rw [drop_ne _ e2] at hq
          rw [hs, if_neg e2]
          exact ha q g hq hgd
    · intro q hq
      by_cases e : q = i
      · subst e
        rw [cur_none hff]
        refine (cur_some (take_same _ _ _)).trans ?_
        show sec D' q = _
        rw [hs, if_neg (fun e => hne e.symm)]
      · by_cases e2 : q = j
        · subst e2
          rw [cur_some hj]
          refine (cur_none ?_).trans (by rw [hs, if_pos rfl])
          rw [take_ne _ _ e, drop_same]
        · unfold cur
          rw [take_ne _ _ e, drop_ne _ e2]
          cases m.F q with
          | some g => rfl
          | none => show sec D' q = sec D q; rw [hs, if_neg e2]
    · intro q g hq
      by_cases e : q = i
      · subst e
        rw [take_same] at hq
        injection hq with hq
        subst hq
        exact .inr ⟨rfl, hff, rfl, rfl, rfl⟩
      · rw [take_ne _ _ e] at hq
        by_cases e2 : q = j
        · subst e2; rw [drop_same] at hq; cases hq
        · rw [drop_ne _ e2] at hq
          exact .inl hq
    · intro q g hq
      by_cases e2 : q = j
      · subst e2
        rw [hj] at hq
        injection hq with hq
        subst hq
        exact .inr hg
      · left
        have e : q ≠ i := fun e => by rw [e, hff] at hq; cases hq
        rw [take_ne _ _ e, drop_ne _ e2]
        exact hq

end Pl
end Go.Proofs.Ytnpgmiokimahiaa
