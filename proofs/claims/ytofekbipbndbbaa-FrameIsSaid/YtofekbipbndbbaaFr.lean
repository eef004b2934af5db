/-
  Plain facts on pieces, as numbers and bytes: which may be, a piece's sector, what bytes tell, a record's pieces, what is gathered. No program's walk stands in this text.
-/
import Derived.Test.YtofekbipbndbbaaSeal
import Derived.Test.YtofekbipbndbbaaLies
namespace Go.Proofs.Ytofekbipbndbbaa
open Go.RowKit Crc Wm

structure Pc where
  E : Int
  A : Int
  I : Int
  C : Int
  D : List UInt8

def Pc.none : Pc := ⟨0, 0, 0, 0, []⟩

/-- may a piece be? -/
def Pc.May (p : Pc) : Prop := (0 ≤ p.E ∧ p.E ≤ 4294967295) ∧ (0 ≤ p.A ∧ p.A ≤ 2199023255552) ∧ (1 ≤ p.C ∧ p.C ≤ 1024) ∧ (0 ≤ p.I ∧ p.I ≤ p.C - 1) ∧ (p.D.length = 44 ∨ (p.I = p.C - 1 ∧ p.D.length < 44))
instance (p : Pc) : Decidable p.May := by unfold Pc.May; infer_instance

def zeroB (n : Nat) : List UInt8 := List.replicate n 0

/-- a piece's 60 bytes, and its sector -/
def Pc.head (p : Pc) : List UInt8 := putB 4 p.E.toNat ++ putB 6 p.A.toNat ++ putB 2 p.I.toNat ++ putB 2 p.C.toNat ++ putB 1 p.D.length ++ putB 1 0
def Pc.body (p : Pc) : List UInt8 := p.head ++ p.D ++ zeroB (44 - p.D.length)
def Pc.sector (p : Pc) : List UInt8 := sum4 p.body ++ p.body

def Pc.writeE (p : Pc) : Int := if p.May then 0 else 1
def Pc.writeB (p : Pc) : List UInt8 := if p.May then p.sector else []

theorem length_head (p : Pc) : p.head.length = 16 := by
  unfold Pc.head
  simp only [List.length_append, length_putB]
theorem length_body (p : Pc) (h : p.D.length ≤ 44) : p.body.length = 60 := by
  unfold Pc.body zeroB
  rw [List.length_append, List.length_append, length_head, List.length_replicate]
  omega
theorem Pc.May.len {p : Pc} (h : p.May) : p.D.length ≤ 44 := by
  obtain ⟨_, _, _, _, h⟩ := h
  omega
theorem length_sector (p : Pc) (h : p.D.length ≤ 44) : p.sector.length = 64 := by
  unfold Pc.sector
  rw [List.length_append, length_sum4, length_body p h]

/-- what bytes tell -/
def fieldN (l : List UInt8) (k n : Nat) : Nat := valB ((l.drop k).take n)
def sizeN (l : List UInt8) : Nat := fieldN l 18 1
def tell (l : List UInt8) : Pc := ⟨fieldN l 4 4, fieldN l 8 6, fieldN l 14 2, fieldN l 16 2, (l.drop 20).take (sizeN l)⟩

theorem putB_valB (l : List UInt8) : ∀ k, l.length = k → putB k (valB l) = l := by
  induction l with
  | nil => intro k h; subst h; rfl
  | cons x r ih =>
    intro k h
    subst h
    rw [List.length_cons, putB_succ, valB]
    have hx : x.toNat < 256 := x.toNat_lt
    have e1 : UInt8.ofNat (x.toNat + 256 * valB r) = x := by
      apply UInt8.toNat_inj.1
      rw [toNat_ofNat]
      omega
    have e2 : (x.toNat + 256 * valB r) / 256 = valB r := by omega
    rw [e1, e2, ih _ rfl]

theorem fieldN_lt (l : List UInt8) (k n : Nat) : fieldN l k n < 256 ^ n := by
  unfold fieldN
  refine Nat.lt_of_lt_of_le (valB_lt _) (Nat.pow_le_pow_right (by omega) ?_)
  rw [List.length_take]
  omega
theorem put_field (l : List UInt8) (k n : Nat) (h : k + n ≤ l.length) : putB n (fieldN l k n) = (l.drop k).take n :=
  putB_valB _ n (by rw [List.length_take, List.length_drop]; omega)

/-- what stands behind the first k bytes, in two -/
theorem drop_two (l : List UInt8) (k n : Nat) : l.drop k = (l.drop k).take n ++ l.drop (k + n) := by
  rw [← List.drop_drop, List.take_append_drop]

/-- is all behind the data 0, and the byte behind the size? -/
def Clean (l : List UInt8) : Prop := fieldN l 19 1 = 0 ∧ ∀ x ∈ l.drop (20 + sizeN l), x = 0
instance (l : List UInt8) : Decidable (Clean l) := by unfold Clean; infer_instance

theorem all_zero (l : List UInt8) (n : Nat) (h : l.length = n) : (∀ x ∈ l, x = 0) ↔ l = zeroB n := by
  unfold zeroB
  rw [List.eq_replicate_iff]
  exact ⟨fun g => ⟨h, g⟩, fun g => g.2⟩

theorem tell_D (l : List UInt8) (h : l.length = 64) (hs : sizeN l ≤ 44) : (tell l).D.length = sizeN l := by
  show ((l.drop 20).take (sizeN l)).length = _
  rw [List.length_take, List.length_drop]
  omega

/-- of 64 bytes: what is written of what they tell is they, just if they are clean (and their sum is right) -/
theorem body_tell (l : List UInt8) (h : l.length = 64) (hs : sizeN l ≤ 44) : (tell l).body = l.drop 4 ↔ Clean l := by
  have hD := tell_D l h hs
  have e : (tell l).head = (l.drop 4).take 4 ++ (l.drop 8).take 6 ++ (l.drop 14).take 2 ++ (l.drop 16).take 2 ++ (l.drop 18).take 1 ++ putB 1 0 := by
    unfold Pc.head
    rw [hD]
    show putB 4 ((fieldN l 4 4 : Nat) : Int).toNat ++ putB 6 ((fieldN l 8 6 : Nat) : Int).toNat ++ putB 2 ((fieldN l 14 2 : Nat) : Int).toNat ++ putB 2 ((fieldN l 16 2 : Nat) : Int).toNat ++ putB 1 (fieldN l 18 1) ++ putB 1 0 = _
    rw [Int.toNat_natCast, Int.toNat_natCast, Int.toNat_natCast, Int.toNat_natCast, put_field l 4 4 (by omega), put_field l 8 6 (by omega), put_field l 14 2 (by omega), put_field l 16 2 (by omega), put_field l 18 1 (by omega)]
  have f : l.drop 4 = (l.drop 4).take 4 ++ (l.drop 8).take 6 ++ (l.drop 14).take 2 ++ (l.drop 16).take 2 ++ (l.drop 18).take 1 ++ (l.drop 19).take 1 ++ (l.drop 20).take (sizeN l) ++ l.drop (20 + sizeN l) := by
    conv => lhs; rw [drop_two l 4 4, drop_two l 8 6, drop_two l 14 2, drop_two l 16 2, drop_two l 18 1, drop_two l 19 1, drop_two l 20 (sizeN l)]
    simp only [List.append_assoc]
  unfold Pc.body Clean
  rw [hD, e]
  conv => lhs; rhs; rw [f]
  show _ ++ putB 1 0 ++ (l.drop 20).take (sizeN l) ++ zeroB (44 - sizeN l) = _ ↔ _
  have hz : (l.drop (20 + sizeN l)).length = 44 - sizeN l := by rw [List.length_drop]; omega
  rw [all_zero _ _ hz]
  have hn : (l.drop 19).take 1 = putB 1 (fieldN l 19 1) := (put_field l 19 1 (by omega)).symm
  rw [hn]
  constructor
  · intro g
    have g1 := List.append_inj g (by simp only [List.length_append, List.length_take, List.length_drop, length_putB])
    have g2 := List.append_inj g1.1 (by simp only [List.length_append, List.length_take, List.length_drop, length_putB])
    have g3 := List.append_cancel_left g2.1
    refine ⟨?_, g1.2.symm⟩
    have g4 := congrArg valB g3
    rw [val_putB, val_putB, Nat.mod_eq_of_lt (fieldN_lt l 19 1)] at g4
    simpa using g4.symm
  · rintro ⟨g1, g2⟩
    rw [g1, g2]

/-- Read's error, and what it tells -/
def readE (l : List UInt8) : Int :=
  if l.length < 64 then 2 else if 64 < l.length then 3 else if l.take 4 ≠ sum4 (l.drop 4) then 4 else if sizeN l ≤ 44 ∧ Clean l ∧ (tell l).May then 0 else 3
def readP (l : List UInt8) : Pc := if readE l = 0 then tell l else Pc.none

theorem readE_ok (l : List UInt8) : readE l = 0 ↔ l.length = 64 ∧ l.take 4 = sum4 (l.drop 4) ∧ sizeN l ≤ 44 ∧ Clean l ∧ (tell l).May := by
  unfold readE
  constructor
  · intro h
    split at h
    · omega
    · split at h
      · omega
      · split at h
        · omega
        · split at h
          · next h1 h2 h3 h4 => exact ⟨by omega, Decidable.not_not.1 h3, h4⟩
          · omega
  · rintro ⟨h1, h2, h3⟩
    rw [if_neg (by omega), if_neg (by omega), if_neg (by rw [h2]; exact fun h => h rfl), if_pos h3]
theorem readE_short (l : List UInt8) (h : l.length < 64) : readE l = 2 := by unfold readE; rw [if_pos h]
theorem readE_long (l : List UInt8) (h : 64 < l.length) : readE l = 3 := by unfold readE; rw [if_neg (by omega), if_pos h]
theorem readE_sum (l : List UInt8) (h : l.length = 64) (hs : l.take 4 ≠ sum4 (l.drop 4)) : readE l = 4 := by unfold readE; rw [if_neg (by omega), if_neg (by omega), if_pos hs]
theorem readE_form (l : List UInt8) (h : l.length = 64) (hs : l.take 4 = sum4 (l.drop 4)) (h2 : ¬ (sizeN l ≤ 44 ∧ Clean l ∧ (tell l).May)) : readE l = 3 := by
  unfold readE; rw [if_neg (by omega), if_neg (by omega), if_neg (by rw [hs]; exact fun h => h rfl), if_neg h2]
theorem readE_four (l : List UInt8) : readE l = 0 ∨ readE l = 2 ∨ readE l = 3 ∨ readE l = 4 := by
  unfold readE
  split
  · exact .inr (.inl rfl)
  · split
    · exact .inr (.inr (.inl rfl))
    · split
      · exact .inr (.inr (.inr rfl))
      · split
        · exact .inl rfl
        · exact .inr (.inr (.inl rfl))
theorem readP_not (l : List UInt8) (h : readE l ≠ 0) : readP l = Pc.none := by unfold readP; rw [if_neg h]
theorem readP_ok (l : List UInt8) (h : readE l = 0) : readP l = tell l := by unfold readP; rw [if_pos h]
theorem readP_may (l : List UInt8) (h : readE l = 0) : (readP l).May := by rw [readP_ok l h]; exact ((readE_ok l).1 h).2.2.2.2

/-- what is read is written to the same sector -/
theorem write_read (l : List UInt8) (h : readE l = 0) : (readP l).sector = l := by
  rw [readP_ok l h]
  obtain ⟨h1, h2, h3, h4, h5⟩ := (readE_ok l).1 h
  unfold Pc.sector
  rw [(body_tell l h1 h3).2 h4, ← h2, List.take_append_drop]

/-- the document's Read: what is written of it is it -/
theorem read_by_write (l : List UInt8) (h : l.length = 64) (hs : l.take 4 = sum4 (l.drop 4)) (h2 : sizeN l ≤ 44) : ((tell l).May ∧ (tell l).sector = l) ↔ readE l = 0 := by
  rw [readE_ok]
  constructor
  · rintro ⟨h3, h4⟩
    refine ⟨h, hs, h2, ?_, h3⟩
    rw [← body_tell l h h2]
    have := congrArg (List.drop 4) h4
    unfold Pc.sector at this
    rwa [List.drop_left' (length_sum4 _)] at this
  · intro g
    exact ⟨g.2.2.2.2, by have := write_read l ((readE_ok l).2 g); rwa [readP_ok l ((readE_ok l).2 g)] at this⟩

/-- pieces of a list, where they stand -/
theorem cut_at {a b c : List UInt8} {k n : Nat} (ha : a.length = k) (hb : b.length = n) : ((a ++ (b ++ c)).drop k).take n = b := by
  subst ha hb
  rw [List.drop_left, List.take_left]

/-- a piece that is written is read -/
theorem read_write (p : Pc) (h : p.May) : readE p.sector = 0 ∧ readP p.sector = p := by
  have hl := h.len
  have hS := length_sum4 p.body
  have e : p.sector = sum4 p.body ++ (putB 4 p.E.toNat ++ (putB 6 p.A.toNat ++ (putB 2 p.I.toNat ++ (putB 2 p.C.toNat ++ (putB 1 p.D.length ++ (putB 1 0 ++ (p.D ++ zeroB (44 - p.D.length)))))))) := by
    unfold Pc.sector
    congr 1
  have b1 : fieldN p.sector 4 4 = p.E.toNat := by
    unfold fieldN; rw [e, cut_at hS (length_putB _ _), val_putB_fit]
    have := h.1; omega
  have b2 : fieldN p.sector 8 6 = p.A.toNat := by
    unfold fieldN
    rw [e, ← List.append_assoc, cut_at (by simp only [List.length_append, hS, length_putB]) (length_putB _ _), val_putB_fit]
    have := h.2.1; omega
  have b3 : fieldN p.sector 14 2 = p.I.toNat := by
    unfold fieldN
    rw [e, ← List.append_assoc, ← List.append_assoc, cut_at (by simp only [List.length_append, hS, length_putB]) (length_putB _ _), val_putB_fit]
    have := h.2.2; omega
  have b4 : fieldN p.sector 16 2 = p.C.toNat := by
    unfold fieldN
    rw [e, ← List.append_assoc, ← List.append_assoc, ← List.append_assoc, cut_at (by simp only [List.length_append, hS, length_putB]) (length_putB _ _), val_putB_fit]
    have := h.2.2; omega
  have b5 : sizeN p.sector = p.D.length := by
    unfold sizeN fieldN
    rw [e, ← List.append_assoc, ← List.append_assoc, ← List.append_assoc, ← List.append_assoc, cut_at (by simp only [List.length_append, hS, length_putB]) (length_putB _ _), val_putB_fit]
    omega
  have b6 : (p.sector.drop 20).take p.D.length = p.D := by
    rw [e, ← List.append_assoc, ← List.append_assoc, ← List.append_assoc, ← List.append_assoc, ← List.append_assoc, ← List.append_assoc, cut_at (by simp only [List.length_append, hS, length_putB]) rfl]
  have ht : tell p.sector = p := by
    unfold tell
    rw [b1, b2, b3, b4, b5, b6]
    obtain ⟨h1, h2, h3, h4, _⟩ := h
    rw [Int.toNat_of_nonneg h1.1, Int.toNat_of_nonneg h2.1, Int.toNat_of_nonneg h4.1, Int.toNat_of_nonneg (by omega)]
  have h0 : readE p.sector = 0 := by
    refine (read_by_write p.sector (length_sector p hl) ?_ (by rw [b5]; exact hl)).1 ⟨by rw [ht]; exact h, by rw [ht]⟩
    unfold Pc.sector
    rw [List.take_left' hS, List.drop_left' hS]
  exact ⟨h0, by rw [readP_ok _ h0, ht]⟩

/-- how many pieces so many bytes are -/
def need (n : Int) : Int := if n ≤ 0 then 1 else (n - 1) / 44 + 1

/-- a record's piece at i -/
def pieceAt (epoch at_ : Int) (C : Nat) (b : List UInt8) (i : Nat) : Pc := ⟨epoch, at_ + i, i, C, (b.drop (44 * i)).take 44⟩
def needN (b : List UInt8) : Nat := (need b.length).toNat

theorem needN_eq (b : List UInt8) : ((needN b : Nat) : Int) = need b.length := by
  unfold needN need
  split <;> omega
theorem needN_pos (b : List UInt8) : 1 ≤ needN b := by
  unfold needN need
  split <;> omega
theorem needN_bd (b : List UInt8) : b.length ≤ 44 * needN b ∧ 44 * (needN b - 1) ≤ b.length ∧ (1 < needN b → 44 * (needN b - 1) < b.length) := by
  have h := needN_eq b
  unfold need at h
  split at h <;> omega

def cutE (epoch at_ : Int) (b : List UInt8) : Int :=
  if 1024 < needN b then 13 else if (0 ≤ epoch ∧ epoch ≤ 4294967295) ∧ 0 ≤ at_ ∧ at_ + ((needN b : Int) - 1) ≤ 2199023255552 then 0 else 1
def cutAll (epoch at_ : Int) (b : List UInt8) : List (List UInt8) := (List.range (needN b)).map fun i => (pieceAt epoch at_ (needN b) b i).sector
def cutL (epoch at_ : Int) (b : List UInt8) : List (List UInt8) := if cutE epoch at_ b = 0 then cutAll epoch at_ b else []

theorem piece_len (epoch at_ : Int) (C : Nat) (b : List UInt8) (i : Nat) : (pieceAt epoch at_ C b i).D.length = min 44 (b.length - 44 * i) := by
  show ((b.drop (44 * i)).take 44).length = _
  rw [List.length_take, List.length_drop]

/-- a piece of a record may be, just if its epoch and its place may -/
theorem piece_may (epoch at_ : Int) (b : List UInt8) (i : Nat) (hi : i < needN b) (hn : needN b ≤ 1024) :
    (pieceAt epoch at_ (needN b) b i).May ↔ (0 ≤ epoch ∧ epoch ≤ 4294967295) ∧ 0 ≤ at_ + i ∧ at_ + i ≤ 2199023255552 := by
  have hb := needN_bd b
  have hl := piece_len epoch at_ (needN b) b i
  unfold Pc.May
  rw [hl]
  show (0 ≤ epoch ∧ epoch ≤ 4294967295) ∧ (0 ≤ at_ + (i : Int) ∧ at_ + (i : Int) ≤ 2199023255552) ∧ (1 ≤ (needN b : Int) ∧ (needN b : Int) ≤ 1024) ∧ (0 ≤ (i : Int) ∧ (i : Int) ≤ (needN b : Int) - 1) ∧ (min 44 (b.length - 44 * i) = 44 ∨ ((i : Int) = (needN b : Int) - 1 ∧ min 44 (b.length - 44 * i) < 44)) ↔ _
  constructor
  · rintro ⟨h1, h2, _⟩
    exact ⟨h1, h2⟩
  · rintro ⟨h1, h2⟩
    refine ⟨h1, h2, by omega, by omega, ?_⟩
    rcases Nat.lt_or_ge (i + 1) (needN b) with h | h
    · left; omega
    · omega

/-- the error at a place of a record, whose first piece has this epoch and count -/
def errAt (l : List (List UInt8)) (at_ ep ct : Int) (i : Nat) : Int :=
  match l[i]? with
  | none => 2
  | some x => if readE x ≠ 0 then readE x else if (readP x).A = at_ + i ∧ (readP x).I = i ∧ (readP x).E = ep ∧ (readP x).C = ct then 0 else 3
/-- the first one of the first n -/
def firstErr (l : List (List UInt8)) (at_ ep ct : Int) : Nat → Int
  | 0 => 0
  | n + 1 => if firstErr l at_ ep ct n ≠ 0 then firstErr l at_ ep ct n else errAt l at_ ep ct n
def dataAt (l : List (List UInt8)) (i : Nat) : List UInt8 := (readP (l.getD i [])).D
def datas (l : List (List UInt8)) : Nat → List UInt8
  | 0 => []
  | n + 1 => datas l n ++ dataAt l n
def headP (l : List (List UInt8)) : Pc := readP (l.getD 0 [])
def headE (l : List (List UInt8)) : Int := match l[0]? with | none => 2 | some x => readE x
def gatE (l : List (List UInt8)) (at_ : Int) : Int := if headE l ≠ 0 then headE l else firstErr l at_ (headP l).E (headP l).C (headP l).C.toNat
def gatB (l : List (List UInt8)) (at_ : Int) : List UInt8 := if gatE l at_ = 0 then datas l (headP l).C.toNat else []
def gatEp (l : List (List UInt8)) (at_ : Int) : Int := if gatE l at_ = 0 then (headP l).E else 0
def gatC (l : List (List UInt8)) (at_ : Int) : Int := if gatE l at_ = 0 then (headP l).C else 0

theorem firstErr_le (l : List (List UInt8)) (at_ ep ct : Int) (n : Nat) : ∀ m, n ≤ m → firstErr l at_ ep ct n ≠ 0 → firstErr l at_ ep ct m = firstErr l at_ ep ct n := by
  intro m hm h
  induction m with
  | zero => obtain rfl : n = 0 := by omega
            rfl
  | succ m ih =>
    rcases Nat.lt_or_ge n (m + 1) with h1 | h1
    · have := ih (by omega)
      show (if firstErr l at_ ep ct m ≠ 0 then _ else _) = _
      rw [this, if_pos h]
    · obtain rfl : n = m + 1 := by omega
      rfl
theorem firstErr_zero (l : List (List UInt8)) (at_ ep ct : Int) (n : Nat) : firstErr l at_ ep ct n = 0 ↔ ∀ i, i < n → errAt l at_ ep ct i = 0 := by
  induction n with
  | zero => exact ⟨fun _ i hi => by omega, fun _ => rfl⟩
  | succ n ih =>
    show (if firstErr l at_ ep ct n ≠ 0 then _ else _) = _ ↔ _
    by_cases h : firstErr l at_ ep ct n = 0
    · rw [if_neg (by rw [h]; exact fun h => h rfl)]
      constructor
      · intro g i hi
        rcases Nat.lt_or_ge i n with h1 | h1
        · exact ih.1 h i h1
        · obtain rfl : i = n := by omega
          exact g
      · intro g
        exact g n (by omega)
    · rw [if_pos h]
      constructor
      · intro g; exact absurd g h
      · intro g
        exact absurd (ih.2 fun i hi => g i (by omega)) h
/-- the first error of n and one more -/
theorem firstErr_step (l : List (List UInt8)) (at_ ep ct : Int) (n : Nat) (h : firstErr l at_ ep ct n = 0) : firstErr l at_ ep ct (n + 1) = errAt l at_ ep ct n := by
  show (if firstErr l at_ ep ct n ≠ 0 then _ else _) = _
  rw [if_neg (by rw [h]; exact fun h => h rfl)]
/-- an error at n, none ahead of it: that is what comes of any more -/
theorem firstErr_at (l : List (List UInt8)) (at_ ep ct : Int) (n m : Nat) (hm : n < m) (h : firstErr l at_ ep ct n = 0) (he : errAt l at_ ep ct n ≠ 0) : firstErr l at_ ep ct m = errAt l at_ ep ct n := by
  have h1 := firstErr_step l at_ ep ct n h
  rw [← h1]
  exact firstErr_le l at_ ep ct (n + 1) m hm (by rw [h1]; exact he)

end Go.Proofs.Ytofekbipbndbbaa
