/-
  What a device tells of itself, by its words alone: which may be, the sector of each, what bytes tell; there and back, one bit turned. No program.
-/
import Derived.Test.YtojidejlohpeaaaLies
namespace Go.Proofs.Ytojidejlohpeaaa
set_option maxRecDepth 100000
open Go.RowKit Crc Wm

/-- the seven numbers -/
structure Sup where
  V : Int
  E : Int
  B : Int
  C : Int
  L : Int
  H : Int
  A : Int

namespace Sup

def zero : Sup := ⟨0, 0, 0, 0, 0, 0, 0⟩

/-- may it be? -/
def May (s : Sup) : Prop :=
  (0 ≤ s.V ∧ s.V ≤ 281474976710656) ∧ (0 ≤ s.E ∧ s.E ≤ 4294967295) ∧ (0 ≤ s.B ∧ s.B ≤ 256) ∧ (0 ≤ s.C ∧ s.C ≤ 64) ∧ (1 ≤ s.L ∧ s.L ≤ 4096) ∧ (0 ≤ s.H ∧ s.H ≤ 1099511627776) ∧ (0 ≤ s.A ∧ s.A ≤ 1099511627776)
instance (s : Sup) : Decidable s.May := by unfold May; infer_instance
/-- as Go has them -/
def Wf (s : Sup) : Prop :=
  (-9223372036854775808 ≤ s.V ∧ s.V ≤ 9223372036854775807) ∧ (-9223372036854775808 ≤ s.E ∧ s.E ≤ 9223372036854775807) ∧ (-9223372036854775808 ≤ s.B ∧ s.B ≤ 9223372036854775807) ∧ (-9223372036854775808 ≤ s.C ∧ s.C ≤ 9223372036854775807) ∧
  (-9223372036854775808 ≤ s.L ∧ s.L ≤ 9223372036854775807) ∧ (-9223372036854775808 ≤ s.H ∧ s.H ≤ 9223372036854775807) ∧ (-9223372036854775808 ≤ s.A ∧ s.A ≤ 9223372036854775807)
theorem May.wf {s : Sup} (h : s.May) : s.Wf := by
  unfold May at h
  unfold Wf
  omega
theorem zero_wf : zero.Wf := by unfold Wf zero; decide

/-- the i-th number, its bounds, how many bytes it has -/
def at_ (s : Sup) (i : Nat) : Int := if i = 0 then s.V else if i = 1 then s.E else if i = 2 then s.B else if i = 3 then s.C else if i = 4 then s.L else if i = 5 then s.H else s.A
def lo (i : Nat) : Int := if i = 4 then 1 else 0
def hi (i : Nat) : Int := if i = 0 then 281474976710656 else if i = 1 then 4294967295 else if i = 2 then 256 else if i = 3 then 64 else if i = 4 then 4096 else 1099511627776
def sz (i : Nat) : Nat := if i = 0 then 8 else if i = 1 then 4 else if i < 5 then 2 else 8
/-- where it stands -/
def off (i : Nat) : Nat := if i = 0 then 8 else if i = 1 then 16 else if i = 2 then 20 else if i = 3 then 22 else if i = 4 then 24 else if i = 5 then 26 else if i = 6 then 34 else 42

theorem off_succ (i : Nat) (h : i < 7) : off (i + 1) = off i + sz i := by
  rcases i with _ | _ | _ | _ | _ | _ | _ | i <;> first | rfl | omega
theorem sz_bd (i : Nat) : 1 ≤ sz i ∧ sz i ≤ 8 := by
  unfold sz
  split
  · omega
  · split
    · omega
    · split <;> omega

/-- do the first n stand within their bounds? -/
def okTo (s : Sup) (n : Nat) : Prop := ∀ i, i < n → lo i ≤ s.at_ i ∧ s.at_ i ≤ hi i
theorem okTo_zero (s : Sup) : s.okTo 0 := fun _ h => by omega
theorem okTo_succ {s : Sup} {n : Nat} : s.okTo (n + 1) ↔ s.okTo n ∧ lo n ≤ s.at_ n ∧ s.at_ n ≤ hi n := by
  constructor
  · exact fun h => ⟨fun i hi => h i (by omega), h n (by omega)⟩
  · rintro ⟨h1, h2⟩ i hi
    rcases Nat.lt_or_ge i n with h3 | h3
    · exact h1 i h3
    · obtain rfl : i = n := by omega
      exact h2
theorem okTo_all {s : Sup} : s.okTo 7 ↔ s.May := by
  constructor
  · intro h
    exact ⟨h 0 (by omega), h 1 (by omega), h 2 (by omega), h 3 (by omega), h 4 (by omega), h 5 (by omega), h 6 (by omega)⟩
  · rintro ⟨h0, h1, h2, h3, h4, h5, h6⟩ i hi
    rcases i with _ | _ | _ | _ | _ | _ | _ | i
    · exact h0
    · exact h1
    · exact h2
    · exact h3
    · exact h4
    · exact h5
    · exact h6
    · omega

def nameB : List UInt8 := [72, 69, 82, 79, 78, 49, 0, 0]
/-- the bytes of the first n numbers -/
def numsB (s : Sup) : Nat → List UInt8
  | 0 => []
  | n + 1 => numsB s n ++ putB (sz n) (s.at_ n).toNat
def headTo (s : Sup) (n : Nat) : List UInt8 := nameB ++ s.numsB n
theorem headTo_succ (s : Sup) (n : Nat) : s.headTo (n + 1) = s.headTo n ++ putB (sz n) (s.at_ n).toNat := by
  show nameB ++ (numsB s n ++ _) = nameB ++ numsB s n ++ _
  rw [List.append_assoc]
theorem length_headTo (s : Sup) : ∀ n, n ≤ 7 → (s.headTo n).length = off n
  | 0, _ => rfl
  | n + 1, h => by rw [headTo_succ, List.length_append, length_headTo s n (by omega), length_putB, off_succ n (by omega)]
def zero18 : List UInt8 := List.replicate 18 0
def body (s : Sup) : List UInt8 := s.headTo 7 ++ zero18
def sector (s : Sup) : List UInt8 := sealB s.body
theorem length_body (s : Sup) : s.body.length = 60 := by
  unfold body zero18
  rw [List.length_append, length_headTo s 7 (Nat.le_refl _), List.length_replicate]
  rfl
theorem length_sector (s : Sup) : s.sector.length = 64 := by
  unfold sector
  rw [length_seal, length_body]

/-- Encode -/
def encE (s : Sup) : Int := if s.May then 0 else 1
def encB (s : Sup) : List UInt8 := if s.May then s.sector else []
theorem encB_len (s : Sup) : s.encB.length = if s.May then 64 else 0 := by
  unfold encB
  split
  · exact length_sector s
  · rfl

/-- what bytes tell -/
def numAt (l : List UInt8) (i : Nat) : Int := wrap64 (valB ((l.drop (off i)).take (sz i)) : Int)
def tell (l : List UInt8) : Sup := ⟨numAt l 0, numAt l 1, numAt l 2, numAt l 3, numAt l 4, numAt l 5, numAt l 6⟩
theorem tell_at (l : List UInt8) (i : Nat) (h : i < 7) : (tell l).at_ i = numAt l i := by
  rcases i with _ | _ | _ | _ | _ | _ | _ | i <;> first | omega | simp [at_, tell]

/-- Decode -/
def decE (l : List UInt8) : Int :=
  if l.length < 64 then 2 else if 64 < l.length then 3 else if whole l 60 = false then 4 else if (tell l).May ∧ (tell l).sector = l then 0 else 3
def decS (l : List UInt8) : Sup := if decE l = 0 then tell l else zero

theorem decE_short {l : List UInt8} (h : l.length < 64) : decE l = 2 := by unfold decE; rw [if_pos h]
theorem decE_long {l : List UInt8} (h : 64 < l.length) : decE l = 3 := by unfold decE; rw [if_neg (by omega), if_pos h]
theorem decE_sum {l : List UInt8} (h : l.length = 64) (hw : whole l 60 = false) : decE l = 4 := by unfold decE; rw [if_neg (by omega), if_neg (by omega), if_pos hw]
theorem decE_rest {l : List UInt8} (h : l.length = 64) (hw : whole l 60 = true) : decE l = if (tell l).May ∧ (tell l).sector = l then 0 else 3 := by
  unfold decE; rw [if_neg (by omega), if_neg (by omega), if_neg (by rw [hw]; decide)]
theorem decE_ok {l : List UInt8} : decE l = 0 ↔ l.length = 64 ∧ (tell l).May ∧ (tell l).sector = l := by
  constructor
  · intro h
    unfold decE at h
    split at h
    · omega
    · split at h
      · omega
      · split at h
        · omega
        · split at h
          · next h1 h2 h3 h4 => exact ⟨by omega, h4⟩
          · omega
  · rintro ⟨h1, h2, h3⟩
    have hw : whole l 60 = true := by
      rw [← h3]
      exact whole_sealB _ 60 (length_body _)
    rw [decE_rest h1 hw, if_pos ⟨h2, h3⟩]
theorem decE_not {l : List UInt8} (h : decE l ≠ 0) : decS l = zero := by unfold decS; rw [if_neg h]
theorem decS_ok {l : List UInt8} (h : decE l = 0) : decS l = tell l := by unfold decS; rw [if_pos h]
theorem decS_may {l : List UInt8} (h : decE l = 0) : (decS l).May := by rw [decS_ok h]; exact (decE_ok.1 h).2.1
/-- what is decoded is encoded to the same bytes -/
theorem enc_dec {l : List UInt8} (h : decE l = 0) : (decS l).sector = l := by rw [decS_ok h]; exact (decE_ok.1 h).2.2
theorem decS_wf (l : List UInt8) : (decS l).Wf := by
  by_cases h : decE l = 0
  · exact (decS_may h).wf
  · rw [decE_not h]; exact zero_wf

theorem ext {s t : Sup} (h : ∀ i, i < 7 → s.at_ i = t.at_ i) : s = t := by
  have h0 := h 0 (by omega)
  have h1 := h 1 (by omega)
  have h2 := h 2 (by omega)
  have h3 := h 3 (by omega)
  have h4 := h 4 (by omega)
  have h5 := h 5 (by omega)
  have h6 := h 6 (by omega)
  cases s
  cases t
  simp only [at_] at h0 h1 h2 h3 h4 h5 h6
  simp_all

theorem pow_sz (i : Nat) (h : i < 7) : hi i < ((256 ^ sz i : Nat) : Int) ∧ hi i ≤ 9223372036854775807 ∧ 0 ≤ lo i := by
  rcases i with _ | _ | _ | _ | _ | _ | _ | i <;> first | decide | omega

theorem wrap64_in (x : Int) (h : 0 ≤ x ∧ x ≤ 9223372036854775807) : wrap64 x = x := by
  unfold wrap64
  omega

/-- the bytes of the i-th number, in a head and whatever comes behind it -/
theorem head_at (s : Sup) (r : List UInt8) : ∀ n, n ≤ 7 → ∀ i, i < n → ((s.headTo n ++ r).drop (off i)).take (sz i) = putB (sz i) (s.at_ i).toNat
  | 0, _, _, h => by omega
  | n + 1, hn, i, h => by
    rw [headTo_succ, List.append_assoc]
    rcases Nat.lt_or_ge i n with h1 | h1
    · exact head_at s _ n (by omega) i h1
    · obtain rfl : i = n := by omega
      rw [← length_headTo s i (by omega), List.drop_left, List.take_left' (length_putB _ _)]

/-- what may be is told by its own sector -/
theorem tell_sector (s : Sup) (h : s.May) : tell s.sector = s := by
  refine ext fun i hi => ?_
  rw [tell_at _ _ hi]
  unfold numAt sector sealB body
  rw [List.append_assoc, head_at s _ 7 (Nat.le_refl _) i hi]
  have hb := okTo_all.2 h i hi
  have hp := pow_sz i hi
  rw [val_putB_fit _ _ (by omega), Int.toNat_of_nonneg (by omega)]
  exact wrap64_in _ ⟨by omega, by omega⟩
theorem dec_enc (s : Sup) (h : s.May) : decE s.sector = 0 ∧ decS s.sector = s := by
  have e := tell_sector s h
  have h0 : decE s.sector = 0 := decE_ok.2 ⟨length_sector s, by rw [e]; exact h, by rw [e]⟩
  exact ⟨h0, by rw [decS_ok h0, e]⟩
/-- one byte turned into another -/
theorem dec_turned (s : Sup) (i : Nat) (y : UInt8) (hi : i < s.sector.length) (hy : y ≠ s.sector[i]) : decE (s.sector.set i y) = 4 :=
  decE_sum (by rw [List.length_set]; exact length_sector s) (turned_spoilt s.body 60 i y (length_body s) hi hy)

/-- one version more -/
def next (s : Sup) : Sup := { s with V := s.V + 1 }
theorem next_may {s : Sup} (h : s.May) (hv : s.V ≠ 281474976710656) : s.next.May := by
  obtain ⟨h1, h2⟩ := h
  refine ⟨?_, h2⟩
  show 0 ≤ s.V + 1 ∧ s.V + 1 ≤ 281474976710656
  omega
theorem next_not {s : Sup} (hv : s.V = 281474976710656) : ¬ s.next.May := by
  rintro ⟨h1, _⟩
  have h2 : s.V + 1 ≤ 281474976710656 := h1.2
  omega

/-- Layout -/
def lay (s : Sup) : Int × Int × Int × Int := if s.May then (2, 2 + s.B, 2 + s.B + (s.C + 2) / 3, 2 + s.B + (s.C + 2) / 3 + s.L) else (0, 0, 0, 0)

end Sup
end Go.Proofs.Ytojidejlohpeaaa
