/-
  One answer for each call of a reader, as a function of the bytes and the place: the program's reader and the document's both give it.
-/
import Derived.Test.YtofekbipbndbbaaRefRead
namespace Go.Proofs.Ytofekbipbndbbaa
open Go.RowKit Wm

/-- what a Get says: 0 where it is OK -/
def getE (n k : Nat) (N : Int) : Int := if N < 1 ∨ 8 < N then 1 else if (n : Int) - k < N then 2 else 0
def getV (l : List UInt8) (n k : Nat) (N : Int) : Nat := if getE n k N = 0 then valB ((l.drop k).take N.toNat) else 0
def getK (n k : Nat) (N : Int) : Nat := if getE n k N = 0 then k + N.toNat else k
def sgnE (n k : Nat) : Int := if n - k < 8 then 2 else 0
def sgnV (l : List UInt8) (n k : Nat) : Int := if n - k < 8 then 0 else sgnI (valB ((l.drop k).take 8) : Int)
def sgnK (n k : Nat) : Nat := if n - k < 8 then k else k + 8
def lstE (l : List UInt8) (n k : Nat) (most : Int) : Int := if n - k < 2 then 2 else if most < (cntB l k : Int) then 3 else if n - (k + 2) < cntB l k then 2 else 0
def lstM (l : List UInt8) (n k : Nat) (most : Int) : Nat := if lstE l n k most = 0 then cntB l k else 0
def lstB (l : List UInt8) (n k : Nat) (most : Int) : List UInt8 := if lstE l n k most = 0 then (l.drop (k + 2)).take (cntB l k) else []
def lstK (l : List UInt8) (n k : Nat) (most : Int) : Nat := if lstE l n k most = 0 then k + 2 + cntB l k else k
def endE (n k : Nat) : Int := if k < n then 3 else 0

theorem getE_cases (n k : Nat) (N : Int) : ((N < 1 ∨ 8 < N) ∧ getE n k N = 1) ∨ (1 ≤ N ∧ N ≤ 8 ∧ (n : Int) - k < N ∧ getE n k N = 2) ∨ (1 ≤ N ∧ N ≤ 8 ∧ N ≤ (n : Int) - k ∧ getE n k N = 0) := by
  unfold getE
  by_cases h1 : N < 1 ∨ 8 < N
  · exact .inl ⟨h1, by rw [if_pos h1]⟩
  · rw [if_neg h1]
    by_cases h2 : (n : Int) - k < N
    · exact .inr (.inl ⟨by omega, by omega, h2, by rw [if_pos h2]⟩)
    · exact .inr (.inr ⟨by omega, by omega, by omega, by rw [if_neg h2]⟩)

/-- a call on a reader at block r: what it answers, where its place is then, and that nothing else has turned -/
def RFn (w : World) (r t : Nat) (A : Option Addr) (cap n j : Nat) (l : List UInt8) (v : Value) (e : Ending) (w' : World) : Prop :=
  e = .returned v ∧ Cur w' r t A cap n j l ∧ w.grownBy w' (some r)

section
variable {w : World} {r t cap n k : Nat} {A : Option Addr} {l : List UInt8}
theorem grown_of_below {w w' : World} (h : Below w.heap.size w w') (row : Option Nat) : w.grownBy w' row := ⟨h.os, h.tape, h.output, h.size, fun i hi _ => h.block i hi⟩
theorem grown_of_drewN (w : World) (m : Nat) (row : Option Nat) : w.grownBy (w.drewN m) row := ⟨rfl, rfl, rfl, Nat.le_refl _, fun _ _ _ => rfl⟩

theorem get_fn (h : Cur w r 85 A cap n k l) (N : Int) :
    Calls Try.prog 52 #[.pointer (some ⟨r, 0, none⟩), .int .i64 N] w (RFn w r 85 A cap n (getK n k N) l (.tuple #[.int .u64 (getV l n k N : Int), .int .i64 (getE n k N)])) := by
  unfold getK getV
  rcases getE_cases n k N with ⟨h1, he⟩ | ⟨h1, h2, h3, he⟩ | ⟨h1, h2, h3, he⟩
  · rw [he, if_neg (by decide), if_neg (by decide)]
    exact (get_arg _ N w h1).mono fun _ _ ⟨e, hw⟩ => by subst hw; exact ⟨e, h, World.grownBy.refl w _⟩
  · rw [he, if_neg (by decide), if_neg (by decide)]
    exact (get_short h N h1 h2 h3).mono fun _ _ ⟨e, hw⟩ => ⟨e, h.below hw, grown_of_below hw _⟩
  · rw [he, if_pos rfl, if_pos rfl]
    obtain ⟨m, rfl⟩ := Int.eq_ofNat_of_zero_le (by omega : 0 ≤ N)
    have hk := h.le
    exact (get_ok h m (by omega) (by omega) (by omega)).mono fun _ _ ⟨e, h4, h5⟩ => ⟨e, h4, h5⟩
theorem refget_fn (h : Cur w r t A cap n k l) (N : Int) :
    Calls Try.prog 35 #[.pointer (some ⟨r, 0, none⟩), .int .i64 N] w (RFn w r t A cap n (getK n k N) l (.tuple #[.int .u64 (getV l n k N : Int), .int .i64 (getE n k N)])) := by
  unfold getK getV
  rcases getE_cases n k N with ⟨h1, he⟩ | ⟨h1, h2, h3, he⟩ | ⟨h1, h2, h3, he⟩
  · rw [he, if_neg (by decide), if_neg (by decide)]
    exact (refget_arg _ N w h1).mono fun _ _ ⟨e, hw⟩ => by subst hw; exact ⟨e, h, World.grownBy.refl w _⟩
  · rw [he, if_neg (by decide), if_neg (by decide)]
    exact (refget_short h N h1 h2 h3).mono fun _ _ ⟨e, m, hw⟩ => by subst hw; exact ⟨e, h.drewN m, grown_of_drewN w m _⟩
  · rw [he, if_pos rfl, if_pos rfl]
    obtain ⟨m, rfl⟩ := Int.eq_ofNat_of_zero_le (by omega : 0 ≤ N)
    have hk := h.le
    exact (refget_ok h m (by omega) (by omega) (by omega)).mono fun _ _ ⟨e, h4, h5⟩ => ⟨e, h4, h5⟩

theorem refleft_fn (h : Cur w r t A cap n k l) :
    Calls Try.prog 47 #[.pointer (some ⟨r, 0, none⟩)] w (RFn w r t A cap n k l (.int .i64 ((n : Int) - (k : Int)))) :=
  (refleft_any h).mono fun _ _ ⟨e, m, hw⟩ => by subst hw; exact ⟨e, h.drewN m, grown_of_drewN w m _⟩
theorem Owns.far {w V : World} {base m c z : Nat} {A : Option Addr} {bs : List UInt8} (h : Owns w base A c m bs) (hz : z < base) (hg : w.grownBy V (some z)) : Owns V base A c m bs := by
  refine World.ownsRow.kept h hg ?_
  rcases A with _ | a
  · exact .inl rfl
  · refine .inr fun e => ?_
    have h1 := (h.block a rfl).1
    have h2 : a.block = z := by simpa [Value.ownBlock] using e
    omega

/-- a List: what it answers reads as these bytes from then on -/
def LFn (w : World) (r t : Nat) (A : Option Addr) (cap n j m : Nat) (l bs : List UInt8) (err : Int) (e : Ending) (w' : World) : Prop :=
  ∃ A' c', e = .returned (.tuple #[.slice A' m c', .int .i64 err]) ∧ Hid (∀ V z, z < w.heap.size → w'.grownBy V (some z) → Rd V V.heap.size A' bs) ∧ Hid (bs.length = m) ∧ Cur w' r t A cap n j l ∧ w.grownBy w' (some r)

theorem lstE_cases (l : List UInt8) (n k : Nat) (most : Int) : (n - k < 2 ∧ lstE l n k most = 2) ∨ (2 ≤ n - k ∧ most < (cntB l k : Int) ∧ lstE l n k most = 3) ∨ (2 ≤ n - k ∧ (cntB l k : Int) ≤ most ∧ n - (k + 2) < cntB l k ∧ lstE l n k most = 2) ∨
    (2 ≤ n - k ∧ (cntB l k : Int) ≤ most ∧ cntB l k ≤ n - (k + 2) ∧ lstE l n k most = 0) := by
  unfold lstE
  by_cases h1 : n - k < 2
  · exact .inl ⟨h1, by rw [if_pos h1]⟩
  · rw [if_neg h1]
    by_cases h2 : most < (cntB l k : Int)
    · exact .inr (.inl ⟨by omega, h2, by rw [if_pos h2]⟩)
    · rw [if_neg h2]
      by_cases h3 : n - (k + 2) < cntB l k
      · exact .inr (.inr (.inl ⟨by omega, by omega, h3, by rw [if_pos h3]⟩))
      · exact .inr (.inr (.inr ⟨by omega, by omega, by omega, by rw [if_neg h3]⟩))

theorem rlistok_fn {m : Nat} {e : Ending} {w' : World} (h : RListOk w r t A cap n k m l e w') : LFn w r t A cap n (k + 2 + m) m l ((l.drop (k + 2)).take m) 0 e w' := by
  obtain ⟨A', c', e, ho, hc, hg⟩ := h
  exact ⟨A', c', e, fun V z hz hV => (ho.far hz hV).read, ho.len, hc, hg⟩

end

end Go.Proofs.Ytofekbipbndbbaa
