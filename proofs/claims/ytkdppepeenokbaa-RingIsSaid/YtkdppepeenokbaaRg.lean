/-
  A ring by its four numbers: whether it may be, and what each call answers of it. No program.
-/
namespace Go.Proofs.Ytkdppepeenokbaa

/-- a ring's numbers -/
structure Rg where
  F : Int
  S : Int
  H : Int
  T : Int
deriving DecidableEq

namespace Rg
def zero : Rg := ⟨0, 0, 0, 0⟩
def sane (r : Rg) : Bool := decide (0 ≤ r.F) && (decide (r.F ≤ 4096) && (decide (1 ≤ r.S) && (decide (r.S ≤ 4096) && (decide (0 ≤ r.H) && (decide (r.H ≤ r.T) && (decide (r.T ≤ 1099511627776) && decide (r.T - r.H ≤ r.S)))))))

/-- of what may be: its bounds -/
structure Ok (r : Rg) : Prop where
  f0 : 0 ≤ r.F
  f1 : r.F ≤ 4096
  s0 : 1 ≤ r.S
  s1 : r.S ≤ 4096
  h0 : 0 ≤ r.H
  ht : r.H ≤ r.T
  t1 : r.T ≤ 1099511627776
  u1 : r.T - r.H ≤ r.S

theorem sane_iff {r : Rg} : r.sane = true ↔ r.Ok := by
  unfold sane
  simp only [Bool.and_eq_true, decide_eq_true_eq]
  constructor
  · rintro ⟨h1, h2, h3, h4, h5, h6, h7, h8⟩
    exact ⟨h1, h2, h3, h4, h5, h6, h7, h8⟩
  · rintro ⟨h1, h2, h3, h4, h5, h6, h7, h8⟩
    exact ⟨h1, h2, h3, h4, h5, h6, h7, h8⟩
theorem ok {r : Rg} (h : r.sane = true) : r.Ok := sane_iff.1 h

/-- ints as Go has them -/
structure Wf (r : Rg) : Prop where
  f : -9223372036854775808 ≤ r.F ∧ r.F < 9223372036854775808
  s : -9223372036854775808 ≤ r.S ∧ r.S < 9223372036854775808
  h : -9223372036854775808 ≤ r.H ∧ r.H < 9223372036854775808
  t : -9223372036854775808 ≤ r.T ∧ r.T < 9223372036854775808

def used (r : Rg) : Int := if r.sane = true then r.T - r.H else 0
def free (r : Rg) : Int := if r.sane = true then r.S - (r.T - r.H) else 0
def asked (r : Rg) (at_ : Int) : Bool := r.sane && (decide (0 ≤ at_) && decide (at_ ≤ 2199023255552))
def sector (r : Rg) (at_ : Int) : Int := if r.asked at_ = true then r.F + at_ % r.S else -1
def holds (r : Rg) (at_ : Int) : Bool := r.sane && (decide (r.H ≤ at_) && decide (at_ < r.T))
def takeE (r : Rg) (n : Int) : Int := if (r.sane && decide (0 ≤ n)) = true then (if r.S - (r.T - r.H) < n ∨ 1099511627776 < r.T + n then 5 else 0) else 1
def take (r : Rg) (n : Int) : Rg := if r.takeE n = 0 then ⟨r.F, r.S, r.H, r.T + n⟩ else zero
def dropE (r : Rg) (to_ : Int) : Int := if (r.sane && (decide (r.H ≤ to_) && decide (to_ ≤ r.T))) = true then 0 else 1
def drop (r : Rg) (to_ : Int) : Rg := if r.dropE to_ = 0 then ⟨r.F, r.S, to_, r.T⟩ else zero

/-- how many of n places from at on lie ahead of the ring's end -/
def ahead (r : Rg) (at_ n : Int) : Int := min n (r.S - at_ % r.S)
def may (r : Rg) (at_ n : Int) : Bool := r.asked at_ && (decide (0 ≤ n) && decide (n ≤ r.S))
def spans (r : Rg) (at_ n : Int) : List (Int × Int) :=
  if r.may at_ n = true then
    if n = 0 then [] else if n ≤ r.S - at_ % r.S then [(r.F + at_ % r.S, n)] else [(r.F + at_ % r.S, r.S - at_ % r.S), (r.F, n - (r.S - at_ % r.S))]
  else []
end Rg

end Go.Proofs.Ytkdppepeenokbaa
