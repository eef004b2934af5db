/-
  Plain facts on pieces of bytes laid one behind the other: no program stands in this text.
-/
import Derived.Test.YtgmnhaohbpclkaaWm
namespace Go.Proofs.Ytgmnhaohbpclkaa.Wm

theorem piece1 (a b c : List UInt8) (K : Nat) (hK : a.length = K) : ((a ++ (b ++ c)).drop 0).take K = a := by
  subst hK; simp
theorem piece2 (a b c : List UInt8) (K m : Nat) (hK : a.length = K) (hm : b.length = m) : ((a ++ (b ++ c)).drop K).take m = b := by
  subst hK hm; simp
theorem piece3 (a b c : List UInt8) (K j : Nat) (hK : a.length + b.length = K) : ((a ++ (b ++ c)).drop K).take j = c.take j := by
  subst hK; rw [← List.append_assoc, ← List.length_append, List.drop_left]
/-- a piece of what is cut at its end -/
theorem take_cut (l : List UInt8) (n k m : Nat) (h : k + m ≤ n) : ((l.take n).drop k).take m = (l.drop k).take m := by
  rw [List.drop_take, List.take_take, Nat.min_eq_left (by omega)]

end Go.Proofs.Ytgmnhaohbpclkaa.Wm
