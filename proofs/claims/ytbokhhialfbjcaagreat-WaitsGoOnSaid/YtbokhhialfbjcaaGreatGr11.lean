/-
  A world, by things that are done.
-/
import Derived.Test.YtbokhhialfbjcaaGreatDo11
namespace Go.Proofs.YtbokhhialfbjcaaGreat
set_option maxRecDepth 100000
set_option linter.unusedVariables false
set_option linter.unusedSimpArgs false
open Go.RowKit Go.Shelf Go.Sort

theorem acts_below {w V : World} {a : Option Addr} {len : Nat} {F G P R : Nat → Int} (h : Acts w a len F G P R) (hb : Below w.heap.size w V) : Acts V a len F G P R := by
  rcases h with h | ⟨b, o, e, hlt, hc⟩
  · exact .inl h
  · refine .inr ⟨b, o, e, Nat.lt_of_lt_of_le hlt hb.size, fun i hi => ?_⟩
    obtain ⟨h0, h1, h2, h3⟩ := hc i hi
    exact ⟨(hb.cell (block_lt_of_cell h0)).trans h0, (hb.cell (block_lt_of_cell h1)).trans h1, (hb.cell (block_lt_of_cell h2)).trans h2, (hb.cell (block_lt_of_cell h3)).trans h3⟩

theorem sw_new (w : World) : Sw (w.alloc (.cells #[.slice none 0 0, .int .i64 0, .slice none 0 0, .slice none 0 0] 36)) w.heap.size 0 :=
  ⟨none, 0, 0, 0, ⟨[], 0⟩, none, 0, 0, [], none, 0, 0, [], ⟨Bk.new w _ _, .inl ⟨rfl, rfl⟩, rfl, rfl, .inl rfl, rfl, Nat.le_refl _, .inl rfl, .inl rfl, rfl, Nat.le_refl _, .inl rfl⟩, wt_nil, ⟨by simp, by simp, List.Pairwise.nil⟩, by decide, by decide⟩

set_option maxHeartbeats 2000000 in
theorem grown_any (a : Option Addr) (len cap : Nat) (F G P R : Nat → Int) (hlen : len ≤ 100) (w : World) (hacts : Acts w a len F G P R) :
    Calls Tryz.prog 6 #[.slice a len cap] w fun e w' => ∃ p, e = .returned (.pointer (some ⟨p, 0, none⟩)) ∧ w.heap.size ≤ p ∧ Below w.heap.size w w' ∧ Sw w' p 150 := by
  obtain ⟨w1, hw1⟩ : ∃ w1, w1 = w.alloc (.cells #[.slice none 0 0, .int .i64 0, .slice none 0 0, .slice none 0 0] 36) := ⟨_, rfl⟩
  have HB1 := Lib.hid (show Below w.heap.size w w1 by rw [hw1]; exact below_new _ _)
  have HS1 := Lib.hid (show Sw w1 w.heap.size 0 by rw [hw1]; exact sw_new w)
  have HA := Lib.hid hacts
  obtain ⟨p, hp⟩ : ∃ p, p = w.heap.size := ⟨_, rfl⟩
  rw [← hp] at HS1
  have HP := Lib.hid hp
  clear hacts
  go_enter Tryz.func6, Tryz.ntmps6
  go_upto_region 2 with fail
  rw [← hw1, ← hp]
  clear hw1 hp
  go_wp2_with fail
  go_loopw [4] (fun iv wr => ∃ j : Nat, iv = .int .i64 (j : Int) ∧ j ≤ len ∧ Hid (Sw wr p (j : Int)) ∧ Hid (Below w.heap.size w wr)) (fun iv _ => len - (intOf iv).toNat)
  case atStart => exact ⟨0, rfl, Nat.zero_le _, HS1.out, HB1.out⟩
  case round =>
    obtain ⟨j, rfl, hj, HS, HB⟩ := hrel
    rcases Nat.lt_or_ge j len with hlt | hge
    · obtain ⟨ab, ao, rfl, hab, hcc⟩ : ∃ b o, a = some ⟨b, o, none⟩ ∧ b < w.heap.size ∧ ∀ i, i < len → _ := by
        rcases HA.out with h | h
        · omega
        · exact h
      obtain ⟨a0, a1, a2, a3⟩ := hcc j hlt
      replace a0 := (HB.out.cell (block_lt_of_cell a0)).trans a0
      replace a1 := (HB.out.cell (block_lt_of_cell a1)).trans a1
      replace a2 := (HB.out.cell (block_lt_of_cell a2)).trans a2
      replace a3 := (HB.out.cell (block_lt_of_cell a3)).trans a3
      clear hcc hab
      go_wp2_with fail
      refine (do_any p (j : Int) (by omega) (F j) (G j) (P j) (R j) wr HS.out).mono ?_
      rintro e w2 ⟨rfl, ht, hs⟩
      have HS2 := Lib.hid (show Sw w2 p ((j + 1 : Nat) : Int) by have : ((j + 1 : Nat) : Int) = (j : Int) + 1 := by omega
                                                                 rw [this]; exact hs)
      have HB2 := Lib.hid (HB.out.trans (ht.below (fun q e => by have := HP.out; omega) HB.out.size))
      clear ht hs
      go_wp2_with fail
      go_roundw
      case rel => exact ⟨j + 1, by simp, by omega, HS2.out, HB2.out⟩
      case measure => simp [intOf]; omega
    · obtain rfl : j = len := by omega
      have HS2 := Lib.hid (HS.out.more (b' := 150) (by omega))
      go_wp2_with fail
      go_ret
      exact ⟨p, rfl, by rw [HP.out]; exact Nat.le_refl _, HB.out, HS2.out⟩
end Go.Proofs.YtbokhhialfbjcaaGreat
