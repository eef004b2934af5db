/-
  The document's side: may an entry be, is a number one of some, which are undone.
-/
import Derived.Test.YtpphhhalmccnbaaEa
namespace Go.Proofs.Ytpphhhalmccnbaa
set_option maxRecDepth 100000
set_option linter.unusedVariables false
set_option linter.unusedSimpArgs false
open Go.RowKit

abbrev etV (e : En) : Value := .agg #[.int .i64 e.t, .int .i64 e.c, .int .i64 e.b, .bool e.u]
abbrev etC (e : En) : Array Value := #[.int .i64 e.t, .int .i64 e.c, .int .i64 e.b, .bool e.u]
set_option maxHeartbeats 4000000 in
theorem refone_any (e : En) (w : World) : Calls Try.prog 32 #[etV e] w fun r w' => r = .returned (.bool e.may) ∧ Below w.heap.size w w' := by
  obtain ⟨t, c, b, u⟩ := e
  have HB := Lib.hid (below_new w (.cells #[.int .i64 t, .int .i64 c, .int .i64 b, .bool u] 73))
  have HK := Lib.hid (Bk.new w #[.int .i64 t, .int .i64 c, .int .i64 b, .bool u] 73)
  have k0 := HK.out.c 0 _ rfl
  have k1 := HK.out.c 1 _ rfl
  have k2 := HK.out.c 2 _ rfl
  have HE := Lib.hid (show (En.mk t c b u).may = (decide (0 ≤ t) && decide (t ≤ 63) && decide (0 ≤ c) && decide (c ≤ 63) && !decide (b = -9223372036854775808)) from by
    rw [Bool.eq_iff_iff, En.may_iff]; simp [and_assoc])
  go_enter Try.func32, Try.ntmps32
  by_cases h1 : (0 : Int) ≤ t
  · have e1 : decide (t ≥ 0) = true := decide_eq_true h1
    by_cases h2 : t ≤ 63
    · have e2 : decide (t ≤ 63) = true := decide_eq_true h2
      by_cases h3 : (0 : Int) ≤ c
      · have e3 : decide (c ≥ 0) = true := decide_eq_true h3
        by_cases h4 : c ≤ 63
        · have e4 : decide (c ≤ 63) = true := decide_eq_true h4
          go_wp2_with fail
          go_ret
          refine ⟨?_, HB.out⟩
          rw [HE.out, decide_eq_true h1, decide_eq_true h2, decide_eq_true h3, decide_eq_true h4]
          by_cases h5 : b = -9223372036854775808 <;> simp [h5]
        · have e4 : decide (c ≤ 63) = false := decide_eq_false h4
          go_wp2_with fail
          go_ret
          exact ⟨by rw [HE.out, decide_eq_false (p := c ≤ 63) (by omega)]; simp, HB.out⟩
      · have e3 : decide (c ≥ 0) = false := decide_eq_false h3
        go_wp2_with fail
        go_ret
        exact ⟨by rw [HE.out, decide_eq_false (p := 0 ≤ c) (by omega)]; simp, HB.out⟩
    · have e2 : decide (t ≤ 63) = false := decide_eq_false h2
      go_wp2_with fail
      go_ret
      exact ⟨by rw [HE.out, decide_eq_false (p := t ≤ 63) (by omega)]; simp, HB.out⟩
  · have e1 : decide (t ≥ 0) = false := decide_eq_false h1
    go_wp2_with fail
    go_ret
    exact ⟨by rw [HE.out, decide_eq_false (p := 0 ≤ t) (by omega)]; simp, HB.out⟩

theorem take_not {T : List Int} {x : Int} {j : Nat} (h : ∀ y ∈ T.take j, y ≠ x) {z : Int} (hz : T[j]? = some z) (hn : z ≠ x) : ∀ y ∈ T.take (j + 1), y ≠ x := by
  intro y hy
  rw [List.take_add_one, hz, Option.toList_some] at hy
  rcases List.mem_append.mp hy with hy | hy
  · exact h y hy
  · simp at hy; rw [hy]; exact hn
set_option maxHeartbeats 4000000 in
theorem refamong_any (x : Int) (A : Option Addr) (n a : Nat) (T : List Int) (hn : n ≤ 1000) (w : World) (ht : Ls w A n T) : Calls Try.prog 41 #[.int .i64 x, .slice A n a] w fun r w' => r = .returned (.bool (decide (x ∈ T))) ∧ Below w.heap.size w w' := by
  have HT := Lib.hid ht
  have HB := Lib.hid (Below.refl w.heap.size w)
  clear ht
  go_enter Try.func41, Try.ntmps41
  go_wp2_with fail
  go_loopw [5] (fun u wr => ∃ j : Nat, u = .int .i64 (j : Int) ∧ j ≤ n ∧ Hid (∀ y ∈ T.take j, y ≠ x) ∧ Hid (Below w.heap.size w wr)) (fun u _ => n - (intOf u).toNat)
  case atStart => exact ⟨0, rfl, Nat.zero_le _, Lib.hid (by simp), HB⟩
  case round =>
    obtain ⟨j, rfl, hj, HNj, HBj⟩ := hrel
    rcases Nat.lt_or_ge j n with hlt | hge
    · obtain ⟨b2, o, rfl, hbl, hok, hget, h0⟩ := HT.out.get hlt
      have c0 := (HBj.out.cell (p := ⟨b2, o + j, none⟩) hbl).trans h0
      have HG := Lib.hid hget
      generalize T.getD j 0 = z at *
      clear h0 hok hget
      have hd4 : decide ((j : Int) < (n : Int)) = true := decide_eq_true (by omega)
      have hd5 : decide (j < n) = true := decide_eq_true hlt
      have hi1 : (j : Int) < (n : Int) := by omega
      by_cases hz : z = x
      · have hq : (z == x) = true := by simpa using hz
        have HM := Lib.hid (show x ∈ T from by rw [← hz]; exact List.mem_of_getElem? HG.out)
        clear hz
        go_wp2_with fail
        go_ret
        exact ⟨by rw [decide_eq_true HM.out]; rfl, HBj.out⟩
      · have hq : (z == x) = false := by simpa using hz
        have HN2 := Lib.hid (take_not HNj.out HG.out hz)
        clear hz
        go_wp2_with fail
        exact ⟨⟨j + 1, rfl, hlt, HN2, HBj⟩, by simp [intOf]; omega⟩
    · have hd4 : decide ((j : Int) < (n : Int)) = false := decide_eq_false (by omega)
      have hd5 : decide (j < n) = false := decide_eq_false (by omega)
      go_wp2_with fail
      go_ret
      refine ⟨?_, HBj.out⟩
      have := HNj.out
      rw [List.take_of_length_le (by have := HT.out.len; omega)] at this
      rw [decide_eq_false (fun h => this x h rfl)]; rfl
end Go.Proofs.Ytpphhhalmccnbaa
