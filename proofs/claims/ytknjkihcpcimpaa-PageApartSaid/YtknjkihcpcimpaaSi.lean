/-
  All of the program's calls answer as the words say.
-/
import Derived.Test.YtknjkihcpcimpaaSh
namespace Go.Proofs.Ytknjkihcpcimpaa
set_option maxRecDepth 100000
set_option linter.unusedVariables false
open Go.RowKit Crc Wm Pg

theorem place_any (n : Int) (w : World) (hn : okI n) : Calls Try.prog 18 #[.int .i64 n] w fun e w' => e = .returned (.tuple #[.int .i64 (plS n), .int .i64 (plC n)]) ∧ Below w.heap.size w w' := by
  obtain ⟨h1, h2⟩ := hn
  by_cases h : n < 0
  · have e1 : plS n = -1 := if_pos h
    have e2 : plC n = -1 := if_pos h
    rw [e1, e2]
    clear e1 e2
    go_enter Try.func18, Try.ntmps18
    go_wp2_with fail
    go_ret2
    exact ⟨rfl, Below.refl _ _⟩
  · have e1 : plS n = n / 3 := if_neg h
    have e2 : plC n = n % 3 := if_neg h
    rw [e1, e2]
    clear e1 e2
    obtain ⟨X, rfl⟩ : ∃ X : Nat, n = (X : Int) := ⟨n.toNat, (Int.toNat_of_nonneg (by omega)).symm⟩
    have hd : decide ((X : Int) < 0) = false := decide_eq_false h
    have t1 : Int.tdiv (X : Int) 3 = (X : Int) / 3 := Int.tdiv_eq_ediv_of_nonneg (by omega)
    have t2 : Int.tmod (X : Int) 3 = (X : Int) % 3 := Int.tmod_eq_emod_of_nonneg (by omega)
    go_enter Try.func18, Try.ntmps18
    go_wp2_with fail
    go_ret2
    refine ⟨?_, Below.refl _ _⟩
    first | rfl | (simp; done) | (simp; omega)

theorem newer_any (n a : Int) (w : World) : Calls Try.prog 21 #[.int .i64 n, .int .i64 a] w fun e w' => e = .returned (.bool (decide (n < a))) ∧ Below w.heap.size w w' := by
  obtain ⟨q, hq⟩ : ∃ q, decide (n < a) = q := ⟨_, rfl⟩
  rw [hq]
  go_enter Try.func21, Try.ntmps21
  go_wp2_with fail
  go_ret
  exact ⟨rfl, Below.refl _ _⟩

theorem pageOk : PageOk where
  block := fun n A N c d w _ h hN => block_any n A N c d w h (by omega)
  ofblock := fun A c n l w h hn => ofblock_any A c n l w h (by omega)
  cells := fun x w _ => cells_any x w
  ofcells := fun A c n l w h hn => ofcells_any A c n l w h (by omega)
  place := place_any
  newer := newer_any

end Go.Proofs.Ytknjkihcpcimpaa
