/-
  The program's pool keeps the words.
-/
import Derived.Test.YtnpgmiokimahiaaQo
namespace Go.Proofs.Ytnpgmiokimahiaa
set_option maxRecDepth 100000
set_option linter.unusedVariables false
open Go.RowKit Pl

theorem poolOk : PoolOk lay where
  turn := lay_turn
  lt := lay_lt
  ok := lay_ok
  new := new_any
  get := get_any
  put := put_any
  pin := pin_any
  unpin := unpin_any
  safe := safe_any
  clean := clean_any rising_any
  held := held_any rising_any
  dirty := dirty_any rising_any
  reads := fun w p L M v D m T hp => by
    obtain ⟨l, A, N, c, h, q, rfl⟩ := hp.pat
    refine (reads_any q).mono ?_
    rintro e w' ⟨he, rfl⟩
    exact ⟨he, Below.refl _ _⟩
  getN := fun w a => (get_nil w a).mono fun e w' h => ⟨h.1, by rw [h.2]; exact Below.refl _ _⟩
  putN := fun w a lsn A N c => (put_nil w a lsn A N c).mono fun e w' h => ⟨h.1, by rw [h.2]; exact Below.refl _ _⟩
  pinN := fun w a => (pin_nil w a).mono fun e w' h => ⟨h.1, by rw [h.2]; exact Below.refl _ _⟩
  unpinN := fun w a => (unpin_nil w a).mono fun e w' h => ⟨h.1, by rw [h.2]; exact Below.refl _ _⟩
  safeN := fun w lsn => (safe_nil w lsn).mono fun e w' h => ⟨h.1, by rw [h.2]; exact Below.refl _ _⟩
  cleanN := fun w => (clean_nil w).mono fun e w' h => ⟨h.1, by rw [h.2]; exact Below.refl _ _⟩
  heldN := held_nil
  dirtyN := dirty_nil
  readsN := fun w => (reads_nil w).mono fun e w' h => ⟨h.1, by rw [h.2]; exact Below.refl _ _⟩
end Go.Proofs.Ytnpgmiokimahiaa
