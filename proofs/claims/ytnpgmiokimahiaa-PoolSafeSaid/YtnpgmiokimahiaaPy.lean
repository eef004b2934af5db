/-
  A pool and its device behind each call, where the device has no budget.
-/
import Derived.Test.YtnpgmiokimahiaaPw
import Derived.Test.YtnpgmiokimahiaaPx
namespace Go.Proofs.Ytnpgmiokimahiaa
set_option maxRecDepth 100000
set_option linter.unusedVariables false
open Go.RowKit Pl

section
variable {PAt : Lay} {w W V : World} {p L M v : Nat} {D D' : Dv} {m m' : Pm} {T T' : Nat → Prop}

/-- another pool on the same device, which a call has not written -/
theorem PW.beside {v2 : Nat} {m2 : Pm} {T2 : Nat → Prop} (K : PoolOk PAt) (h2 : PW PAt w W p L M v2 D m2 T2) (h1 : PW PAt w V p L M v D m' T') (nx : Nx PAt W V p L M v T D m' T') (hd : ∀ k, T2 k → ¬ T k) : PW PAt w V p L M v2 D m2 T2 ∧ ∀ k, T2 k → ¬ T' k := by
  refine ⟨⟨h1.dr, K.turn h2.pat nx.turn (fun k hk hs => ?_), h2.lo, h2.off, h2.free, h2.agree⟩, fun k hk hk' => ?_⟩
  · rcases hs with h | h
    · exact hd k hk h
    · exact h2.off k hk h
  · rcases nx.new k hk' with h | h
    · exact hd k hk h
    · have := K.lt h2.pat k hk; omega

/-- made: a device, and a pool on it -/
theorem PW.made (K : PoolOk PAt) (hd : Dr w W p L M D) (hf : D.Free) (room : Nat) (hr : 1 ≤ room ∧ room ≤ 64) : Calls Try.prog 11 #[ptr p, .int .i64 (room : Int)] W fun e V =>
    ∃ v T, e = .returned (.tuple #[ptr v, .int .i64 0]) ∧ PW PAt w V p L M v D (new_ room) T ∧ Below W.heap.size W V ∧ ∀ k, T k → W.heap.size ≤ k := by
  refine (K.new W p L M D (room : Int) hd.dev ⟨by omega, by omega⟩).mono ?_
  rintro e V ⟨hb, h⟩
  rcases h with h | ⟨_, _, _, v, T, rfl, hp, ht⟩
  · rcases h with ⟨h, _⟩ | ⟨_, _, h, _⟩
    · omega
    · rw [hf.gone] at h; cases h
  · rw [Int.toNat_natCast] at hp
    refine ⟨v, T, rfl, ⟨hd.below hb, hp, fun k hk => Nat.le_trans hd.bel.size (ht k hk), fun k hk hk2 => ?_, hf, fun i f h => by cases h⟩, hb, ht⟩
    have h1 := ht k hk
    have h2 := hd.dev.lt
    rcases hk2 with e | e | e <;> omega
theorem new_ok {room n : Nat} (hr : 1 ≤ room ∧ room ≤ 64) : (new_ room).Ok n := ⟨fun i f h => (by cases h), hr, (by unfold keys new_; simp only [Option.isSome_none]; rw [List.filter_eq_nil_iff.2 (fun _ _ => by simp)]; exact Nat.zero_le _), (by show (0 : Int) ≤ 0 ∧ (0 : Int) ≤ _; omega)⟩

structure PutP (PAt : Lay) (w W : World) (p L M v : Nat) (D : Dv) (m : Pm) (T : Nat → Prop) (i : Nat) (b : List UInt8) (lsn E : Int) (D' : Dv) (m' : Pm) (T' : Nat → Prop) (V : World) : Prop where
  put : Putd D m i b lsn E D' m'
  pw : PW PAt w V p L M v D' m' T'
  nx : Nx PAt W V p L M v T D' m' T'
theorem PW.put (K : PoolOk PAt) (h : PW PAt w W p L M v D m T) (hs : D.spent ≤ 100000) (hr : m.reads ≤ 100000) (i : Nat) (hi : i < D.n) (lsn : Int) (hl : 0 ≤ lsn ∧ lsn ≤ 9223372036854775807) {A : Option Addr} {N c : Nat} {b : List UInt8} (hb : Firm (PS T p L M) W A b) (hN : b.length = N) (hc : N ≤ c) :
    Calls Try.prog 12 #[ptr v, .int .i64 (i : Int), .slice A N c, .int .i64 lsn] W fun e V => ∃ E D' m' T', e = .returned (.int .i64 E) ∧ PutP PAt w W p L M v D m T i b lsn E D' m' T' V := by
  have hn := h.dok.top
  refine (K.put W p L M v D m T (i : Int) lsn A N c b (h.pre hs hr) ⟨by omega, by omega⟩ ⟨by omega, by omega⟩ hb hN hc).mono ?_
  rintro e V ⟨E, D', m', T', hp, rfl, hn⟩
  have H := put_putd hp hi hl h.free h.dok (h.ok K) h.agree
  exact ⟨E, D', m', T', rfl, H, h.next hn H.free H.agree, hn⟩

theorem PW.pin (K : PoolOk PAt) (h : PW PAt w W p L M v D m T) (hs : D.spent ≤ 100000) (hr : m.reads ≤ 100000) (i : Nat) (hi : i < D.n) (hpi : ∀ i f, m.F i = some f → f.pins ≤ 100000) :
    Calls Try.prog 19 #[ptr v, .int .i64 (i : Int)] W fun e V => ∃ E D' m1 m' T', e = .returned (.int .i64 E) ∧ Held D m i E D' m1 ∧ ((E ≠ 0 ∧ m' = m1) ∨ (E = 0 ∧ ∃ g, m1.F i = some g ∧ m' = m1.set i { g with pins := g.pins + 1 })) ∧
      PW PAt w V p L M v D' m' T' ∧ Nx PAt W V p L M v T D' m' T' := by
  have hn := h.dok.top
  refine (K.pin W p L M v D m T (i : Int) (h.pre hs hr) ⟨by omega, by omega⟩ hpi).mono ?_
  rintro e V ⟨E, D', m', T', hp, rfl, hn⟩
  obtain ⟨m1, H, hm⟩ := pin_held hp hi h.free h.dok (h.ok K) h.agree
  refine ⟨E, D', m1, m', T', rfl, H, hm, h.next hn H.free ?_, hn⟩
  rcases hm with ⟨_, rfl⟩ | ⟨_, g, hg, rfl⟩
  · exact H.agree
  · exact upd_agree H.agree hg rfl rfl

theorem unpin_agree (ha : Agree D m) (at_ : Int) : Agree D (m.unpin at_) := by
  unfold Pm.unpin
  split
  · exact ha
  · split
    · next f hf => exact upd_agree ha hf rfl rfl
    · exact ha
theorem PW.unpin (K : PoolOk PAt) (h : PW PAt w W p L M v D m T) (hs : D.spent ≤ 100000) (hr : m.reads ≤ 100000) (i : Nat) (hi : i < D.n) (hpi : ∀ i f, m.F i = some f → f.pins ≤ 1000000) :
    Calls Try.prog 20 #[ptr v, .int .i64 (i : Int)] W fun e V => ∃ T', e = .returned (.int .i64 (unpinE m i)) ∧ PW PAt w V p L M v D (m.unpin i) T' ∧ Nx PAt W V p L M v T D (m.unpin i) T' := by
  have hn := h.dok.top
  refine (K.unpin W p L M v D m T (i : Int) (h.pre hs hr) ⟨by omega, by omega⟩ hpi).mono ?_
  rintro e V ⟨T', rfl, hn⟩
  exact ⟨T', rfl, h.next hn h.free (unpin_agree h.agree _), hn⟩
theorem PW.tell (K : PoolOk PAt) (h : PW PAt w W p L M v D m T) (hs : D.spent ≤ 100000) (hr : m.reads ≤ 100000) (lsn : Int) (hl : okI lsn) :
    Calls Try.prog 13 #[ptr v, .int .i64 lsn] W fun e V => ∃ T', e = .returned (.tuple #[]) ∧ PW PAt w V p L M v D (m.tell lsn) T' ∧ Nx PAt W V p L M v T D (m.tell lsn) T' := by
  refine (K.safe W p L M v D m T lsn (h.pre hs hr) hl).mono ?_
  rintro e V ⟨T', rfl, hn⟩
  exact ⟨T', rfl, h.next hn h.free h.agree, hn⟩
theorem PW.wash (K : PoolOk PAt) (h : PW PAt w W p L M v D m T) (hs : D.spent ≤ 100000) (hr : m.reads ≤ 100000) :
    Calls Try.prog 14 #[ptr v] W fun e V => ∃ D' m' T', e = .returned (.int .i64 0) ∧ Cleaned D m 0 D' m' ∧ PW PAt w V p L M v D' m' T' ∧ Nx PAt W V p L M v T D' m' T' := by
  refine (K.clean W p L M v D m T (h.pre hs hr)).mono ?_
  rintro e V ⟨T', rfl, hn⟩
  have H := clean_cleaned h.free h.dok (h.ok K) h.agree
  have he := H.e
  rw [he] at H ⊢
  exact ⟨_, _, T', rfl, H, h.next hn H.free H.agree, hn⟩
theorem PW.held (K : PoolOk PAt) (h : PW PAt w W p L M v D m T) (hs : D.spent ≤ 100000) (hr : m.reads ≤ 100000) : Calls Try.prog 21 #[ptr v] W (Listed W (keys D.n m.F)) := K.held W p L M v D m T (h.pre hs hr)
theorem PW.dirty (K : PoolOk PAt) (h : PW PAt w W p L M v D m T) (hs : D.spent ≤ 100000) (hr : m.reads ≤ 100000) : Calls Try.prog 16 #[ptr v] W (Listed W (dirt D.n m.F)) := K.dirty W p L M v D m T (h.pre hs hr)
theorem PW.told (K : PoolOk PAt) (h : PW PAt w W p L M v D m T) (hs : D.spent ≤ 100000) (hr : m.reads ≤ 100000) : Calls Try.prog 22 #[ptr v] W fun e V => e = .returned (.int .i64 (m.reads : Int)) ∧ Below W.heap.size W V := K.reads W p L M v D m T (h.pre hs hr)
end

end Go.Proofs.Ytnpgmiokimahiaa
