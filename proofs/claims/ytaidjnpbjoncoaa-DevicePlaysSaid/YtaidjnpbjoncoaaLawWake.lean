/-
  No device: its calls; what a read answers where there is a sector; the document's example.
-/
import Derived.Test.YtaidjnpbjoncoaaDevCrash
import Derived.Lib.SlBytesConst
namespace Go.Proofs.Ytaidjnpbjoncoaa
open Go.RowKit

theorem read_nil (w : World) (at_ : Int) : Calls Try.prog 21 #[.pointer none, .int .i64 at_] w (ReadOut w [] 11) := by
  go_enter Try.func21, Try.ntmps21
  go_wp2_with (go_at_call 23; refine (gone_nil w).mono ?_; rintro e w' ⟨rfl, hw⟩; replace hw := hw.symm; subst hw)
  go_ret2
  exact ⟨_, _, _, rfl, .inl ⟨rfl, rfl, rfl, rfl⟩, Below.refl _ _⟩
theorem write_nil (w : World) (at_ : Int) (A : Option Addr) (n c : Nat) : Calls Try.prog 13 #[.pointer none, .int .i64 at_, .slice A n c] w fun e w' => e = .returned (.int .i64 11) ∧ w' = w := by
  go_enter Try.func13, Try.ntmps13
  go_wp2_with (go_at_call 23; refine (gone_nil w).mono ?_; rintro e w' ⟨rfl, hw⟩; replace hw := hw.symm; subst hw)
  go_ret
  exact ⟨rfl, rfl⟩
theorem flush_nil (w : World) : Calls Try.prog 15 #[.pointer none] w fun e w' => e = .returned (.int .i64 11) ∧ w' = w := by
  go_enter Try.func15, Try.ntmps15
  go_wp2_with (go_at_call 23; refine (gone_nil w).mono ?_; rintro e w' ⟨rfl, hw⟩; replace hw := hw.symm; subst hw)
  go_ret
  exact ⟨rfl, rfl⟩

/-- a sector is read: it lies in a new block -/
def SecOut (w : World) (l : List UInt8) (e : Ending) (w' : World) : Prop :=
  ∃ g, e = .returned (.tuple #[.slice (some ⟨g, 0, none⟩) 64 64, .int .i64 0]) ∧ w.heap.size ≤ g ∧ w'.heap[g]? = some (.cells (secC l) 60 (0, 0)) ∧ Below w.heap.size w w'
theorem read_sec {w : World} {p L M : Nat} {D : Dv} (h : IsDev w p L M D) (at_ : Int) {l : List UInt8} (hl : D.read at_ = l) (h64 : l.length = 64) : Calls Try.prog 21 #[ptr p, .int .i64 at_] w (SecOut w l) := by
  have he : D.readE at_ = 0 := by
    unfold Dv.read at hl
    unfold Dv.readE
    by_cases h1 : D.gone = true
    · rw [if_pos h1] at hl
      subst hl
      cases h64
    · rw [if_neg h1] at hl ⊢
      by_cases h2 : D.has at_ = true
      · rw [if_pos h2]
      · rw [if_neg h2] at hl
        subst hl
        cases h64
  refine (read_any h at_).mono ?_
  rintro e w' ⟨A, n, c, rfl, hg, hb⟩
  rw [hl] at hg
  rcases hg with ⟨rfl, _⟩ | ⟨g, rfl, rfl, rfl, _, h5, h6⟩
  · cases h64
  · exact ⟨g, by rw [he], h5, h6, hb⟩

/-- 'the device is as D, and all that was there when the call began is as it was' -/
structure Dr (w W : World) (p L M : Nat) (D : Dv) : Prop where
  dev : IsDev W p L M D
  bel : Below w.heap.size w W
  lo : w.heap.size ≤ p ∧ w.heap.size ≤ L ∧ w.heap.size ≤ M

section
variable {w W V : World} {p L M : Nat} {D E : Dv}
theorem Dr.turn (h : Dr w W p L M D) (hd : IsDev V p L M E) (ht : Turn (DS p L M) W V) : Dr w V p L M E :=
  ⟨hd, h.bel.trans (ht.below (fun k hk => by rcases hk with rfl | rfl | rfl; exact h.lo.1; exact h.lo.2.1; exact h.lo.2.2) h.bel.size), h.lo⟩
theorem Dr.below (h : Dr w W p L M D) (hb : Below W.heap.size W V) : Dr w V p L M D :=
  ⟨h.dev.turn (Turn.ofBelow (S := fun _ => False) hb) (fun h => h) (fun h => h) (fun h => h), h.bel.trans (hb.mono h.bel.size), h.lo⟩
theorem Dr.alloc (h : Dr w W p L M D) (o : Obj) : Dr w (W.alloc o) p L M D := h.below ((Below.refl _ _).alloc (Nat.le_refl _) o)
/-- bytes of an argument -/
theorem Dr.firm (h : Dr w W p L M D) {A : Option Addr} {l : List UInt8} (hr : Rd w w.heap.size A l) : Firm (DS p L M) W A l :=
  (hr.below h.bel).firm h.bel.size (fun k hk => by rcases hk with rfl | rfl | rfl; exact h.lo.1; exact h.lo.2.1; exact h.lo.2.2)
/-- one byte in a block that is no block of the device's -/
theorem firm_one {X : Nat → Prop} {W : World} (x : UInt8) (z : Int) (hz : z = (x.toNat : Int)) (hx : ¬ X W.heap.size) (fr : Nat × Nat) : Firm X (W.alloc (.cells #[.int .u8 z] 5 fr)) (some ⟨W.heap.size, 0, none⟩) [x] := by
  subst hz
  refine Firm.block hx (by simp) fun j y hy => ?_
  have hj : j = 0 := by
    have := (List.getElem?_eq_some_iff.1 hy).1
    simpa using this
  subst hj
  simp at hy
  subst hy
  rw [cell_of_row _ _ _ _ _ _ (heap_alloc_new W _)]
  rfl
theorem Dr.notNew (h : Dr w W p L M D) : ¬ DS p L M W.heap.size := fun hk => by
  have := h.dev.lt
  rcases hk with e | e | e <;> omega
end

theorem newdr {w W : World} (hb : Below w.heap.size w W) (n : Nat) (h1 : 1 ≤ n) (h2 : n ≤ 4096) : Calls Try.prog 11 #[.int .i64 (n : Int)] W fun e W' => ∃ p L M, e = .returned (.tuple #[ptr p, .int .i64 0]) ∧ Dr w W' p L M (.fresh n) ∧ Below W.heap.size W W' ∧ W.heap.size ≤ p ∧ W.heap.size ≤ L ∧ W.heap.size ≤ M := by
  refine (newdev_any W n h1 h2).mono ?_
  rintro e W' ⟨p, L, M, rfl, hd, hb2, g1, g2, g3⟩
  have := hb.size
  exact ⟨p, L, M, rfl, ⟨hd, hb.trans (hb2.mono hb.size), by omega, by omega, by omega⟩, hb2, g1, g2, g3⟩

set_option maxHeartbeats 1000000 in
set_option maxRecDepth 100000 in
theorem awake_any (w : World) : Calls Try.prog 9 #[] w fun e w' => e = .returned (.bool true) ∧ Below w.heap.size w w' := by
  go_enter Try.func9, Try.ntmps9
  go_wp2_with fail
  refine (newdr (w := w) (Below.refl _ _) 3 (by omega) (by omega)).mono ?_
  rintro e w1 ⟨p, L, M, rfl, hd1, _, _, _, _⟩
  have kc := Lib.run_convert_bytes_const (P := Try.prog) w1 32 5 #[.int .u8 97] 1 1 Try.underlying32 Try.underlying5
  have HD1 := Lib.hid hd1
  clear hd1
  go_wp2_with fail
  refine (write_any (HD1.out.alloc _).dev (by simp [Dv.fresh]) 2 (firm_one 97 97 rfl HD1.out.notNew _) 1 1 rfl).mono ?_
  rintro e w2 ⟨rfl, hd2, ht2⟩
  have HD2 := Lib.hid ((HD1.out.alloc _).turn hd2 ht2)
  clear hd2 ht2 kc HD1
  have ew : (Dv.fresh 3).writeE 2 [97] = 0 := by decide
  rw [ew]
  obtain ⟨D2, HE2⟩ : ∃ D2, Hid (D2 = (Dv.fresh 3).write 2 [97]) := ⟨_, Lib.hid rfl⟩
  rw [← HE2.out] at HD2
  go_wp2_with fail
  refine (read_sec HD2.out.dev 2 (l := Dv.pad [97]) (by rw [HE2.out]; rfl) rfl).mono ?_
  rintro e w3 ⟨g, rfl, hg, hb3, hw3⟩
  have HD3 := Lib.hid (HD2.out.below hw3)
  have HB3 := Lib.hid hb3
  have HG3 := Lib.hid hg
  have HL2 := Lib.hid HD2.out.dev.lt
  clear hg hb3 hw3 HD2
  go_wp2_with fail
  refine (crash_any HD3.out.dev (by rw [HE2.out]; decide) 0 (kn := 0) (f := fun _ => false) Bools.nil).mono ?_
  rintro e w4 ⟨rfl, hd4, ht4⟩
  have HD4 := Lib.hid (HD3.out.turn hd4 ht4)
  have hgn : ¬ DS p L M g := fun hk => by
    have h1 := HL2.out
    have h2 := HG3.out
    rcases hk with rfl | rfl | rfl <;> omega
  have hb4 := (ht4.block g (lt_of_block HB3.out) hgn).trans HB3.out
  have HB4 := Lib.hid hb4
  clear hd4 ht4 HD3 HB3 hgn hb4
  go_wp2_with fail
  refine (read_sec HD4.out.dev 2 (l := Dv.zeros) (by rw [HE2.out]; rfl) rfl).mono ?_
  rintro e w5 ⟨g5, rfl, hg5, hb5, hw5⟩
  have k0 : w5.cell? ⟨g, 0, none⟩ = some (.int .u8 97) := (hw5.cell (lt_of_block HB4.out)).trans (secC_cell HB4.out 0 97 rfl)
  have k1 : w5.cell? ⟨g5, 0, none⟩ = some (.int .u8 0) := secC_cell hb5 0 0 rfl
  have HBL := Lib.hid (HD4.out.below hw5).bel
  clear hg5 hb5 hw5 HD4 HB4
  go_wp2_with fail
  go_ret
  exact ⟨rfl, HBL.out⟩

end Go.Proofs.Ytaidjnpbjoncoaa
