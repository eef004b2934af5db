/-
  A block's sector: the program's answer.
-/
import Derived.Test.YtknjkihcpcimpaaSd
import Derived.Lib.SlBytesConst
namespace Go.Proofs.Ytknjkihcpcimpaa
set_option maxRecDepth 100000
set_option linter.unusedVariables false
open Go.RowKit Crc Wm Pg

/-- a name of two bytes, as a literal lays it -/
theorem name_rd (w : World) (x y : UInt8) (z u : Int) (hz : z = (x.toNat : Int)) (hu : u = (y.toNat : Int)) : Rd (w.alloc (.cells #[.int .u8 z, .int .u8 u] 5 (2, 3))) (w.heap.size + 1) (some ⟨w.heap.size, 0, none⟩) [x, y] := by
  subst hz hu
  refine .inr ⟨_, 0, rfl, by omega, fun j t ht => ?_⟩
  rw [Nat.zero_add, cell_of_row _ _ _ _ _ _ (heap_alloc_new w _)]
  match j, ht with
  | 0, ht => simp at ht; subst ht; rfl
  | 1, ht => simp at ht; subst ht; rfl
  | j + 2, ht => simp at ht
theorem name_up (w : World) (x y : UInt8) (z u : Int) (hz : z = (x.toNat : Int)) (hu : u = (y.toNat : Int)) : Rd (w.alloc (.cells #[.int .u8 z, .int .u8 u] 5 (2, 3))) (w.alloc (.cells #[.int .u8 z, .int .u8 u] 5 (2, 3))).heap.size (some ⟨w.heap.size, 0, none⟩) [x, y] := by
  rw [show (w.alloc (.cells #[.int .u8 z, .int .u8 u] 5 (2, 3))).heap.size = w.heap.size + 1 from by simp]
  exact name_rd w x y z u hz hu

set_option maxHeartbeats 1000000 in
theorem block_any (n : Int) (A : Option Addr) (N c : Nat) (d : List UInt8) (w : World) (hd : Lies w A c N d) (hN : N ≤ 1073741824) : Calls Try.prog 9 #[.int .i64 n, .slice A N c] w (BlkOut w n d) := by
  have HD := Lib.hid hd
  have HLN := Lib.hid hd.len
  clear hd
  by_cases h1 : Lsn n
  · have hl1 := fun W => may_any n W
    rw [decide_eq_true h1] at hl1
    by_cases h2 : N = 32
    · subst h2
      have HP := Lib.hid (show Lsn n ∧ d.length = 32 from ⟨h1, HLN.out⟩)
      obtain ⟨X, rfl⟩ : ∃ X : Nat, n = (X : Int) := ⟨n.toNat, (Int.toNat_of_nonneg h1.1).symm⟩
      have hX : X ≤ 2199023255552 := by have := h1.2; omega
      have hwX : IntKind.u64.wrap (X : Int) = (X : Int) := by rw [IntWalk.u64_in _ ⟨by omega, by omega⟩]
      clear h1 hN
      obtain ⟨i0, hi, hz0, hz1, hz2⟩ := info_parts byte_facts
      have HI := Lib.hid (And.intro hi (And.intro hz0 (And.intro hz1 hz2)))
      clear hi hz0 hz1 hz2
      have HLS := Lib.hid hl1
      clear hl1
      go_enter Try.func9, Try.ntmps9
      go_wp2_with fail
      refine (HLS.out w).mono ?_
      rintro e w1 ⟨rfl, rfl⟩
      have kc := Lib.run_convert_bytes_const (P := Try.prog) w1 22 5 #[.int .u8 66, .int .u8 0] 2 2 Try.underlying22 Try.underlying5
      have HR2 := Lib.hid (name_up w1 66 0 66 0 rfl rfl)
      have HB2 := Lib.hid (below_new w1 (.cells #[.int .u8 66, .int .u8 0] 5 (2, 3)))
      go_wp2_with fail
      clear kc
      generalize w1.alloc (.cells #[.int .u8 66, .int .u8 0] 5 (2, 3)) = w2 at *
      refine (put_core _ 2 2 [66, 0] (Lib.hid rfl) X 6 6 _ HR2.out (by omega) (by omega) (by omega) (.inr (.inl ⟨by omega, by omega, by omega⟩))).mono ?_
      rintro e w4 ⟨A4, c4, rfl, ho4, hb4⟩
      have HO4 : Hid (Owns w4 w1.heap.size A4 c4 8 ([66, 0] ++ putB 6 X)) := Lib.hid (ho4.base_le HB2.out.size)
      have HB4 := Lib.hid (below_two HB2.out hb4)
      have HD4 := Lib.hid (HD.out.up HB4.out)
      clear ho4 hb4 HR2 HB2
      go_wp2_with (at_builtin; refine wpList_append_rd rfl (.tmp 20) (.tmp 21) _ rfl w1.heap.size i0 Try.underlying22 HI.out.1 HI.out.2.1 HI.out.2.2.1 HI.out.2.2.2 (.slice A4 8 c4) 8 _ rfl HO4.out _ _ d 32 c rfl HD4.out.rd HLN.out (by omega) HB4.out.size ?_; intro v5 w5 hown5 hg5 hat5)
      all_goals
        obtain ⟨A5, c5, rfl, ho5, hb5⟩ := append_step' HO4.out HB4.out HB4.out.size hown5 hg5
        have HO5 : Hid (Owns w5 w1.heap.size A5 c5 40 (blkH X d)) := Lib.hid ho5
        have HB5 := Lib.hid hb5
        clear ho5 hb5 hown5 hg5 hat5 HO4 HB4 HD4
        go_wp2_with fail
        refine (sealed_any A5 c5 40 _ (by omega) w5 HO5.out.lies).mono ?_
        rintro e w6 ⟨A6, c6, rfl, ho6, hb6⟩
        have HO6 := Lib.hid (ho6.base_le HB5.out.size)
        have HB6 := Lib.hid (below_two HB5.out hb6)
        clear ho6 hb6
        go_wp2_with fail
        go_ret2
        unfold BlkOut blkE blkB
        rw [if_pos HP.out, if_pos HP.out]
        exact ⟨A6, 64, c6, rfl, (length_blk X d HP.out.2).symm, HO6.out, HB6.out⟩
    · have HP := Lib.hid (show ¬ (Lsn n ∧ d.length = 32) from fun h => h2 (HLN.out.symm.trans h.2))
      have hd1 : decide ((N : Int) = 32) = false := decide_eq_false (by omega)
      have hd2 : ((N : Int) != 32) = true := by simp; omega
      have HLS := Lib.hid hl1
      clear hl1
      go_enter Try.func9, Try.ntmps9
      go_wp2_with fail
      refine (HLS.out w).mono ?_
      rintro e w1 ⟨rfl, rfl⟩
      go_wp2_with fail
      go_ret2
      exact blk_no HP.out (Below.refl _ _)
  · have hl1 := fun W => may_any n W
    rw [decide_eq_false h1] at hl1
    have HP := Lib.hid (show ¬ (Lsn n ∧ d.length = 32) from fun h => h1 h.1)
    have HLS := Lib.hid hl1
    clear hl1
    go_enter Try.func9, Try.ntmps9
    go_wp2_with fail
    refine (HLS.out w).mono ?_
    rintro e w1 ⟨rfl, rfl⟩
    go_wp2_with fail
    go_ret2
    exact blk_no HP.out (Below.refl _ _)

end Go.Proofs.Ytknjkihcpcimpaa
