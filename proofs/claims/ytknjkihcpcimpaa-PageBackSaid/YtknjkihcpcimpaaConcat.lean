/-
  The library's Grow of nothing, and Concat of two slices of bytes: new memory with both, one behind the other.
-/
import Derived.Test.YtknjkihcpcimpaaChecked
import Derived.Test.YtknjkihcpcimpaaMem
import Derived.Outline
import Derived.Deep.DeepFit
import Derived.Deep.DeepMust
import Derived.Lib.AppendZerosOnto
import Derived.Lib.SliceRun
import Derived.Lib.Walk
import Derived.StillTailTactics
namespace Go.Proofs.Ytknjkihcpcimpaa
set_option maxRecDepth 100000
open Go.RowKit

theorem byte_facts : (Try.prog.info? 5).map (fun i => (i.zero, i.size, i.bytes)) = some (some (.int .u8 0), 1, 1) := by kernel_rfl

set_option maxHeartbeats 1000000 in
theorem grow_nil (n : Nat) (w : World) (h1 : 1 ≤ n) (h2 : n ≤ 4294967296) :
    Calls Try.prog 54 #[.slice none 0 0, .int .i64 (n : Int)] w (Made w 0 []) := by
  obtain ⟨i0, hi, hz0, hz1, hz2⟩ := info_parts byte_facts
  have hrz : ∀ ty, (Builtin.append_ #[22, 3] ty #[.slice none 0 0, .int .i64 (n : Int)]).run Try.prog w = _ := fun ty =>
    Lib.run_append_nil_zeros w 22 3 ty 5 i0 (.int .u8 0) .i64 .i64 Try.underlying22 Try.underlying3 hi hz0 n (by omega) (by omega) (by omega) (by rw [hz2]; omega)
  have hG := grownCap_ge w n 0 5
  have hM := grownCap_le_maxLen w n 0 5 (by unfold maxLen; omega)
  have hO : (w.drew.alloc (.cells (Builtin.zeroCells (Value.cells (.int .u8 0)) n ++ Builtin.zeroCells (Value.cells (.int .u8 0)) (grownCap w n 0 5 - n)) 5)).ownsRow w.heap.size 5 1 (.slice (some ⟨w.heap.size, 0, none⟩) 0 (grownCap w n 0 5)) 0 [] := by
    refine ⟨rfl, .inr ⟨w.heap.size, _, _, rfl, Nat.le_refl _, heap_alloc_new w.drew _, Nat.zero_le _, hM, ?_, by simp⟩⟩
    rw [Array.size_append, size_zeroCells, size_zeroCells]
    simp [Value.cells]
    omega
  have hB : Below w.heap.size w (w.drew.alloc (.cells (Builtin.zeroCells (Value.cells (.int .u8 0)) n ++ Builtin.zeroCells (Value.cells (.int .u8 0)) (grownCap w n 0 5 - n)) 5)) :=
    (Below.refl _ _).drew.alloc (Nat.le_refl _) _
  generalize w.drew.alloc (.cells (Builtin.zeroCells (Value.cells (.int .u8 0)) n ++ Builtin.zeroCells (Value.cells (.int .u8 0)) (grownCap w n 0 5 - n)) 5) = W at hrz hO hB
  generalize grownCap w n 0 5 = G at hrz hO hG hM
  have hM63 : G ≤ 9223372036854775807 := by unfold maxLen at hM; omega
  have HR := Lib.hid hrz
  have HO := Lib.hid hO
  have HB := Lib.hid hB
  clear hrz hO hB hM
  go_enter Try.func54, Try.ntmps54
  go_wp2_with (at_builtin; refine Lib.wpList_append_run _ rfl _ _ _ _ rfl _ _ rfl rfl _ _ (HR.out _) ?_)
  go_ret
  exact ⟨_, _, rfl, HO.out, HB.out⟩

/-- how much has been counted, or laid, when j of two are through -/
def partN (L1 L2 j : Nat) : Nat := if j = 0 then 0 else if j = 1 then L1 else L1 + L2
def partL (l1 l2 : List UInt8) (j : Nat) : List UInt8 := if j = 0 then [] else if j = 1 then l1 else l1 ++ l2

set_option maxHeartbeats 2000000 in
theorem concat_two (g cs : Nat) (A1 : Option Addr) (c1 L1 : Nat) (l1 : List UInt8) (HL1 : Hid (l1.length = L1)) (A2 : Option Addr) (c2 L2 : Nat) (l2 : List UInt8) (HL2 : Hid (l2.length = L2)) (w : World) (hg : g < w.heap.size)
    (hs0 : w.cell? ⟨g, 0, none⟩ = some (.slice A1 L1 c1)) (hs1 : w.cell? ⟨g, 1, none⟩ = some (.slice A2 L2 c2)) (hr1 : Rd w w.heap.size A1 l1) (hr2 : Rd w w.heap.size A2 l2) (h1 : L1 ≤ 1073741824) (h2 : L2 ≤ 1073741824) (hpos : 1 ≤ L2) :
    Calls Try.prog 48 #[.slice (some ⟨g, 0, none⟩) 2 cs] w (Made w (L1 + L2) (l1 ++ l2)) := by
  obtain ⟨i0, hi, hz0, hz1, hz2⟩ := info_parts byte_facts
  have HI := Lib.hid (show _ ∧ _ ∧ _ ∧ _ from ⟨hi, hz0, hz1, hz2⟩)
  clear hi hz0 hz1 hz2
  go_enter Try.func48, Try.ntmps48
  go_wp2_with fail
  go_loop [3, 11] (fun s i => ∃ j S : Nat, i = .int .i64 (j : Int) ∧ s = .int .i64 (S : Int) ∧ ((j = 0 ∧ S = 0) ∨ (j = 1 ∧ S = L1) ∨ (j = 2 ∧ S = L1 + L2))) (fun _ i => 2 - (intOf i).toNat)
  case atStart => exact ⟨0, 0, rfl, rfl, .inl ⟨rfl, rfl⟩⟩
  case round =>
    obtain ⟨j, S, rfl, rfl, hj⟩ := hrel
    rcases hj with ⟨rfl, rfl⟩ | ⟨rfl, rfl⟩ | ⟨rfl, rfl⟩
    · go_wp2_with fail
      all_goals
        go_round
        case rel => exact ⟨1, L1, by go_num, by go_num, .inr (.inl ⟨rfl, rfl⟩)⟩
        case measure => simp [intOf]
    · go_wp2_with fail
      all_goals
        go_round
        case rel => exact ⟨2, S + L2, by go_num, by go_num, .inr (.inr ⟨rfl, rfl⟩)⟩
        case measure => simp [intOf]
    · have hgrow : 1 ≤ L1 + L2 ∧ L1 + L2 ≤ 4294967296 := by omega
      have HC := Lib.hid (grow_nil (L1 + L2) w hgrow.1 hgrow.2)
      clear hgrow
      go_wp2_with (go_at_call 54; refine (HC.out).mono ?_; rintro e w1 ⟨A0, c0, rfl, ho0, hb0⟩)
      have c0' := (hb0.cell (p := ⟨g, 0, none⟩) hg).trans hs0
      have c1' := (hb0.cell (p := ⟨g, 1, none⟩) hg).trans hs1
      have HS := Lib.hid (show _ ∧ _ from ⟨hs0, hs1⟩)
      have HB := Lib.hid hb0
      have HO := Lib.hid ho0
      clear hs0 hs1 hb0 ho0 c0' c1' HC
      go_loopw [6, 27] (fun v i wr => ∃ (j : Nat) (A' : Option Addr) (c' : Nat), i = .int .i64 (j : Int) ∧ j ≤ 2 ∧ v = .slice A' (partN L1 L2 j) c' ∧ Owns wr w.heap.size A' c' (partN L1 L2 j) (partL l1 l2 j) ∧ Below w.heap.size w wr) (fun _ i _ => 2 - (intOf i).toNat)
      case atStart => exact ⟨0, A0, c0, rfl, by omega, rfl, HO.out, HB.out⟩
      case round =>
        clear HB HO
        obtain ⟨j, A', c', rfl, hj, rfl, ho, hb⟩ := hrel
        have c0' := (hb.cell (p := ⟨g, 0, none⟩) hg).trans HS.out.1
        have c1' := (hb.cell (p := ⟨g, 1, none⟩) hg).trans HS.out.2
        obtain ⟨hi, hz0, hz1, hz2⟩ := HI.out
        have hwr := hb.size
        rcases (show j = 0 ∨ j = 1 ∨ j = 2 by omega) with rfl | rfl | rfl
        · replace ho : Owns wr w.heap.size A' c' 0 [] := ho
          clear c1'
          have hpz : partN L1 L2 0 = 0 := rfl
          rw [hpz]
          clear hpz
          go_wp2_with (at_builtin; refine wpList_append_rd rfl (.tmp 31) (.tmp 32) _ rfl w.heap.size i0 Try.underlying22 hi hz0 hz1 hz2 (.slice A' 0 c') 0 [] rfl ho _ _ l1 L1 _ rfl (hr1.below hb) HL1.out (by omega) hb.size ?_; intro v2 w2 hown2 hg2 hat2; obtain ⟨A3, c3, rfl, ho3, hb3⟩ := append_step' (l := []) ho hb hb.size hown2 hg2; clear hown2 hg2 hat2)
          all_goals
            go_roundw
            case rel => exact ⟨1, A3, c3, by go_num, by omega, by simp [partN], by simpa [partN, partL] using ho3, hb3⟩
            case measure => simp [intOf]
        · replace ho : Owns wr w.heap.size A' c' L1 l1 := ho
          clear c0'
          have hpz : partN L1 L2 1 = L1 := rfl
          rw [hpz]
          clear hpz
          go_wp2_with (at_builtin; refine wpList_append_rd rfl (.tmp 31) (.tmp 32) _ rfl w.heap.size i0 Try.underlying22 hi hz0 hz1 hz2 (.slice A' L1 c') L1 _ rfl ho _ _ l2 L2 _ rfl (hr2.below hb) HL2.out (by omega) hb.size ?_; intro v2 w2 hown2 hg2 hat2; obtain ⟨A3, c3, rfl, ho3, hb3⟩ := append_step' ho hb hb.size hown2 hg2; clear hown2 hg2 hat2)
          all_goals
            go_roundw
            case rel => exact ⟨2, A3, c3, by go_num, by omega, by simp [partN], by simpa [partN, partL] using ho3, hb3⟩
            case measure => simp [intOf]
        · replace ho : Owns wr w.heap.size A' c' (L1 + L2) (l1 ++ l2) := ho
          have hpz : partN L1 L2 2 = L1 + L2 := rfl
          rw [hpz]
          clear hpz c0' c1' hi hz0 hz1 hz2
          go_wp2_with fail
          go_ret
          exact ⟨A', c', rfl, ho, hb⟩

end Go.Proofs.Ytknjkihcpcimpaa
