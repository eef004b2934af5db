/-
  The library's Grow of nothing, and Concat of two rows: images, ops. New memory with both, one behind the other.
-/
import Derived.Test.YtjpnihmijnpjcaaQc
import Derived.Lib.AppendZerosOnto
import Derived.Lib.SliceRun
import Derived.Lib.Walk
import Derived.StillTailTactics
namespace Go.Proofs.Ytjpnihmijnpjcaa
set_option maxRecDepth 100000
set_option linter.unusedVariables false
set_option linter.unusedSimpArgs false
open Go.RowKit Wm Nn

/-- 'append(nil, make([]T, n)...)' -/
theorem Rk.run_grow {α : Type} {R : Rk α} (hR : R.Ok) (w : World) (n : Nat) (h0 : 0 < n) (hn : n ≤ 2000) (tn : TypeId) (htn : Try.prog.underlying tn = some (.int .i64)) (ty : TypeId) :
    ∃ c w', (Builtin.append_ #[R.s, tn] ty #[.slice none 0 0, .int .i64 (n : Int)]).run Try.prog w = .ok (.slice (some ⟨w.heap.size, 0, none⟩) n c) w' ∧ n ≤ c ∧ c ≤ 9223372036854775807 ∧ R.Own w' w.heap.size (.slice (some ⟨w.heap.size, 0, none⟩) 0 c) [] ∧ Below w.heap.size w w' := by
  obtain ⟨i0, hi, hz, hs, hb⟩ := parts_of hR.facts
  have hpos := hR.pos
  have hfew := hR.few
  have hzs := hR.zs
  have hG := grownCap_ge w n 0 R.e
  have hM := grownCap_le_maxLen w n 0 R.e (by unfold maxLen; omega)
  refine ⟨grownCap w n 0 R.e, _, Lib.run_append_nil_zeros w R.s tn ty R.e i0 R.z .i64 .i64 hR.und htn hi hz n h0 (by omega) (by omega) (by rw [hb]; exact Nat.le_trans (Nat.mul_le_mul hn hfew) (by decide)), by omega, by unfold maxLen at hM; omega, ?_, (Below.refl _ _).drew.alloc (Nat.le_refl _) _⟩
  refine ⟨by simp [Rk.cells], .inr ⟨w.heap.size, _, _, rfl, Nat.le_refl _, heap_alloc_new w.drew _, Nat.zero_le _, hM, ?_, by simp [Rk.cells]⟩⟩
  rw [Array.size_append, size_zeroCells, size_zeroCells, hzs, ← Nat.add_mul]
  congr 1
  omega

/-- a row of ops that a call made -/
def Catop (w : World) (l : List Od) (e : Ending) (w' : World) : Prop := ∃ v, e = .returned v ∧ RO.Own w' w.heap.size v l ∧ Below w.heap.size w w'
set_option maxHeartbeats 1000000 in
theorem grow_op (n : Nat) (w : World) (h2 : n ≤ 2000) :
    Calls Try.prog 49 #[.slice none 0 0, .int .i64 (n : Int)] w (Catop w []) := by
  rcases Nat.eq_zero_or_pos n with h0 | h0
  · subst h0
    go_enter Try.func49, Try.ntmps49
    go_wp2_with fail
    go_ret
    exact ⟨_, rfl, Rk.Own.nil _ _ _, Below.refl _ _⟩
  · obtain ⟨c, W, hr, hnc, hc63, hO, hB⟩ := Rk.run_grow ro_ok w n h0 h2 3 Try.underlying3 23
    have HR := Lib.hid hr
    have HO := Lib.hid hO
    have HB := Lib.hid hB
    clear hr hO hB
    go_enter Try.func49, Try.ntmps49
    go_wp2_with (at_builtin; refine Lib.wpList_append_run _ rfl _ _ _ _ rfl _ _ rfl rfl _ _ (HR.out) ?_)
    go_ret
    exact ⟨_, rfl, HO.out, HB.out⟩

def part_op (l1 l2 : List Od) (j : Nat) : List Od := if j = 0 then [] else if j = 1 then l1 else l1 ++ l2

set_option maxHeartbeats 2000000 in
theorem concat_op (g cs : Nat) (A1 : Option Addr) (c1 L1 : Nat) (l1 : List Od) (HL1 : Hid (l1.length = L1)) (A2 : Option Addr) (c2 L2 : Nat) (l2 : List Od) (HL2 : Hid (l2.length = L2)) (w : World) (hg : g < w.heap.size)
    (hs0 : w.cell? ⟨g, 0, none⟩ = some (.slice A1 L1 c1)) (hs1 : w.cell? ⟨g, 1, none⟩ = some (.slice A2 L2 c2)) (hr1 : Hid (RO.At w A1 l1)) (hr2 : Hid (RO.At w A2 l2)) (hf1 : Hid (A1 = none ∨ ∃ b o, A1 = some ⟨b, o, none⟩)) (hf2 : Hid (A2 = none ∨ ∃ b o, A2 = some ⟨b, o, none⟩)) (h1 : L1 ≤ 1000) (h2 : L2 ≤ 1000) (h3 : L1 ≤ c1) (h4 : L2 ≤ c2) :
    Calls Try.prog 36 #[.slice (some ⟨g, 0, none⟩) 2 cs] w (Catop w (l1 ++ l2)) := by
  go_enter Try.func36, Try.ntmps36
  go_wp2_with fail
  go_loop [3, 11] (fun s i => ∃ j S : Nat, i = .int .i64 (j : Int) ∧ s = .int .i64 (S : Int) ∧ ((j = 0 ∧ S = 0) ∨ (j = 1 ∧ S = L1) ∨ (j = 2 ∧ S = L1 + L2))) (fun _ i => 2 - (intOf i).toNat)
  case atStart => exact ⟨0, 0, rfl, rfl, .inl ⟨rfl, rfl⟩⟩
  case round =>
    obtain ⟨j, S, rfl, rfl, hj⟩ := hrel
    rcases hj with ⟨rfl, rfl⟩ | ⟨rfl, rfl⟩ | ⟨rfl, rfl⟩
    · go_wp2_with fail
      all_goals
        go_round
        case rel => exact ⟨1, L1, by go_num, by go_num, .inr (.inl ⟨rfl, rfl⟩)⟩
        case measure => simp [intOf]
    · go_wp2_with fail
      all_goals
        go_round
        case rel => exact ⟨2, S + L2, by go_num, by go_num, .inr (.inr ⟨rfl, rfl⟩)⟩
        case measure => simp [intOf]
    · have HC := Lib.hid (grow_op (L1 + L2) w (by omega))
      go_wp2_with (go_at_call 49; refine (HC.out).mono ?_; rintro e w1 ⟨v0, rfl, ho0, hb0⟩)
      have HS := Lib.hid (show _ ∧ _ from ⟨hs0, hs1⟩)
      have HB := Lib.hid hb0
      have HO := Lib.hid ho0
      clear hs0 hs1 hb0 ho0 HC
      go_loopw [6, 27] (fun v i wr => ∃ (j : Nat) (V : Value), i = .int .i64 (j : Int) ∧ V = v ∧ j ≤ 2 ∧ Hid (RO.Own wr w.heap.size V (part_op l1 l2 j)) ∧ Hid (Below w.heap.size w wr)) (fun _ i _ => 2 - (intOf i).toNat)
      case atStart => exact ⟨0, v0, rfl, rfl, by omega, HO, HB⟩
      case round =>
        clear HB HO
        obtain ⟨j, V, rfl, rfl, hj, HO, HB⟩ := hrel
        have c0' := (HB.out.cell (p := ⟨g, 0, none⟩) hg).trans HS.out.1
        have c1' := (HB.out.cell (p := ⟨g, 1, none⟩) hg).trans HS.out.2
        rcases (show j = 0 ∨ j = 1 ∨ j = 2 by omega) with rfl | rfl | rfl
        · have HO0 : Hid (RO.Own wr w.heap.size V ([])) := HO
          clear HO c1'
          go_wp2_with (at_builtin; refine RO.wpList_append ro_ok rfl (.tmp 31) (.tmp 32) rfl w.heap.size V ([]) l1 rfl HO0.out A1 L1 c1 rfl (hr1.out.below HB.out) HL1.out hf1.out (by have h1 := HL1.out; have h2 := HL2.out; first | omega | (simp only [List.length_nil]; omega)) HB.out.size ?_; intro v2 w2 ho2 hg2 _; have HO2 := Lib.hid ho2; have HB2 := Lib.hid (HB.out.grown hg2 HB.out.size (fun q e => (HO0.out.lt q e).1)); clear ho2 hg2)
          all_goals
            go_roundw
            case rel => exact ⟨1, v2, by go_num, rfl, by omega, HO2, HB2⟩
            case measure => simp [intOf]
        · have HO0 : Hid (RO.Own wr w.heap.size V (l1)) := HO
          clear HO c0'
          go_wp2_with (at_builtin; refine RO.wpList_append ro_ok rfl (.tmp 31) (.tmp 32) rfl w.heap.size V (l1) l2 rfl HO0.out A2 L2 c2 rfl (hr2.out.below HB.out) HL2.out hf2.out (by have h1 := HL1.out; have h2 := HL2.out; first | omega | (simp only [List.length_nil]; omega)) HB.out.size ?_; intro v2 w2 ho2 hg2 _; have HO2 := Lib.hid ho2; have HB2 := Lib.hid (HB.out.grown hg2 HB.out.size (fun q e => (HO0.out.lt q e).1)); clear ho2 hg2)
          all_goals
            go_roundw
            case rel => exact ⟨2, v2, by go_num, rfl, by omega, HO2, HB2⟩
            case measure => simp [intOf]
        · have HO0 : Hid (RO.Own wr w.heap.size V (l1 ++ l2)) := HO
          clear HO c0' c1'
          go_wp2_with fail
          go_ret
          exact ⟨V, rfl, HO0.out, HB.out⟩

/-- a row of images that a call made -/
def Catim (w : World) (l : List Ir) (e : Ending) (w' : World) : Prop := ∃ v, e = .returned v ∧ RI.Own w' w.heap.size v l ∧ Below w.heap.size w w'
set_option maxHeartbeats 1000000 in
theorem grow_im (n : Nat) (w : World) (h2 : n ≤ 2000) :
    Calls Try.prog 55 #[.slice none 0 0, .int .i64 (n : Int)] w (Catim w []) := by
  rcases Nat.eq_zero_or_pos n with h0 | h0
  · subst h0
    go_enter Try.func55, Try.ntmps55
    go_wp2_with fail
    go_ret
    exact ⟨_, rfl, Rk.Own.nil _ _ _, Below.refl _ _⟩
  · obtain ⟨c, W, hr, hnc, hc63, hO, hB⟩ := Rk.run_grow ri_ok w n h0 h2 3 Try.underlying3 22
    have HR := Lib.hid hr
    have HO := Lib.hid hO
    have HB := Lib.hid hB
    clear hr hO hB
    go_enter Try.func55, Try.ntmps55
    go_wp2_with (at_builtin; refine Lib.wpList_append_run _ rfl _ _ _ _ rfl _ _ rfl rfl _ _ (HR.out) ?_)
    go_ret
    exact ⟨_, rfl, HO.out, HB.out⟩

def part_im (l1 l2 : List Ir) (j : Nat) : List Ir := if j = 0 then [] else if j = 1 then l1 else l1 ++ l2

set_option maxHeartbeats 2000000 in
theorem concat_im (g cs : Nat) (A1 : Option Addr) (c1 L1 : Nat) (l1 : List Ir) (HL1 : Hid (l1.length = L1)) (A2 : Option Addr) (c2 L2 : Nat) (l2 : List Ir) (HL2 : Hid (l2.length = L2)) (w : World) (hg : g < w.heap.size)
    (hs0 : w.cell? ⟨g, 0, none⟩ = some (.slice A1 L1 c1)) (hs1 : w.cell? ⟨g, 1, none⟩ = some (.slice A2 L2 c2)) (hr1 : Hid (RI.At w A1 l1)) (hr2 : Hid (RI.At w A2 l2)) (hf1 : Hid (A1 = none ∨ ∃ b o, A1 = some ⟨b, o, none⟩)) (hf2 : Hid (A2 = none ∨ ∃ b o, A2 = some ⟨b, o, none⟩)) (h1 : L1 ≤ 1000) (h2 : L2 ≤ 1000) (h3 : L1 ≤ c1) (h4 : L2 ≤ c2) :
    Calls Try.prog 47 #[.slice (some ⟨g, 0, none⟩) 2 cs] w (Catim w (l1 ++ l2)) := by
  go_enter Try.func47, Try.ntmps47
  go_wp2_with fail
  go_loop [3, 11] (fun s i => ∃ j S : Nat, i = .int .i64 (j : Int) ∧ s = .int .i64 (S : Int) ∧ ((j = 0 ∧ S = 0) ∨ (j = 1 ∧ S = L1) ∨ (j = 2 ∧ S = L1 + L2))) (fun _ i => 2 - (intOf i).toNat)
  case atStart => exact ⟨0, 0, rfl, rfl, .inl ⟨rfl, rfl⟩⟩
  case round =>
    obtain ⟨j, S, rfl, rfl, hj⟩ := hrel
    rcases hj with ⟨rfl, rfl⟩ | ⟨rfl, rfl⟩ | ⟨rfl, rfl⟩
    · go_wp2_with fail
      all_goals
        go_round
        case rel => exact ⟨1, L1, by go_num, by go_num, .inr (.inl ⟨rfl, rfl⟩)⟩
        case measure => simp [intOf]
    · go_wp2_with fail
      all_goals
        go_round
        case rel => exact ⟨2, S + L2, by go_num, by go_num, .inr (.inr ⟨rfl, rfl⟩)⟩
        case measure => simp [intOf]
    · have HC := Lib.hid (grow_im (L1 + L2) w (by omega))
      go_wp2_with (go_at_call 55; refine (HC.out).mono ?_; rintro e w1 ⟨v0, rfl, ho0, hb0⟩)
      have HS := Lib.hid (show _ ∧ _ from ⟨hs0, hs1⟩)
      have HB := Lib.hid hb0
      have HO := Lib.hid ho0
      clear hs0 hs1 hb0 ho0 HC
      go_loopw [6, 27] (fun v i wr => ∃ (j : Nat) (V : Value), i = .int .i64 (j : Int) ∧ V = v ∧ j ≤ 2 ∧ Hid (RI.Own wr w.heap.size V (part_im l1 l2 j)) ∧ Hid (Below w.heap.size w wr)) (fun _ i _ => 2 - (intOf i).toNat)
      case atStart => exact ⟨0, v0, rfl, rfl, by omega, HO, HB⟩
      case round =>
        clear HB HO
        obtain ⟨j, V, rfl, rfl, hj, HO, HB⟩ := hrel
        have c0' := (HB.out.cell (p := ⟨g, 0, none⟩) hg).trans HS.out.1
        have c1' := (HB.out.cell (p := ⟨g, 1, none⟩) hg).trans HS.out.2
        rcases (show j = 0 ∨ j = 1 ∨ j = 2 by omega) with rfl | rfl | rfl
        · have HO0 : Hid (RI.Own wr w.heap.size V ([])) := HO
          clear HO c1'
          go_wp2_with (at_builtin; refine RI.wpList_append ri_ok rfl (.tmp 31) (.tmp 32) rfl w.heap.size V ([]) l1 rfl HO0.out A1 L1 c1 rfl (hr1.out.below HB.out) HL1.out hf1.out (by have h1 := HL1.out; have h2 := HL2.out; first | omega | (simp only [List.length_nil]; omega)) HB.out.size ?_; intro v2 w2 ho2 hg2 _; have HO2 := Lib.hid ho2; have HB2 := Lib.hid (HB.out.grown hg2 HB.out.size (fun q e => (HO0.out.lt q e).1)); clear ho2 hg2)
          all_goals
            go_roundw
            case rel => exact ⟨1, v2, by go_num, rfl, by omega, HO2, HB2⟩
            case measure => simp [intOf]
        · have HO0 : Hid (RI.Own wr w.heap.size V (l1)) := HO
          clear HO c0'
          go_wp2_with (at_builtin; refine RI.wpList_append ri_ok rfl (.tmp 31) (.tmp 32) rfl w.heap.size V (l1) l2 rfl HO0.out A2 L2 c2 rfl (hr2.out.below HB.out) HL2.out hf2.out (by have h1 := HL1.out; have h2 := HL2.out; first | omega | (simp only [List.length_nil]; omega)) HB.out.size ?_; intro v2 w2 ho2 hg2 _; have HO2 := Lib.hid ho2; have HB2 := Lib.hid (HB.out.grown hg2 HB.out.size (fun q e => (HO0.out.lt q e).1)); clear ho2 hg2)
          all_goals
            go_roundw
            case rel => exact ⟨2, v2, by go_num, rfl, by omega, HO2, HB2⟩
            case measure => simp [intOf]
        · have HO0 : Hid (RI.Own wr w.heap.size V (l1 ++ l2)) := HO
          clear HO c0' c1'
          go_wp2_with fail
          go_ret
          exact ⟨V, rfl, HO0.out, HB.out⟩

end Go.Proofs.Ytjpnihmijnpjcaa
