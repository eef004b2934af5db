/-
  A sector of counters: the program's answer.
-/
import Derived.Test.YtknjkihcpcimpaaSe
import Derived.Test.YtknjkihcpcimpaaEq16
namespace Go.Proofs.Ytknjkihcpcimpaa
set_option maxRecDepth 100000
set_option linter.unusedVariables false
set_option linter.unusedSimpArgs false
open Go.RowKit Crc Wm Pg

theorem run_index_c3 {arr ty : TypeId} (h : CeTy ty) (hu : Try.prog.underlying arr = some (.array 3 ty)) (x : C3) (j : Nat) (hj : j < 3) (w : World) : (Instr.index arr (c3V x) (.int .i64 (j : Int))).run Try.prog w = .ok (.agg #[.int .i64 (x.at_ j).V, .int .i64 (x.at_ j).L]) w := by
  obtain ⟨i, hi⟩ := Option.isSome_iff_exists.1 h.hi
  have hs : (sizeOf ty).run Try.prog w = .ok 2 w := by
    rw [run_sizeOf w hi, h.hc]
  have hlt : (0 : Int) ≤ (j : Int) ∧ (j : Int) < ((3 : Nat) : Int) := ⟨by omega, by omega⟩
  obtain ⟨p0, p1, p2⟩ := run_part_c3 h x w
  have hp : (part ty (c3C x) (j * 2)).run Try.prog w = .ok (.agg #[.int .i64 (x.at_ j).V, .int .i64 (x.at_ j).L]) w := by
    rcases j with _ | _ | _ | j
    · exact p0
    · exact p1
    · exact p2
    · omega
  unfold Instr.index c3V
  simp only [asIntOf, Sem.run_bind, Sem.run_pure, Result.andThen_ok, run_underlying hu, Sem.run_ite]
  rw [if_pos hlt]
  simp only [Sem.run_bind, hs, Result.andThen_ok, Int.toNat_natCast, hp]

theorem wpList_index_c3 {w : World} {ops : Array Oper} {rest : List Oper} {o : Oper} {a : Act} {Q : Exit → Act → World → Prop} (hgd : o.guard = none) (p q : Operand) (ho : o.op = .index 32 p q) (x : C3) (j : Nat) (hj : j < 3) (hx : a.eval p = c3V x) (hy : a.eval q = .int .i64 (j : Int))
    (k : wpList Try.prog ops Q rest (a.put o.dst (.agg #[.int .i64 (x.at_ j).V, .int .i64 (x.at_ j).L])) w) : wpList Try.prog ops Q (o :: rest) a w := by
  refine wpList_plain hgd fun K hK => ?_
  unfold Oper.wp execOp
  simp only [ho, hx, hy, Sem.run_bind, Sem.run_pure, run_index_c3 ceP Try.underlying32 x j hj w, Result.andThen_ok]
  exact hK _ _ k

set_option maxHeartbeats 2000000 in
theorem cells_any (x : C3) (w : World) : Calls Try.prog 11 #[c3V x] w (CelOut w x) := by
  have hs0 : C3At (w.alloc (.cells (c3C x) 32)) w.heap.size 32 x := heap_alloc_new w _
  have hb0 := below_new w (.cells (c3C x) 32)
  have HV3 : Hid (c3V x = .agg (c3C x)) := Lib.hid rfl
  rw [HV3.out]
  obtain ⟨C, hC⟩ : ∃ C, C = c3C x := ⟨_, rfl⟩
  rw [← hC] at hs0 hb0 ⊢
  have HS0 := Lib.hid hs0
  have HB0 := Lib.hid hb0
  clear hs0 hb0 hC HV3
  go_enter Try.func11, Try.ntmps11
  go_upto_region 1 with fail
  generalize w.alloc (.cells C 32) = w0 at *
  have kc := Lib.run_convert_bytes_const (P := Try.prog) w0 22 5 #[.int .u8 67, .int .u8 0] 2 2 Try.underlying22 Try.underlying5
  go_upto_region 2 with fail
  have HR2 := Lib.hid (name_up w0 67 0 67 0 rfl rfl)
  have HB2 := Lib.hid (below_new w0 (.cells #[.int .u8 67, .int .u8 0] 5 (2, 3)))
  clear kc
  generalize w0.alloc (.cells #[.int .u8 67, .int .u8 0] 5 (2, 3)) = w2 at *
  have HS2 := Lib.hid (HS0.out.below HB2.out)
  have HB02 := Lib.hid (below_two HB0.out HB2.out)
  clear HS0 HB0 HB2
  generalize w0.heap.size = g0 at *
  go_wp2_with (refine wpList_load_c3 tyP HS2.out rfl (.tmp 1) rfl rfl ?_)
  go_loopg [4, 6, 10] 3 (fun gn b _ i wr => ∃ (j : Nat) (A : Option Addr) (c : Nat), i = .int .i64 (j : Int) ∧ b = .slice A (2 + 14 * j) c ∧ j + gn = 3 ∧ Hid (Rd wr wr.heap.size A (celTo x j)) ∧ Hid (2 + 14 * j ≤ c) ∧ Hid (Below w.heap.size w wr) ∧ Hid (∀ k, k < j → Lsn (x.at_ k).L))
  case atStart => exact ⟨0, _, _, rfl, rfl, by omega, HR2, Lib.hid (by omega), HB02, Lib.hid (fun k hk => by omega)⟩
  case round =>
    obtain ⟨j, A, c, rfl, rfl, hog, HRW, HCW, HBW, HMY⟩ := hrel
    rcases Nat.lt_or_ge j 3 with hlt | hge
    · have hdj : decide ((j : Int) < 3) = true := decide_eq_true (by omega)
      obtain ⟨v, hv⟩ : ∃ v, v = (x.at_ j).V := ⟨_, rfl⟩
      obtain ⟨y, hy⟩ : ∃ y, y = (x.at_ j).L := ⟨_, rfl⟩
      have HV := Lib.hid hv
      have HY := Lib.hid hy
      clear hv hy
      go_upto_region 5 with (refine wpList_index_c3 rfl (.tmp 9) (.tmp 10) rfl x j hlt rfl rfl ?_; rw [← HV.out, ← HY.out])
      have hbk : (wr.alloc (.cells #[.int .i64 v, .int .i64 y] 31)).heap[wr.heap.size]? = some (.cells #[.int .i64 v, .int .i64 y] 31 (0, 0)) := heap_alloc_new wr _
      have HBK := Lib.hid hbk
      have hbn := below_new wr (.cells #[.int .i64 v, .int .i64 y] 31)
      have HB4 := Lib.hid (HBW.out.trans (hbn.mono HBW.out.size))
      have HR4 := Lib.hid (HRW.out.up hbn)
      clear hbk hbn HRW HBW
      generalize wr.alloc (.cells #[.int .i64 v, .int .i64 y] 31) = w4 at *
      generalize wr.heap.size = g4 at *
      have c0 : w4.cell? ⟨g4, 0, none⟩ = some (.int .i64 v) := (cell_of_row _ _ _ _ _ _ HBK.out).trans rfl
      have c1 : w4.cell? ⟨g4, 1, none⟩ = some (.int .i64 y) := (cell_of_row _ _ _ _ _ _ HBK.out).trans rfl
      by_cases hm : Lsn y
      · have hls := fun W => may_any y W
        rw [decide_eq_true hm] at hls
        obtain ⟨X, hX⟩ : ∃ X : Nat, y = (X : Int) := ⟨y.toNat, (Int.toNat_of_nonneg hm.1).symm⟩
        have hXb : X ≤ 2199023255552 := by have := hm.2; omega
        have hwX : IntKind.u64.wrap (X : Int) = (X : Int) := by rw [IntWalk.u64_in _ ⟨by omega, by omega⟩]
        have HM : Hid (∀ k, k < j + 1 → Lsn (x.at_ k).L) := Lib.hid (fun k hk => by
          rcases Nat.lt_or_ge k j with h | h
          · exact HMY.out k h
          · obtain rfl : k = j := by omega
            rw [← HY.out]; exact hm)
        subst hX
        have HLX := Lib.hid hls
        clear hls HMY hm
        go_wp2_with fail
        refine (HLX.out w4).mono ?_
        rintro e w5 ⟨rfl, he5⟩
        subst he5
        go_wp2_with fail
        refine (signed_any A c (2 + 14 * j) (celTo x j) (Lib.hid (length_celTo x j)) v w5 HR4.out (by omega)).mono ?_
        rintro e w6 ⟨A6, c6, rfl, ho6, hb6⟩
        have HO6 : Hid (Rd w6 w6.heap.size A6 (celTo x j ++ putB 8 (sgn v))) := Lib.hid ho6.read
        have HL6 : Hid ((celTo x j ++ putB 8 (sgn v)).length = 2 + 14 * j + 8) := Lib.hid ho6.len
        have HB6 := Lib.hid (HB4.out.trans (hb6.mono HB4.out.size))
        have HBK6 := Lib.hid ((hb6.block g4 (lt_of_block HBK.out)).trans HBK.out)
        clear ho6 hb6 c0 c1 HBK HB4 HR4 HLX
        have c1 : w6.cell? ⟨g4, 1, none⟩ = some (.int .i64 (X : Int)) := (cell_of_row _ _ _ _ _ _ HBK6.out).trans rfl
        go_wp2_with fail
        refine (put_core A6 c6 (2 + 14 * j + 8) _ HL6 X 6 6 w6 HO6.out (by omega) (by omega) (by omega) (.inr (.inl ⟨by omega, by omega, by omega⟩))).mono ?_
        rintro e w7 ⟨A7, c7, rfl, ho7, hb7⟩
        have HO7 : Hid (Rd w7 w7.heap.size A7 (celTo x (j + 1))) := Lib.hid (by
          have h := ho7.read
          have e1 : celTo x (j + 1) = celTo x j ++ putB 8 (sgn v) ++ putB 6 X := by
            show celTo x j ++ celB (x.at_ j) = _
            unfold celB
            rw [← HV.out, ← HY.out, Int.toNat_natCast, List.append_assoc]
          rw [e1]
          exact h)
        have HC7 : Hid (2 + 14 * (j + 1) ≤ c7) := Lib.hid (by have h := ho7.cap_le; omega)
        have HB7 := Lib.hid (HB6.out.trans (hb7.mono HB6.out.size))
        have hlen : 2 + 14 * j + 8 + 6 = 2 + 14 * (j + 1) := by omega
        rw [hlen]
        clear ho7 hb7 c1 HO6 HL6 HB6 HBK6 hlen
        go_wp2_with fail
        go_roundg (gk - 1)
        case measure => omega
        case rel => exact ⟨j + 1, A7, c7, by go_num, rfl, by omega, HO7, HC7, HB7, HM⟩
      · have hls := fun W => may_any y W
        rw [decide_eq_false hm] at hls
        have HLS := Lib.hid hls
        have HNM : Hid (¬ x.May) := Lib.hid (fun h => hm (by rw [HY.out]; exact C3.at_may h j))
        have HNX := Lib.hid hm
        clear hls hm
        go_wp2_with fail
        refine (HLS.out w4).mono ?_
        rintro e w5 ⟨rfl, he5⟩
        subst he5
        clear c0 c1
        go_wp2_with fail
        go_ret2
        exact cel_no HNM.out HB4.out
    · obtain rfl : j = 3 := by omega
      have HM : Hid x.May := Lib.hid (C3.may_of HMY.out)
      go_wp2_with fail
      refine (sealed_any A c 44 (celTo x 3) (by omega) wr ⟨HRW.out, length_celTo x 3, HCW.out⟩).mono ?_
      rintro e w6 ⟨A6, c6, rfl, ho6, hb6⟩
      have HO6 := Lib.hid (ho6.base_le HBW.out.size)
      have HB6 := Lib.hid (HBW.out.trans (hb6.mono HBW.out.size))
      clear ho6 hb6
      go_wp2_with fail
      go_ret2
      unfold CelOut celE celS
      rw [if_pos HM.out, if_pos HM.out]
      exact ⟨A6, 64, c6, rfl, (length_cel x).symm, HO6.out, HB6.out⟩

end Go.Proofs.Ytknjkihcpcimpaa
