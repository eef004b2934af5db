/-
  FrameNeeds: the walk: a record has as many sectors as it needs; each has its place and index; together their data is the record.
-/
import Derived.Test.YtofekbipbndbbaaMask6
namespace Go.Proofs.Ytofekbipbndbbaa
open Go.RowKit Crc Wm

theorem piece_read {ep at_ : Int} {b : List UInt8} (h : cutE ep at_ b = 0) (i : Nat) (hi : i < needN b) : readE (pieceAt ep at_ (needN b) b i).sector = 0 ∧ readP (pieceAt ep at_ (needN b) b i).sector = ⟨ep, at_ + i, i, (needN b : Int), (b.drop (44 * i)).take 44⟩ := by
  have h1 := read_write _ (cut_may h i hi)
  exact ⟨h1.1, h1.2⟩

set_option maxHeartbeats 4000000 in
set_option maxRecDepth 100000 in
theorem needs_walk (A : Option Addr) (c L : Nat) (b : List UInt8) (ep at_ : Int) (w : World) (hl : Lies w A c L b) (hL : L ≤ 140737488351232) : Calls Try.prog 7 #[.slice A L c, .int .i64 ep, .int .i64 at_] w fun e w' => e = .returned (.bool true) ∧ Below w.heap.size w w' := by
  by_cases hbig : 1000 < L
  · have hd : decide ((L : Int) > 1000) = true := decide_eq_true (by omega)
    go_enter Try.func7, Try.ntmps7
    go_wp2_with fail
    refine (awake_any w).mono ?_
    rintro e w0 ⟨rfl, hb⟩
    go_wp2_with fail
    go_ret
    exact ⟨rfl, hb⟩
  obtain ⟨ib, hi, hz0, hz1, hz2⟩ := info_parts byte_facts
  have HI := Lib.hid (show _ ∧ _ ∧ _ ∧ _ from ⟨hi, hz0, hz1, hz2⟩)
  clear hi hz0 hz1 hz2
  obtain ⟨X, hX, hx⟩ := low ep 4294967295 32 (by decide) (by omega)
  obtain ⟨Y, hY, hy⟩ := low at_ 16777215 24 (by decide) (by omega)
  have hX2 : X < 4294967296 := hX
  have hY2 : Y < 16777216 := hY
  clear hX hY
  have hcut : cutE X Y b = 0 := cut_any_ok (by omega) (by omega) (by rw [hl.len]; omega) (by omega)
  have hnb := needN_bd b
  rw [hl.len] at hnb
  have hnp := needN_pos b
  have hne := needN_eq b
  rw [hl.len] at hne
  have HND := Lib.hid (need_any L (by omega) (by omega))
  rw [← hne] at HND
  have HC := Lib.hid (fun W (hW : Lies W A c L b) => cut_yes_any hcut hW (by omega) (by omega))
  have HRD := Lib.hid (piece_read hcut)
  have HGT := Lib.hid (fun i hi => cutAll_get (X : Int) (Y : Int) b i hi)
  have HLL := Lib.hid (length_cutAll (X : Int) (Y : Int) b)
  have HBL := Lib.hid hl.len
  have HLI := Lib.hid hl
  clear hcut hne hl
  generalize needN b = C at *
  obtain ⟨n1, n2, n3⟩ := hnb
  have hC : C ≤ 23 := by omega
  generalize cutAll (X : Int) (Y : Int) b = ls at *
  rcases (show C ≤ 1 ∨ (1 < C ∧ 44 * (C - 1) < L) by omega) with h1 | ⟨h1, h1b⟩
  all_goals
    go_enter Try.func7, Try.ntmps7
    go_wp2_with fail
    refine (awake_any w).mono ?_
    rintro e w0 ⟨rfl, hb⟩
    have HB := Lib.hid hb
    clear hb
    go_wp2_with fail
    refine (HC.out w0 (HLI.out.up HB.out)).mono ?_
    rintro e w1 ⟨A1, c1, rfl, hl1, _, hb⟩
    have HL1 := Lib.hid hl1
    replace HB := Lib.hid (below_two HB.out hb)
    clear hb hl1
    go_wp2_with fail
    refine (HND.out w1).mono ?_
    rintro e w1' ⟨rfl, hw⟩
    subst hw
    go_wp2_with fail
    go_loopw [12, 13] (fun v u wr => ∃ (i U : Nat) (A' : Option Addr) (c' : Nat), u = .int .i64 (i : Int) ∧ v = .slice A' U c' ∧ i ≤ C ∧ U ≤ 1100 ∧ Hid (Owns wr w1.heap.size A' c' U (b.take (44 * i))) ∧ Hid (Below w1.heap.size w1 wr)) (fun _ u _ => C - (intOf u).toNat)
    case atStart => exact ⟨0, 0, none, 0, rfl, rfl, by omega, by omega, Lib.hid (by rw [Nat.mul_zero, List.take_zero]; exact World.ownsRow_nil _ _ _ _), Lib.hid (Below.refl _ _)⟩
    case round =>
      obtain ⟨i, U, A', c', rfl, rfl, hi, hU, HO, HW⟩ := hrel
      rcases Nat.lt_or_ge i C with hlt | hge
      · obtain ⟨hr1, hr2⟩ := HRD.out i hlt
        have hg := HGT.out i hlt
        obtain ⟨g, o, Ax, n, cx, rfl, hgb, hgc, hlx⟩ := (HL1.out.up HW.out).at_ hg
        have hn64 : n ≤ 1000000 := by
          have := hlx.len
          have h2 := (readE_ok _).1 hr1
          omega
        have hcall := read_any Ax cx n _ wr hlx (by omega)
        rw [hr1, hr2] at hcall
        have HCA := Lib.hid hcall
        have HST : Hid (b.take (44 * (i + 1)) = b.take (44 * i) ++ (b.drop (44 * i)).take 44) := by show _ = _; rw [Nat.mul_succ, List.take_add]
        have HUL : Hid (U = min (44 * i) L) := by show _ = _; rw [← HO.out.len, List.length_take, HBL.out]
        have HDL : Hid (((b.drop (44 * i)).take 44).length = min 44 (L - 44 * i)) := by show _ = _; rw [List.length_take, List.length_drop, HBL.out]
        have hYi : IntKind.i64.wrap ((Y : Int) + (i : Int)) = (Y : Int) + (i : Int) := by rw [IntKind.wrap_i64]; omega
        clear hg hlx hcall hr1 hr2
        go_wp2_with fail
        refine HCA.out.mono ?_
        rintro e w3 ⟨A3, n3, c3, rfl, ho3, hb3⟩
        simp only at ho3
        have hb4 := below_new w3 (.cells #[.int .i64 (X : Int), .int .i64 ((Y : Int) + (i : Int)), .int .i64 (i : Int), .int .i64 (C : Int), .slice A3 n3 c3] 31)
        have HQ : Hid (Bp (w3.alloc (.cells #[.int .i64 (X : Int), .int .i64 ((Y : Int) + (i : Int)), .int .i64 (i : Int), .int .i64 (C : Int), .slice A3 n3 c3] 31)) w3.heap.size ⟨(X : Int), (Y : Int) + (i : Int), (i : Int), (C : Int), A3, n3, c3⟩ 31) := Lib.hid (Bp.new w3 ⟨(X : Int), (Y : Int) + (i : Int), (i : Int), (C : Int), A3, n3, c3⟩ 31)
        have HD4 := Lib.hid (ho3.below hb4)
        have HO4 := Lib.hid ((HO.out.below hb3).below hb4)
        have HW4 := Lib.hid (below_two (below_two HW.out hb3) hb4)
        have hn3 : n3 ≤ 44 := by have := ho3.len; have := HDL.out; omega
        have hn3e : Hid (n3 = min 44 (L - 44 * i)) := by show _ = _; rw [← ho3.len]; exact HDL.out
        clear ho3 hb3 hb4 HO HW HCA
        generalize hw4 : w3.alloc (.cells #[.int .i64 (X : Int), .int .i64 ((Y : Int) + (i : Int)), .int .i64 (i : Int), .int .i64 (C : Int), .slice A3 n3 c3] 31) = w4 at HQ HD4 HO4 HW4
        have q0 := HQ.out.c0
        have q1 := HQ.out.c1
        have q2 := HQ.out.c2
        have q3 := HQ.out.c3
        have q4 := HQ.out.c4
        simp only at q0 q1 q2 q3 q4
        obtain ⟨hi', hz0, hz1, hz2⟩ := HI.out
        have hle4 := HW4.out.size
        go_wp2_with (at_builtin; refine wpList_append_rd rfl (.tmp 107) (.tmp 109) _ rfl w1.heap.size ib Try.underlying22 hi' hz0 hz1 hz2 (.slice A' U c') U _ rfl HO4.out _ _ _ n3 _ rfl HD4.out.read HD4.out.len (by omega) hle4 ?_; intro v5 w5 hown5 hg5 hat5; obtain ⟨A5, c5, rfl, ho5, hb5⟩ := append_step' HO4.out HW4.out hle4 hown5 hg5; clear hown5 hg5 hat5)
        refine ⟨⟨i + 1, U + n3, A5, c5, by go_num, rfl, by omega, by have := HUL.out; have := hn3e.out; omega, ?_, Lib.hid hb5⟩, by simp [intOf]; omega⟩
        show Owns _ _ _ _ _ _
        rw [HST.out]
        exact ho5
      · obtain rfl : i = C := by omega
        have ho := HO.out
        rw [List.take_of_length_le (by rw [HBL.out]; exact n1)] at ho
        have k1 := ho.lies.conv
        have k2 := ((HLI.out.up HB.out).up HW.out).conv
        have HB2 := Lib.hid (below_two HB.out HW.out)
        clear ho HO HW
        go_wp2_with fail
        go_ret
        exact ⟨by simp, HB2.out⟩

end Go.Proofs.Ytofekbipbndbbaa
