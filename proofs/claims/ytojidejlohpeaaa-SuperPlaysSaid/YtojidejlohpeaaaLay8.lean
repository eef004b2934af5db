/-
  Where all stands: the program's answer and the document's. A super of the one kind as one of the other.
-/
import Derived.Test.YtojidejlohpeaaaBox8
import Derived.Test.YtojidejlohpeaaaRefSane
namespace Go.Proofs.Ytojidejlohpeaaa
set_option maxRecDepth 100000
open Go.RowKit Crc Wm Sup

theorem results_tmp4 {fn : Func} {t u v x : Tmp} (h : fn.results = #[.tmp t, .tmp u, .tmp v, .tmp x]) (tmps : Array Value) (P : Program) (w : World) :
    (results fn tmps).run P w = .ok (.tuple #[tmps.getD t undef, tmps.getD u undef, tmps.getD v undef, tmps.getD x undef]) w := by
  simp [results, h, go_sem]

def layV (s : Sup) : Value := .tuple #[.int .i64 s.lay.1, .int .i64 s.lay.2.1, .int .i64 s.lay.2.2.1, .int .i64 s.lay.2.2.2]
theorem layV_yes {s : Sup} (h : s.May) : layV s = .tuple #[.int .i64 2, .int .i64 (2 + s.B), .int .i64 (2 + s.B + (s.C + 2) / 3), .int .i64 (2 + s.B + (s.C + 2) / 3 + s.L)] := by
  unfold layV lay
  rw [if_pos h]
theorem layV_no {s : Sup} (h : ¬ s.May) : layV s = .tuple #[.int .i64 0, .int .i64 0, .int .i64 0, .int .i64 0] := by
  unfold layV lay
  rw [if_neg h]

set_option maxHeartbeats 1000000 in
theorem layout_any (w : World) (s : Sup) : Calls Try.prog 16 #[supV s] w fun e w' => e = .returned (layV s) ∧ Below w.heap.size w w' := by
  have HS0 : Hid (SupAt (w.alloc (.cells (supC s) 29)) w.heap.size 29 s) := Lib.hid (heap_alloc_new w _)
  have HB0 := Lib.hid (below_new w (.cells (supC s) 29))
  have hsane := fun W => sane_any W s
  unfold supV
  obtain ⟨C, hC⟩ : ∃ C, C = supC s := ⟨_, rfl⟩
  rw [← hC] at HS0 HB0 ⊢
  clear hC
  by_cases hm : s.May
  · rw [decide_eq_true hm] at hsane
    have HSN := Lib.hid hsane
    have HLV := Lib.hid (layV_yes hm)
    obtain ⟨_, _, ⟨hb0, hb1⟩, ⟨hc0, hc1⟩, ⟨hl0, hl1⟩, _⟩ := hm
    clear hsane
    go_enter Try.func16, Try.ntmps16
    go_upto_region 1 with fail
    generalize w.alloc (.cells C 29) = w0 at *
    go_wp2_with (refine wpList_load_sup tyP HS0.out rfl (.tmp 1) rfl rfl ?_)
    refine (HSN.out w0).mono ?_
    rintro e w1 ⟨rfl, hb1⟩
    have cB : w1.cell? ⟨w.heap.size, 2, none⟩ = some (.int .i64 s.B) := (HS0.out.below hb1).cell (i := 2) (by omega)
    have cC : w1.cell? ⟨w.heap.size, 3, none⟩ = some (.int .i64 s.C) := (HS0.out.below hb1).cell (i := 3) (by omega)
    have cL : w1.cell? ⟨w.heap.size, 4, none⟩ = some (.int .i64 s.L) := (HS0.out.below hb1).cell (i := 4) (by omega)
    have HB1 := Lib.hid (HB0.out.trans (hb1.mono HB0.out.size))
    clear hb1 HS0 HB0
    go_wp2_with fail
    go_quiet (fail)
    go_wp2_with fail
    refine bodyPost_ret (results_tmp4 rfl _ _ _) rfl ⟨?_, below_drewN HB1.out _⟩
    rw [HLV.out, show (s.C + 2) / 3 = (s.C + 3 - 1) / 3 from by omega]
    rfl
  · rw [decide_eq_false hm] at hsane
    have HSN := Lib.hid hsane
    have HLV := Lib.hid (layV_no hm)
    clear hsane hm
    go_enter Try.func16, Try.ntmps16
    go_upto_region 1 with fail
    generalize w.alloc (.cells C 29) = w0 at *
    go_wp2_with (refine wpList_load_sup tyP HS0.out rfl (.tmp 1) rfl rfl ?_)
    refine (HSN.out w0).mono ?_
    rintro e w1 ⟨rfl, hb1⟩
    have HB1 := Lib.hid (HB0.out.trans (hb1.mono HB0.out.size))
    clear hb1 HS0 HB0
    go_wp2_with fail
    exact bodyPost_ret (results_tmp4 rfl _ _ _) rfl ⟨by rw [HLV.out]; rfl, HB1.out⟩

set_option maxHeartbeats 1000000 in
theorem reflayout_any (w : World) (s : Sup) : Calls Try.prog 17 #[supV s] w fun e w' => e = .returned (layV s) ∧ Below w.heap.size w w' := by
  have HS0 : Hid (SupAt (w.alloc (.cells (supC s) 23)) w.heap.size 23 s) := Lib.hid (heap_alloc_new w _)
  have HB0 := Lib.hid (below_new w (.cells (supC s) 23))
  have hsane := fun W => refsane_any W s
  unfold supV
  obtain ⟨C, hC⟩ : ∃ C, C = supC s := ⟨_, rfl⟩
  rw [← hC] at HS0 HB0 ⊢
  clear hC
  by_cases hm : s.May
  · rw [decide_eq_true hm] at hsane
    have HSN := Lib.hid hsane
    have HLV := Lib.hid (layV_yes hm)
    obtain ⟨_, _, ⟨hb0, hb1⟩, ⟨hc0, hc1⟩, ⟨hl0, hl1⟩, _⟩ := hm
    clear hsane
    go_enter Try.func17, Try.ntmps17
    go_upto_region 1 with fail
    generalize w.alloc (.cells C 23) = w0 at *
    go_wp2_with (refine wpList_load_sup tyR HS0.out rfl (.tmp 1) rfl rfl ?_)
    refine (HSN.out w0).mono ?_
    rintro e w1 ⟨rfl, hb1⟩
    have cB : w1.cell? ⟨w.heap.size, 2, none⟩ = some (.int .i64 s.B) := (HS0.out.below hb1).cell (i := 2) (by omega)
    have cC : w1.cell? ⟨w.heap.size, 3, none⟩ = some (.int .i64 s.C) := (HS0.out.below hb1).cell (i := 3) (by omega)
    have cL : w1.cell? ⟨w.heap.size, 4, none⟩ = some (.int .i64 s.L) := (HS0.out.below hb1).cell (i := 4) (by omega)
    have HB1 := Lib.hid (HB0.out.trans (hb1.mono HB0.out.size))
    clear hb1 HS0 HB0
    obtain ⟨b, hbb⟩ : ∃ b, b = s.B := ⟨_, rfl⟩
    obtain ⟨c, hcc⟩ : ∃ c, c = s.C := ⟨_, rfl⟩
    obtain ⟨l, hll⟩ : ∃ l, l = s.L := ⟨_, rfl⟩
    rw [← hbb] at cB hb0 hb1 HLV
    rw [← hcc] at cC hc0 hc1 HLV
    rw [← hll] at cL hl0 hl1 HLV
    clear hbb hcc hll
    obtain ⟨c, rfl⟩ := Int.eq_ofNat_of_zero_le hc0
    obtain ⟨b, rfl⟩ := Int.eq_ofNat_of_zero_le hb0
    go_wp2_with fail
    go_loopw [7, 8] (fun x n wr => ∃ k : Nat, x = .int .i64 (2 + (b : Int) + (k : Int)) ∧ n = .int .i64 ((c : Int) - 3 * (k : Int)) ∧ 3 * k ≤ c + 2 ∧ w1 = wr) (fun _ n _ => (intOf n).toNat)
    case atStart => exact ⟨0, by go_num, by go_num, by omega, rfl⟩
    case round =>
      obtain ⟨k, rfl, rfl, hk, hw⟩ := hrel
      subst hw
      rcases Nat.lt_or_ge (3 * k) c with hlt | hge
      · have hd : decide ((0 : Int) < (c : Int) - 3 * (k : Int)) = true := decide_eq_true (by omega)
        go_wp2_with fail
        go_roundw
        case rel => exact ⟨k + 1, by go_num, by go_num, by omega, by trivial⟩
        case measure => simp [intOf]; omega
      · have hd : decide ((0 : Int) < (c : Int) - 3 * (k : Int)) = false := decide_eq_false (by omega)
        go_wp2_with fail
        go_quiet (fail)
        go_wp2_with fail
        refine bodyPost_ret (results_tmp4 rfl _ _ _) rfl ⟨?_, below_drewN HB1.out _⟩
        rw [HLV.out, show ((c : Int) + 2) / 3 = (k : Int) from by omega]
        rfl
  · rw [decide_eq_false hm] at hsane
    have HSN := Lib.hid hsane
    have HLV := Lib.hid (layV_no hm)
    clear hsane hm
    go_enter Try.func17, Try.ntmps17
    go_upto_region 1 with fail
    generalize w.alloc (.cells C 23) = w0 at *
    go_wp2_with (refine wpList_load_sup tyR HS0.out rfl (.tmp 1) rfl rfl ?_)
    refine (HSN.out w0).mono ?_
    rintro e w1 ⟨rfl, hb1⟩
    have HB1 := Lib.hid (HB0.out.trans (hb1.mono HB0.out.size))
    clear hb1 HS0 HB0
    go_wp2_with fail
    exact bodyPost_ret (results_tmp4 rfl _ _ _) rfl ⟨by rw [HLV.out]; rfl, HB1.out⟩

/-- the second of two new blocks -/
theorem new_two (w : World) (o : Obj) (t : TypeId) (s : Sup) : SupAt ((w.alloc o).alloc (.cells (supC s) t)) (w.heap.size + 1) t s := by
  have h2 := heap_alloc_new (w.alloc o) (.cells (supC s) t)
  rw [World.size_alloc] at h2
  exact h2

theorem ours_any (w : World) (s : Sup) : Calls Try.prog 12 #[supV s] w fun e w' => e = .returned (supV s) ∧ Below w.heap.size w w' := by
  have HB := Lib.hid (fun v => below_two (below_new w (.cells (supC s) 23)) (below_new _ (.cells v 29)))
  have HR := Lib.hid (new_two w (.cells (supC s) 23) 29 s)
  obtain ⟨V, E, B, C, L, H, A⟩ := s
  unfold supV
  have hC : supC ⟨V, E, B, C, L, H, A⟩ = #[.int .i64 V, .int .i64 E, .int .i64 B, .int .i64 C, .int .i64 L, .int .i64 H, .int .i64 A] := rfl
  rw [hC] at HR HB ⊢
  clear hC
  go_enter Try.func12, Try.ntmps12
  go_wp2_with fail
  exact bodyPost_ret (results_sup tyP rfl _ rfl HR.out) rfl ⟨rfl, HB.out _⟩

theorem theirs_any (w : World) (s : Sup) : Calls Try.prog 20 #[supV s] w fun e w' => e = .returned (supV s) ∧ Below w.heap.size w w' := by
  have HB := Lib.hid (fun v => below_two (below_new w (.cells (supC s) 29)) (below_new _ (.cells v 23)))
  have HR := Lib.hid (new_two w (.cells (supC s) 29) 23 s)
  obtain ⟨V, E, B, C, L, H, A⟩ := s
  unfold supV
  have hC : supC ⟨V, E, B, C, L, H, A⟩ = #[.int .i64 V, .int .i64 E, .int .i64 B, .int .i64 C, .int .i64 L, .int .i64 H, .int .i64 A] := rfl
  rw [hC] at HR HB ⊢
  clear hC
  go_enter Try.func20, Try.ntmps20
  go_wp2_with fail
  exact bodyPost_ret (results_sup tyR rfl _ rfl HR.out) rfl ⟨rfl, HB.out _⟩

end Go.Proofs.Ytojidejlohpeaaa
