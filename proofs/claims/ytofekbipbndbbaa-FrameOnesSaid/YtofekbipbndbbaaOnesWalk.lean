/-
  FrameOnes: the walk: a record of no bytes is one sector; a sector of nothing, one that is too short, and no sectors at all are none.
-/
import Derived.Test.YtofekbipbndbbaaMask6
namespace Go.Proofs.Ytofekbipbndbbaa
open Go.RowKit Crc Wm

theorem lies_nil (w : World) : Lies w none 0 0 [] := ⟨.inl rfl, rfl, Nat.le_refl _⟩

set_option maxHeartbeats 4000000 in
set_option maxRecDepth 100000 in
theorem ones_walk (ep at_ n : Int) (w : World) : Calls Try.prog 8 #[.int .i64 ep, .int .i64 at_, .int .i64 n] w fun e w' => e = .returned (.bool true) ∧ Below w.heap.size w w' := by
  obtain ⟨X, hX, hx⟩ := low ep 4294967295 32 (by decide) (by omega)
  obtain ⟨Y, hY, hy⟩ := low at_ 16777215 24 (by decide) (by omega)
  obtain ⟨Z, hZ, hz⟩ := low n 63 6 (by decide) (by omega)
  have hX2 : X < 4294967296 := hX
  have hY2 : Y < 16777216 := hY
  have hZ2 : Z < 64 := hZ
  clear hX hY hZ
  have hcut : cutE X Y [] = 0 := cut_any_ok (by omega) (by omega) (by simp) (by omega)
  have hn : needN [] = 1 := by decide
  have hrec := (Rec.of_cut' hcut).gat
  rw [hn] at hrec
  obtain ⟨g0, g1, g2, g3⟩ := hrec
  have HC := Lib.hid (fun W => cut_yes_any hcut (lies_nil W) (by omega) (by omega))
  rw [hn] at HC
  have hll : (cutAll (X : Int) (Y : Int) []).length = 1 := by rw [length_cutAll, hn]
  have hsm := all_small hcut
  have HG := Lib.hid (fun A c W hW => gat_yes_any g1 g2 g3 g0 (A := A) (c := c) (w := W) hW hll (by omega) (fun x hx => by rw [hsm x hx]; omega) ⟨by omega, by omega⟩)
  have HG0 := Lib.hid (fun W => gat_err_any (ls := []) (at_ := (Y : Int)) (E := 2) rfl (A := none) (c := 0) (m := 0) (w := W) (.inl rfl) rfl (by omega) (by simp) ⟨by omega, by omega⟩)
  have hr1 := read_zeros Z hZ2
  have hr2 := read_zeros64
  have HR1 := Lib.hid hr1
  have HR2 := Lib.hid hr2
  clear hcut hn g0 g1 g2 g3 hll hsm hr1 hr2
  generalize cutAll (X : Int) (Y : Int) [] = ls at *
  go_enter Try.func8, Try.ntmps8
  go_wp2_with fail
  refine (awake_any w).mono ?_
  rintro e w0 ⟨rfl, hb⟩
  have HB := Lib.hid hb
  clear hb
  go_wp2_with fail
  refine (HC.out w0).mono ?_
  rintro e w1 ⟨A1, c1, rfl, hl1, _, hb⟩
  have HL1 := Lib.hid hl1
  replace HB := Lib.hid (below_two HB.out hb)
  clear hb hl1 HC
  go_wp2_with fail
  refine (HG.out A1 c1 w1 HL1.out).mono ?_
  rintro e w2 ⟨A2, n2, c2, rfl, ho2, hb⟩
  replace HB := Lib.hid (below_two HB.out hb)
  obtain rfl : n2 = 0 := by rw [← ho2.len]; rfl
  clear hb ho2 HG
  obtain ⟨w3, hmk3, hown3, hbm3⟩ := run_zeros w2 Z (by omega)
  replace HB := Lib.hid (below_two HB.out hbm3)
  have HO3 := Lib.hid hown3
  have HMK3 := Lib.hid hmk3
  clear hmk3 hown3 hbm3
  go_wp2_with (at_make; refine wpList_make_run rfl 22 _ _ rfl rfl rfl HMK3.out ?_)
  refine (read_any _ _ Z (zeroB Z) w3 HO3.out.lies (by omega)).mono ?_
  rintro e w4 ⟨A4, n4, c4, rfl, ho4, hb⟩
  rw [readP_not _ (by rw [HR1.out]; decide), HR1.out]
  replace HB := Lib.hid (below_two (below_two HB.out hb) (below_new w4 (.cells #[.int .i64 Pc.none.E, .int .i64 Pc.none.A, .int .i64 Pc.none.I, .int .i64 Pc.none.C, .slice A4 n4 c4] 31)))
  clear hb ho4 HO3 HMK3
  generalize hw5 : w4.alloc (.cells #[.int .i64 Pc.none.E, .int .i64 Pc.none.A, .int .i64 Pc.none.I, .int .i64 Pc.none.C, .slice A4 n4 c4] 31) = w5 at HB
  obtain ⟨w6, hmk6, hown6, hbm6⟩ := run_zeros w5 64 (by omega)
  replace HB := Lib.hid (below_two HB.out hbm6)
  have HO6 := Lib.hid hown6
  have HMK6 := Lib.hid hmk6
  clear hmk6 hown6 hbm6
  go_wp2_with (at_make; refine wpList_make_run rfl 22 _ _ rfl rfl rfl HMK6.out ?_)
  refine (read_any _ _ 64 (zeroB 64) w6 HO6.out.lies (by omega)).mono ?_
  rintro e w7 ⟨A7, n7, c7, rfl, ho7, hb⟩
  rw [readP_not _ (by rw [HR2.out]; decide), HR2.out]
  replace HB := Lib.hid (below_two (below_two HB.out hb) (below_new w7 (.cells #[.int .i64 Pc.none.E, .int .i64 Pc.none.A, .int .i64 Pc.none.I, .int .i64 Pc.none.C, .slice A7 n7 c7] 31)))
  clear hb ho7 HO6 HMK6
  generalize hw8 : w7.alloc (.cells #[.int .i64 Pc.none.E, .int .i64 Pc.none.A, .int .i64 Pc.none.I, .int .i64 Pc.none.C, .slice A7 n7 c7] 31) = w8 at HB
  go_wp2_with fail
  refine (HG0.out w8).mono ?_
  rintro e w9 ⟨A9, n9, c9, rfl, hb⟩
  replace HB := Lib.hid (below_two HB.out hb)
  clear hb
  go_wp2_with fail
  go_ret
  exact ⟨rfl, HB.out⟩

end Go.Proofs.Ytofekbipbndbbaa
