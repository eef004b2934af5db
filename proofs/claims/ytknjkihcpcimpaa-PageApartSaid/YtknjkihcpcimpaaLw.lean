/-
  The law's own turning of three cells of one kind into the other; where a counter is, as the document says.
-/
import Derived.Test.YtknjkihcpcimpaaRof
namespace Go.Proofs.Ytknjkihcpcimpaa
set_option maxRecDepth 100000
set_option linter.unusedVariables false
open Go.RowKit Crc Wm Pg

def copyTo (x : C3) : Nat → C3
  | 0 => .zero
  | n + 1 => C3.put (copyTo x n) n (x.at_ n)
theorem copyTo_all (x : C3) : copyTo x 3 = x := rfl
theorem C3At.drewC {w : World} {g t : Nat} {x : C3} (h : C3At w g t x) : C3At (World.drew w) g t x := h

set_option maxHeartbeats 2000000 in
theorem ours_any (x : C3) (w : World) : Calls Try.prog 12 #[c3V x] w fun e w' => e = .returned (c3V x) ∧ Below w.heap.size w w' := by
  have hz : c3C .zero = #[.int .i64 0, .int .i64 0, .int .i64 0, .int .i64 0, .int .i64 0, .int .i64 0] := rfl
  obtain ⟨C, hC⟩ : ∃ C, C = c3C x := ⟨_, rfl⟩
  have hs0 : C3At (w.alloc (.cells C 25)) w.heap.size 25 x := by rw [hC]; exact heap_alloc_new w _
  have hb0 := below_new w (.cells C 25)
  have hz0 : (w.alloc (.cells C 25)).heap.size = w.heap.size + 1 := by simp
  have hs1 : C3At ((w.alloc (.cells C 25)).alloc (.cells (c3C .zero) 32)) (w.heap.size + 1) 32 .zero := by
    have h := heap_alloc_new (w.alloc (.cells C 25)) (.cells (c3C .zero) 32)
    rw [hz0] at h
    exact h
  have hb1 := below_new (w.alloc (.cells C 25)) (.cells (c3C .zero) 32)
  have hz1 : ((w.alloc (.cells C 25)).alloc (.cells (c3C .zero) 32)).heap.size = w.heap.size + 2 := by simp
  have hs2 : C3At (((w.alloc (.cells C 25)).alloc (.cells (c3C .zero) 32)).alloc (.cells (c3C .zero) 32)) (w.heap.size + 2) 32 .zero := by
    have h := heap_alloc_new ((w.alloc (.cells C 25)).alloc (.cells (c3C .zero) 32)) (.cells (c3C .zero) 32)
    rw [hz1] at h
    exact h
  have hb2 := below_new ((w.alloc (.cells C 25)).alloc (.cells (c3C .zero) 32)) (.cells (c3C .zero) 32)
  have HS0 := Lib.hid ((hs0.below hb1).below hb2)
  have HS1 := Lib.hid (hs1.below hb2)
  have HS2 := Lib.hid hs2
  have HB2 := Lib.hid (below_two hb0 (below_two hb1 hb2))
  rw [hz] at HS0 HS1 HS2 HB2
  have HC := Lib.hid hC
  unfold c3V
  rw [← hC]
  clear hs0 hb0 hz0 hs1 hb1 hz1 hs2 hb2 hz hC
  go_enter Try.func12, Try.ntmps12
  go_upto_region 2 with fail
  generalize ((w.alloc (.cells C 25)).alloc (.cells #[.int .i64 0, .int .i64 0, .int .i64 0, .int .i64 0, .int .i64 0, .int .i64 0] 32)).alloc (.cells #[.int .i64 0, .int .i64 0, .int .i64 0, .int .i64 0, .int .i64 0, .int .i64 0] 32) = w0 at *
  go_wp2_with fail
  go_loopg [4] 3 (fun gn i wr => ∃ (j : Nat), i = .int .i64 (j : Int) ∧ j + gn = 3 ∧ Hid (C3At wr w.heap.size 25 x) ∧ Hid (C3At wr (w.heap.size + 1) 32 .zero) ∧ Hid (C3At wr (w.heap.size + 2) 32 (copyTo x j)) ∧ Hid (Below w.heap.size w wr))
  case atStart => exact ⟨0, rfl, by omega, HS0, HS1, HS2, HB2⟩
  case round =>
    obtain ⟨j, rfl, hog, HX, HY, HT, HP⟩ := hrel
    rcases Nat.lt_or_ge j 3 with hlt | hge
    · have hdj : decide ((j : Int) < 3) = true := decide_eq_true (by omega)
      obtain ⟨ca, cb⟩ := HX.out.at_ j hlt
      obtain ⟨c0, c1⟩ := HT.out.at_ j hlt
      have f0 := HT.out.fr (j * 2)
      have f1 := HT.out.fr (j * 2 + 1)
      obtain ⟨V, hV⟩ : ∃ V, V = (x.at_ j).V := ⟨_, rfl⟩
      obtain ⟨L, hL⟩ : ∃ L, L = (x.at_ j).L := ⟨_, rfl⟩
      rw [← hV] at ca
      rw [← hL] at cb
      obtain ⟨HT3, hg3⟩ := HT.out.drewC.put2 j hlt (x.at_ j)
      rw [← hV, ← hL] at HT3 hg3
      have hd : Below w.heap.size w (World.drew wr) := HP.out.drew
      have HT4 : Hid (C3At _ (w.heap.size + 2) 32 (copyTo x (j + 1))) := Lib.hid HT3
      have HX4 := Lib.hid (HX.out.drewC.far hg3 (by omega))
      have HY4 := Lib.hid (HY.out.drewC.far hg3 (by omega))
      have HP4 := Lib.hid (hd.grown hg3 hd.size (fun k hk => by injection hk with hk; omega))
      clear HT3 hg3 hV hL hd HX HY HT HP
      go_wp2_with fail
      go_region
      go_wp2_with fail
      go_roundg (gk - 1)
      case measure => omega
      case rel => exact ⟨j + 1, by go_num, by omega, HX4, HY4, HT4, HP4⟩
    · obtain rfl : j = 3 := by omega
      have HT3 : Hid (C3At wr (w.heap.size + 2) 32 x) := HT
      clear HT
      go_wp2_with (first
        | (refine wpList_load_c3 tyP HT3.out rfl (.tmp 3) rfl rfl ?_)
        | (refine wpList_store_c3 tyP HY.out rfl (.tmp 2) (.tmp 20) rfl rfl x rfl ?_; intro w6 hs6 hg6))
      exact bodyPost_ret (results_c3 tyP rfl _ rfl hs6) rfl ⟨by rw [HC.out]; rfl, HP.out.grown hg6 HP.out.size (fun k hk => by injection hk with hk; omega)⟩

set_option maxHeartbeats 2000000 in
theorem theirs_any (x : C3) (w : World) : Calls Try.prog 20 #[c3V x] w fun e w' => e = .returned (c3V x) ∧ Below w.heap.size w w' := by
  have hz : c3C .zero = #[.int .i64 0, .int .i64 0, .int .i64 0, .int .i64 0, .int .i64 0, .int .i64 0] := rfl
  obtain ⟨C, hC⟩ : ∃ C, C = c3C x := ⟨_, rfl⟩
  have hs0 : C3At (w.alloc (.cells C 32)) w.heap.size 32 x := by rw [hC]; exact heap_alloc_new w _
  have hb0 := below_new w (.cells C 32)
  have hz0 : (w.alloc (.cells C 32)).heap.size = w.heap.size + 1 := by simp
  have hs1 : C3At ((w.alloc (.cells C 32)).alloc (.cells (c3C .zero) 25)) (w.heap.size + 1) 25 .zero := by
    have h := heap_alloc_new (w.alloc (.cells C 32)) (.cells (c3C .zero) 25)
    rw [hz0] at h
    exact h
  have hb1 := below_new (w.alloc (.cells C 32)) (.cells (c3C .zero) 25)
  have hz1 : ((w.alloc (.cells C 32)).alloc (.cells (c3C .zero) 25)).heap.size = w.heap.size + 2 := by simp
  have hs2 : C3At (((w.alloc (.cells C 32)).alloc (.cells (c3C .zero) 25)).alloc (.cells (c3C .zero) 25)) (w.heap.size + 2) 25 .zero := by
    have h := heap_alloc_new ((w.alloc (.cells C 32)).alloc (.cells (c3C .zero) 25)) (.cells (c3C .zero) 25)
    rw [hz1] at h
    exact h
  have hb2 := below_new ((w.alloc (.cells C 32)).alloc (.cells (c3C .zero) 25)) (.cells (c3C .zero) 25)
  have HS0 := Lib.hid ((hs0.below hb1).below hb2)
  have HS1 := Lib.hid (hs1.below hb2)
  have HS2 := Lib.hid hs2
  have HB2 := Lib.hid (below_two hb0 (below_two hb1 hb2))
  rw [hz] at HS0 HS1 HS2 HB2
  have HC := Lib.hid hC
  unfold c3V
  rw [← hC]
  clear hs0 hb0 hz0 hs1 hb1 hz1 hs2 hb2 hz hC
  go_enter Try.func20, Try.ntmps20
  go_upto_region 2 with fail
  generalize ((w.alloc (.cells C 32)).alloc (.cells #[.int .i64 0, .int .i64 0, .int .i64 0, .int .i64 0, .int .i64 0, .int .i64 0] 25)).alloc (.cells #[.int .i64 0, .int .i64 0, .int .i64 0, .int .i64 0, .int .i64 0, .int .i64 0] 25) = w0 at *
  go_wp2_with fail
  go_loopg [4] 3 (fun gn i wr => ∃ (j : Nat), i = .int .i64 (j : Int) ∧ j + gn = 3 ∧ Hid (C3At wr w.heap.size 32 x) ∧ Hid (C3At wr (w.heap.size + 1) 25 .zero) ∧ Hid (C3At wr (w.heap.size + 2) 25 (copyTo x j)) ∧ Hid (Below w.heap.size w wr))
  case atStart => exact ⟨0, rfl, by omega, HS0, HS1, HS2, HB2⟩
  case round =>
    obtain ⟨j, rfl, hog, HX, HY, HT, HP⟩ := hrel
    rcases Nat.lt_or_ge j 3 with hlt | hge
    · have hdj : decide ((j : Int) < 3) = true := decide_eq_true (by omega)
      obtain ⟨ca, cb⟩ := HX.out.at_ j hlt
      obtain ⟨c0, c1⟩ := HT.out.at_ j hlt
      have f0 := HT.out.fr (j * 2)
      have f1 := HT.out.fr (j * 2 + 1)
      obtain ⟨V, hV⟩ : ∃ V, V = (x.at_ j).V := ⟨_, rfl⟩
      obtain ⟨L, hL⟩ : ∃ L, L = (x.at_ j).L := ⟨_, rfl⟩
      rw [← hV] at ca
      rw [← hL] at cb
      obtain ⟨HT3, hg3⟩ := HT.out.drewC.put2 j hlt (x.at_ j)
      rw [← hV, ← hL] at HT3 hg3
      have hd : Below w.heap.size w (World.drew wr) := HP.out.drew
      have HT4 : Hid (C3At _ (w.heap.size + 2) 25 (copyTo x (j + 1))) := Lib.hid HT3
      have HX4 := Lib.hid (HX.out.drewC.far hg3 (by omega))
      have HY4 := Lib.hid (HY.out.drewC.far hg3 (by omega))
      have HP4 := Lib.hid (hd.grown hg3 hd.size (fun k hk => by injection hk with hk; omega))
      clear HT3 hg3 hV hL hd HX HY HT HP
      go_wp2_with fail
      go_region
      go_wp2_with fail
      go_roundg (gk - 1)
      case measure => omega
      case rel => exact ⟨j + 1, by go_num, by omega, HX4, HY4, HT4, HP4⟩
    · obtain rfl : j = 3 := by omega
      have HT3 : Hid (C3At wr (w.heap.size + 2) 25 x) := HT
      clear HT
      go_wp2_with (first
        | (refine wpList_load_c3 tyR HT3.out rfl (.tmp 3) rfl rfl ?_)
        | (refine wpList_store_c3 tyR HY.out rfl (.tmp 2) (.tmp 20) rfl rfl x rfl ?_; intro w6 hs6 hg6))
      exact bodyPost_ret (results_c3 tyR rfl _ rfl hs6) rfl ⟨by rw [HC.out]; rfl, HP.out.grown hg6 HP.out.size (fun k hk => by injection hk with hk; omega)⟩

end Go.Proofs.Ytknjkihcpcimpaa
