/-
  The document's Fits and Room.
-/
import Derived.Test.YtogngghfdcpeaaaRs
import Derived.Test.YtogngghfdcpeaaaFr
namespace Go.Proofs.Ytogngghfdcpeaaa
set_option maxRecDepth 100000
set_option linter.unusedVariables false
set_option linter.unusedSimpArgs false
open Go.RowKit

set_option maxHeartbeats 1000000 in
theorem reffits_any (a b v : Int) (hv : okI v) (A : Option Addr) (n c : Nat) (l : List Int) (w : World) (hl : Ls w A n l) :
    Calls Try.prog 58 #[spV a b, .int .i64 v, .slice A n c] w fun e w' => e = .returned (.bool (fitsB a b v l)) ∧ Below w.heap.size w w' := by
  have HF := Lib.hid (fits_eq a b v l)
  have HX := Lib.hid (Bk.new w (spC a b) 63)
  have HB := Lib.hid (below_new w (.cells (spC a b) 63))
  have HL := Lib.hid hl
  have hr := fun V hV => refreach_any v hv A n c l V (HL.out.below hV)
  have hh1 := refholds_any a b (reachL v l)
  have hh2 := refholds_any a b (reachH v l)
  clear hl hv
  unfold reV at hr
  generalize reachE v l = re at *
  generalize reachL v l = rl at *
  generalize reachH v l = rh at *
  generalize fitsB a b v l = fb at *
  generalize holdsB a b rl = p1 at *
  generalize holdsB a b rh = p2 at *
  go_enter Try.func58, Try.ntmps58
  go_wp2_with fail
  refine (hr _ HB.out).mono ?_
  rintro e w1 ⟨rfl, hb1⟩
  have HX1 := Lib.hid (HX.out.below hb1)
  have HB1 := Lib.hid (below_two HB.out hb1)
  have HX2 := Lib.hid (HX1.out.al (.cells #[.int .i64 rl, .int .i64 rh] 63))
  have HZ2 := Lib.hid (show Bk (w1.alloc (.cells #[.int .i64 rl, .int .i64 rh] 63)) w1.heap.size (spC rl rh) 63 from Bk.new w1 (spC rl rh) 63)
  have HB2 := Lib.hid (below_two HB1.out (below_new w1 (.cells #[.int .i64 rl, .int .i64 rh] 63)))
  clear hb1 HX HB HX1 HB1 hr
  go_upto_region 2 with fail
  generalize w1.heap.size = gz at *
  generalize w1.alloc (.cells #[.int .i64 rl, .int .i64 rh] 63) = wz at *
  have x0 := HX2.out.s0
  have x1 := HX2.out.s1
  have z0 := HZ2.out.s0
  have z1 := HZ2.out.s1
  rcases Classical.em (re = 0) with h0 | h0
  · subst h0
    go_wp2_with fail
    refine (hh1 _).mono ?_
    rintro e w3 ⟨rfl, hb3⟩
    have HX3 := Lib.hid (HX2.out.below hb3)
    have HZ3 := Lib.hid (HZ2.out.below hb3)
    have HB3 := Lib.hid (HB2.out.trans (hb3.mono HB2.out.size))
    clear hb3 HX2 HZ2 HB2 x0 x1 z0 z1 hh1
    cases p1
    · have HFB := Lib.hid (show fb = false from by rw [HF.out]; rfl)
      go_wp2_with fail
      go_ret
      exact ⟨by rw [HFB.out]; rfl, HB3.out⟩
    · have HFB := Lib.hid (show fb = p2 from by rw [HF.out]; rfl)
      have x0 := HX3.out.s0
      have x1 := HX3.out.s1
      have z1 := HZ3.out.s1
      go_wp2_with fail
      refine (hh2 _).mono ?_
      rintro e w4 ⟨rfl, hb4⟩
      have HB4 := Lib.hid (HB3.out.trans (hb4.mono HB3.out.size))
      clear hb4 hh2 x0 x1 z1
      go_wp2_with fail
      go_ret
      exact ⟨by rw [HFB.out]; rfl, HB4.out⟩
  · have hne : (re == 0) = false := by simpa using h0
    have HFB := Lib.hid (show fb = false from by rw [HF.out, decide_eq_false h0]; rfl)
    clear h0
    go_wp2_with fail
    go_ret
    exact ⟨by rw [HFB.out]; rfl, HB2.out⟩

end Go.Proofs.Ytogngghfdcpeaaa
