/-
  SuperTurns: what is there when one is saved again and again (plain), and the walk.
-/
import Derived.Test.YtojidejlohpeaaaWorse8
namespace Go.Proofs.Ytojidejlohpeaaa
set_option maxRecDepth 100000
open Go.RowKit Crc Wm Sup

/-- saved i times, and the device then -/
def tS (h : Nat) (i : Nat) : Sup := ⟨(i : Int), 0, 0, 0, 1, (h : Int), 0⟩
def tD (h : Nat) : Nat → Dv
  | 0 => .fresh 6
  | i + 1 => (tD h i).svD (tS h i)
theorem tS_next (h i : Nat) : (tS h i).next = tS h (i + 1) := by
  unfold tS Sup.next
  simp
theorem tS_may {h i : Nat} (hh : h < 65536) (hi : i ≤ 100) : (tS h i).May := may_mk (by omega) (by omega) (by omega) (by omega) (by omega) (by omega) (by omega)
theorem tS_ne {h i : Nat} (hi : i ≤ 100) : (tS h i).V ≠ 281474976710656 := by
  show (i : Int) ≠ _
  omega
structure Tn (h i : Nat) : Prop where
  free : (tD h i).Free
  n : (tD h i).n = 6
  spent : (tD h i).spent = 2 * i
  holds : 1 ≤ i → Dv.Holds (tD h i).look (tS h i)
  rest : ∀ j, 2 ≤ j → (tD h i).look j = Dv.zeros
theorem turns_model {h : Nat} (hh : h < 65536) : ∀ i, i ≤ 50 → Tn h i
  | 0, _ => ⟨Dv.free_fresh 6, rfl, rfl, fun h => absurd h (by omega), fun _ _ => rfl⟩
  | i + 1, hi => by
    have ih := turns_model hh i (by omega)
    obtain ⟨h1, h2, h3, h4, h5, h6, h7⟩ := ih.free.save (by rw [ih.n]; omega) (tS_may hh (by omega : i ≤ 100)) (tS_ne (by omega))
    refine ⟨h3, h4.trans ih.n, by show ((tD h i).svD (tS h i)).spent = _; rw [h5, ih.spent]; omega, fun _ => ?_, fun j hj => ?_⟩
    · rw [← tS_next]
      rcases Nat.eq_zero_or_pos i with h0 | h0
      · subst h0
        exact (fresh_save (n := 6) (by omega) (tS_may (i := 0) hh (Nat.zero_le 100)) (tS_ne (i := 0) (Nat.zero_le 100))).2.2.2.2.2.2.1
      · exact Dv.holds_saved ih.free (by rw [ih.n]; omega) (ih.holds h0) rfl (tS_may hh (by omega)) (tS_ne (by omega))
    · have := (Dv.at_there (tS h i)).2
      show ((tD h i).svD (tS h i)).look j = _
      rw [h7, if_neg (by omega)]
      exact ih.rest j hj
theorem turns_save {h i : Nat} (hh : h < 65536) (hi : i ≤ 49) : (tD h i).svE (tS h i) = 0 ∧ (tD h i).svS (tS h i) = tS h (i + 1) := by
  have ih := turns_model hh i (by omega)
  obtain ⟨h1, h2, _⟩ := ih.free.save (by rw [ih.n]; omega) (tS_may hh (by omega : i ≤ 100)) (tS_ne (by omega))
  exact ⟨h1, by rw [h2, tS_next]⟩

/-- 'make([]byte, n)', in any world -/
theorem run_zeros (w : World) (n : Nat) (hn : n ≤ 1000000) : ∃ w', (Instr.makeSlice 24 (.int .i64 (n : Int)) (.int .i64 (n : Int))).run Try.prog w = .ok (.slice (some ⟨w.heap.size, 0, none⟩) n n) w' ∧
    Owns w' w.heap.size (some ⟨w.heap.size, 0, none⟩) n n (List.replicate n 0) ∧ Below w.heap.size w w' := by
  obtain ⟨i0, hi, hz0, hz1, hz2⟩ := info_parts byte_facts
  obtain ⟨w2, hmk, hown, hgr⟩ := run_make_full (P := Try.prog) w w.heap.size 24 5 i0 (.int .u8 0) 1 Try.underlying24 hi hz0 hz1 .i64 .i64 n (by rw [hz2]; omega) (by unfold maxLen; omega) (Nat.le_refl _)
  exact ⟨w2, hmk, made_zeros hown, (Below.refl _ _).grown hgr (Nat.le_refl _) (by simp)⟩

/-- a block of the call's own turns that is none of the device's -/
theorem Dr.apart {w W V : World} {p L M g : Nat} {D : Dv} (h : Dr w W p L M D) (hg : W.grownBy V (some g)) (hn : ¬ DS p L M g) (hl : w.heap.size ≤ g) : Dr w V p L M D :=
  ⟨h.dev.turn (S := (· = g)) (Turn.ofGrown hg) (fun e => hn (.inl e.symm)) (fun e => hn (.inr (.inl e.symm))) (fun e => hn (.inr (.inr e.symm))), h.bel.grown hg h.bel.size (fun k hk => by injection hk with hk; omega), h.lo⟩

set_option maxHeartbeats 4000000 in
theorem turns_walk (z zh : Int) (w : World) : Calls Try.prog 8 #[.int .i64 z, .int .i64 zh] w fun e w' => e = .returned (.bool true) ∧ Below w.heap.size w w' := by
  obtain ⟨k, hk, hz⟩ := low z 15 4 (by decide) (by omega)
  obtain ⟨h, hh, hzh⟩ := low zh 65535 16 (by decide) (by omega)
  have hh2 : h < 65536 := by omega
  have HSV := Lib.hid (fun i (hi : i ≤ 49) => turns_save (h := h) (i := i) hh2 hi)
  have HTN := Lib.hid (turns_model hh2)
  have hT0 : tS h 0 = ⟨0, 0, 0, 0, 1, (h : Int), 0⟩ := rfl
  have HT0 := Lib.hid hT0
  clear hh2 hT0
  go_enter Try.func8, Try.ntmps8
  go_wp2_with fail
  refine (awake_any w).mono ?_
  rintro e w1 ⟨rfl, hb1⟩
  have HB1 := Lib.hid hb1
  clear hb1
  go_wp2_with fail
  refine (newdr (w := w) HB1.out 6 (by omega) (by omega)).mono ?_
  rintro e w2 ⟨p, L, M, rfl, hd2, _, _, _, _⟩
  have HN2 := Lib.hid hd2.notNew
  have HG := Lib.hid hd2.bel.size
  have HD3 := Lib.hid (hd2.alloc (.cells #[.int .i64 0, .int .i64 0, .int .i64 0, .int .i64 0, .int .i64 1, .int .i64 (h : Int), .int .i64 0] 29))
  have HS3 : Hid (SupAt (w2.alloc (.cells #[.int .i64 0, .int .i64 0, .int .i64 0, .int .i64 0, .int .i64 1, .int .i64 (h : Int), .int .i64 0] 29)) w2.heap.size 29 (tS h 0)) := Lib.hid (by rw [HT0.out]; exact heap_alloc_new w2 _)
  clear hd2 HB1
  go_upto_region 5 with fail
  generalize w2.alloc (.cells #[.int .i64 0, .int .i64 0, .int .i64 0, .int .i64 0, .int .i64 1, .int .i64 (h : Int), .int .i64 0] 29) = w3 at *
  generalize w2.heap.size = g at *
  go_wp2_with fail
  go_loopg [10] (1 + k) (fun gn u wr => ∃ i : Nat, u = .int .i64 (i : Int) ∧ i + gn = 1 + k ∧ Hid (Dr w wr p L M (tD h i)) ∧ Hid (SupAt wr g 29 (tS h i)))
  case atStart => exact ⟨0, rfl, by omega, HD3, HS3⟩
  case round =>
    obtain ⟨i, rfl, hi, HD, HS⟩ := hrel
    clear HD3 HS3
    rcases Nat.lt_or_ge i (1 + k) with hlt | hge
    · have hdi : decide ((i : Int) < 1 + (k : Int)) = true := decide_eq_true (by omega)
      obtain ⟨v1, v2⟩ := HSV.out i (by omega)
      have HV := Lib.hid (show _ ∧ _ from ⟨v1, v2⟩)
      clear v1 v2
      have HSP := Lib.hid (HTN.out i (by omega)).spent
      go_wp2_with (refine wpList_load_sup tyP HS.out rfl (.tmp 8) rfl rfl ?_)
      refine (HD.out.save (by have := HSP.out; omega) (tS h i)).mono ?_
      rintro e w4 ⟨rfl, hd4, ht4⟩
      rw [HV.out.1, HV.out.2]
      have HD4 : Hid (Dr w w4 p L M (tD h (i + 1))) := Lib.hid hd4
      have HS4 := Lib.hid (HS.out.turn ht4 HN2.out)
      have hg4 : g < w4.heap.size := lt_of_block HS4.out
      clear hd4 ht4 HD HS HV HSP
      go_wp2_with (first
        | (refine wpList_load_sup tyP HX5.out rfl (.tmp 11) rfl rfl ?_)
        | (refine wpList_store_sup tyP (zero_new w4 _) rfl (.tmp 11) (.tmp 41) rfl rfl (tS h (i + 1)) rfl ?_; intro w5 hs5 hg5; have HD5 := Lib.hid (HD4.out.below (box_below hg5)); have HS5 := Lib.hid (HS4.out.below (box_below hg5)); have HX5 := Lib.hid hs5; have cv : w5.cell? ⟨w4.heap.size, 0, none⟩ = some (.int .i64 ((i : Int) + 1)) := (SupAt.cell (i := 0) hs5 (by omega)).trans (by show some (Value.int .i64 ((i + 1 : Nat) : Int)) = _; simp); clear hs5 hg5 HD4 HS4)
        | (refine wpList_store_sup tyP HS5.out rfl (.tmp 8) (.tmp 52) rfl rfl (tS h (i + 1)) rfl ?_; intro w6 hs6 hg6; have HS6 := Lib.hid hs6; have HD6 := Lib.hid (HD5.out.apart hg6 HN2.out HG.out); clear hs6 hg6 cv HD5 HS5 HX5))
      go_roundg (gk - 1)
      case measure => omega
      case rel => exact ⟨i + 1, by go_num, by omega, HD6, HS6⟩
    · obtain rfl : i = 1 + k := by omega
      have hdi : decide (((1 + k : Nat) : Int) < 1 + (k : Int)) = false := decide_eq_false (by omega)
      have tn := HTN.out (1 + k) (by omega)
      have hH := tn.holds (by omega)
      obtain ⟨l1, l2⟩ := hH.load tn.free.gone (by rw [tn.n]; omega)
      obtain ⟨r1, r2⟩ := Dv.read_look tn.free.gone (i := Dv.here (tS h (1 + k))) (by have := (here_at (tS h (1 + k))).2; rw [tn.n]; omega)
      rw [(here_at (tS h (1 + k))).1] at r1 r2
      rw [hH.own] at r2
      obtain ⟨q1, q2⟩ := Dv.read_look tn.free.gone (i := 2) (by rw [tn.n]; omega)
      rw [tn.rest 2 (by omega)] at q2
      obtain ⟨m1, m2⟩ := dec_enc _ hH.may
      have hv0 : 0 ≤ (tS h (1 + k)).V ∧ (tS h (1 + k)).V ≤ 1000 := by show (0 : Int) ≤ ((1 + k : Nat) : Int) ∧ ((1 + k : Nat) : Int) ≤ 1000; omega
      obtain ⟨SP, hSP⟩ : ∃ SP, SP = (tD h (1 + k)).spent := ⟨_, rfl⟩
      have hwr : IntKind.i64.wrap (2 * (1 + (k : Int))) = (SP : Int) := by
        have := tn.spent
        rw [hSP, this, IntKind.wrap_i64]
        omega
      obtain ⟨s, hs⟩ : ∃ s, s = tS h (1 + k) := ⟨_, rfl⟩
      obtain ⟨D, hDD⟩ : ∃ D, D = tD h (1 + k) := ⟨_, rfl⟩
      rw [← hs] at l2 r1 r2 m1 m2 hv0 HS
      rw [← hDD] at l1 l2 r1 r2 q1 q2 hSP HD
      have HLD := Lib.hid (show _ ∧ _ from ⟨l1, l2⟩)
      have HRD := Lib.hid (show _ ∧ _ from ⟨r1, r2⟩)
      have HQ := Lib.hid (show _ ∧ _ from ⟨q1, q2⟩)
      have HM := Lib.hid (show _ ∧ _ from ⟨m1, m2⟩)
      have HSPT := Lib.hid hSP
      have HSS := Lib.hid hs
      clear l1 l2 r1 r2 q1 q2 m1 m2 tn hH hs hDD hSP hi HSV HTN
      have cv : wr.cell? ⟨g, 0, none⟩ = some (.int .i64 s.V) := HS.out.cell (i := 0) (by omega)
      go_wp2_with fail
      refine (dread_any HD.out.dev (s.V % 2)).mono ?_
      rintro e w4 ⟨A4, n4, c4, rfl, hgot, hb4⟩
      rw [HRD.out.1]
      rw [HRD.out.2] at hgot
      have HG4 := Lib.hid (show _ ∧ _ from ⟨hgot.lies, hgot.small⟩)
      have HD4 := Lib.hid (HD.out.below hb4)
      have HS4 := Lib.hid (HS.out.below hb4)
      clear hb4 HD HS hgot cv
      go_wp2_with fail
      refine (dec_any A4 c4 n4 s.sector w4 HG4.out.1 (by have := HG4.out.2; omega)).mono ?_
      rintro e w5 ⟨rfl, hb5⟩
      rw [HM.out.1, HM.out.2]
      have HD5 := Lib.hid (HD4.out.below hb5)
      have HS5 := Lib.hid (HS4.out.below hb5)
      clear hb5 HD4 HS4 HG4 HM
      go_wp2_with (refine wpList_store_sup tyP (zero_new w5 _) rfl (.tmp 15) (.tmp 64) rfl rfl s rfl ?_; intro w6 hs6 hg6; have HD6 := Lib.hid (HD5.out.below (box_below hg6)); have HS6 := Lib.hid (HS5.out.below (box_below hg6)); have HX6 := Lib.hid hs6; clear hs6 hg6 HD5 HS5)
      refine HD6.out.load.mono ?_
      rintro e w7 ⟨rfl, hb7⟩
      rw [HLD.out.1, HLD.out.2]
      have HD7 := Lib.hid (HD6.out.below hb7)
      have HS7 := Lib.hid (HS6.out.below hb7)
      have HX7 := Lib.hid (HX6.out.below hb7)
      clear hb7 HD6 HS6 HX6 HLD
      go_wp2_with (refine wpList_store_sup tyP (zero_new w7 _) rfl (.tmp 17) (.tmp 69) rfl rfl s rfl ?_; intro w8 hs8 hg8; have HD8 := Lib.hid (HD7.out.below (box_below hg8)); have HS8 := Lib.hid (HS7.out.below (box_below hg8)); have HX8 := Lib.hid (HX7.out.below (box_below hg8)); have HY8 := Lib.hid hs8; clear hs8 hg8 HD7 HS7 HX7)
      refine (dread_any HD8.out.dev 2).mono ?_
      rintro e w9 ⟨A9, n9, c9, rfl, hgot, hb9⟩
      have hq0 : D.readE 2 = 0 := HQ.out.1
      have hq1 : D.read 2 = Dv.zeros := HQ.out.2
      rw [hq0]
      rw [hq1] at hgot
      have HG9 := Lib.hid hgot.lies
      have HD9 := Lib.hid (HD8.out.below hb9)
      have HS9 := Lib.hid (HS8.out.below hb9)
      have HX9 := Lib.hid (HX8.out.below hb9)
      have HY9 := Lib.hid (HY8.out.below hb9)
      clear hb9 HD8 HS8 HX8 HY8 hgot hq0 hq1 HQ
      go_upto_region 16 with fail
      obtain ⟨w10, hmk, hmo, hmb⟩ := run_zeros (World.drew w9) 64 (by omega)
      have HMK := Lib.hid hmk
      have HMB := Lib.hid hmb
      have HMO := Lib.hid hmo.lies
      have HD10 := Lib.hid (HD9.out.below (below_two ((Below.refl w9.heap.size w9).drew) hmb))
      clear hmk hmo hmb
      obtain ⟨zz, hzz⟩ : ∃ zz : List UInt8, zz = List.replicate 64 0 := ⟨_, rfl⟩
      have hcr : ∀ V, Since w9 V → (convert 24 9 (.slice A9 n9 c9)).run Try.prog V = .ok (.string ⟨zz.toArray⟩) V := fun V hV => by rw [hzz]; exact (HG9.out.up hV).conv
      have HCM : Hid (∀ V, Since w10 V → (convert 24 9 (.slice (some ⟨w9.heap.size, 0, none⟩) 64 64)).run Try.prog V = .ok (.string ⟨zz.toArray⟩) V) := Lib.hid (fun V hV => by rw [hzz]; exact (HMO.out.up hV).conv)
      clear hzz
      have s0 : ∀ V, Since w9 V → V.cell? ⟨g, 0, none⟩ = some (.int .i64 s.V) := fun V hV => (HS9.out.below hV).cell (i := 0) (by omega)
      have s1 : ∀ V, Since w9 V → V.cell? ⟨g, 1, none⟩ = some (.int .i64 s.E) := fun V hV => (HS9.out.below hV).cell (i := 1) (by omega)
      have s2 : ∀ V, Since w9 V → V.cell? ⟨g, 2, none⟩ = some (.int .i64 s.B) := fun V hV => (HS9.out.below hV).cell (i := 2) (by omega)
      have s3 : ∀ V, Since w9 V → V.cell? ⟨g, 3, none⟩ = some (.int .i64 s.C) := fun V hV => (HS9.out.below hV).cell (i := 3) (by omega)
      have s4 : ∀ V, Since w9 V → V.cell? ⟨g, 4, none⟩ = some (.int .i64 s.L) := fun V hV => (HS9.out.below hV).cell (i := 4) (by omega)
      have s5 : ∀ V, Since w9 V → V.cell? ⟨g, 5, none⟩ = some (.int .i64 s.H) := fun V hV => (HS9.out.below hV).cell (i := 5) (by omega)
      have s6 : ∀ V, Since w9 V → V.cell? ⟨g, 6, none⟩ = some (.int .i64 s.A) := fun V hV => (HS9.out.below hV).cell (i := 6) (by omega)
      have x0 : ∀ V, Since w9 V → V.cell? ⟨w5.heap.size, 0, none⟩ = some (.int .i64 s.V) := fun V hV => (HX9.out.below hV).cell (i := 0) (by omega)
      have x1 : ∀ V, Since w9 V → V.cell? ⟨w5.heap.size, 1, none⟩ = some (.int .i64 s.E) := fun V hV => (HX9.out.below hV).cell (i := 1) (by omega)
      have x2 : ∀ V, Since w9 V → V.cell? ⟨w5.heap.size, 2, none⟩ = some (.int .i64 s.B) := fun V hV => (HX9.out.below hV).cell (i := 2) (by omega)
      have x3 : ∀ V, Since w9 V → V.cell? ⟨w5.heap.size, 3, none⟩ = some (.int .i64 s.C) := fun V hV => (HX9.out.below hV).cell (i := 3) (by omega)
      have x4 : ∀ V, Since w9 V → V.cell? ⟨w5.heap.size, 4, none⟩ = some (.int .i64 s.L) := fun V hV => (HX9.out.below hV).cell (i := 4) (by omega)
      have x5 : ∀ V, Since w9 V → V.cell? ⟨w5.heap.size, 5, none⟩ = some (.int .i64 s.H) := fun V hV => (HX9.out.below hV).cell (i := 5) (by omega)
      have x6 : ∀ V, Since w9 V → V.cell? ⟨w5.heap.size, 6, none⟩ = some (.int .i64 s.A) := fun V hV => (HX9.out.below hV).cell (i := 6) (by omega)
      have y0 : ∀ V, Since w9 V → V.cell? ⟨w7.heap.size, 0, none⟩ = some (.int .i64 s.V) := fun V hV => (HY9.out.below hV).cell (i := 0) (by omega)
      have y1 : ∀ V, Since w9 V → V.cell? ⟨w7.heap.size, 1, none⟩ = some (.int .i64 s.E) := fun V hV => (HY9.out.below hV).cell (i := 1) (by omega)
      have y2 : ∀ V, Since w9 V → V.cell? ⟨w7.heap.size, 2, none⟩ = some (.int .i64 s.B) := fun V hV => (HY9.out.below hV).cell (i := 2) (by omega)
      have y3 : ∀ V, Since w9 V → V.cell? ⟨w7.heap.size, 3, none⟩ = some (.int .i64 s.C) := fun V hV => (HY9.out.below hV).cell (i := 3) (by omega)
      have y4 : ∀ V, Since w9 V → V.cell? ⟨w7.heap.size, 4, none⟩ = some (.int .i64 s.L) := fun V hV => (HY9.out.below hV).cell (i := 4) (by omega)
      have y5 : ∀ V, Since w9 V → V.cell? ⟨w7.heap.size, 5, none⟩ = some (.int .i64 s.H) := fun V hV => (HY9.out.below hV).cell (i := 5) (by omega)
      have y6 : ∀ V, Since w9 V → V.cell? ⟨w7.heap.size, 6, none⟩ = some (.int .i64 s.A) := fun V hV => (HY9.out.below hV).cell (i := 6) (by omega)
      have nq : ∀ V, Since w9 V → (binOp .eql 29 (.agg #[.int .i64 s.V, .int .i64 s.E, .int .i64 s.B, .int .i64 s.C, .int .i64 s.L, .int .i64 s.H, .int .i64 s.A]) (.agg #[.int .i64 s.V, .int .i64 s.E, .int .i64 s.B, .int .i64 s.C, .int .i64 s.L, .int .i64 s.H, .int .i64 s.A])).run Try.prog V = .ok (.bool true) V := fun V _ => (run_sup_eql s s V).trans (by rw [supEq_self])
      have ng1 : ∀ V, Since w9 V → (eqGuard .eql 29 (.tmp 94) (.tmp 95) (.agg #[.int .i64 s.V, .int .i64 s.E, .int .i64 s.B, .int .i64 s.C, .int .i64 s.L, .int .i64 s.H, .int .i64 s.A]) (.agg #[.int .i64 s.V, .int .i64 s.E, .int .i64 s.B, .int .i64 s.C, .int .i64 s.L, .int .i64 s.H, .int .i64 s.A])).run Try.prog V = .ok () V := fun V _ => run_sup_guard .eql _ _ s s V
      have ng2 : ∀ V, Since w9 V → (eqGuard .eql 29 (.tmp 99) (.tmp 100) (.agg #[.int .i64 s.V, .int .i64 s.E, .int .i64 s.B, .int .i64 s.C, .int .i64 s.L, .int .i64 s.H, .int .i64 s.A]) (.agg #[.int .i64 s.V, .int .i64 s.E, .int .i64 s.B, .int .i64 s.C, .int .i64 s.L, .int .i64 s.H, .int .i64 s.A])).run Try.prog V = .ok () V := fun V _ => run_sup_guard .eql _ _ s s V
      refine wp_region_since (by kernel_rfl) ?_
      have hS : Since w9 (World.drew w9) := (Below.refl _ _).drew
      refine wpAnyH_take (i := 0) (oi := ⟨some 76, _, _, _, _, _⟩) (v := ?_) rfl (by kernel_rfl) (by kernel_rfl) (by kernel_rfl) (fun _ _ _ h => h) (Or.inl ⟨by rfl, ?_⟩) hS ?_
      rotate_left
      · intro W hW; go_simp; with_reducible rfl
      try simp only [Act.put, List.setIfInBounds_toArray, List.set_cons_zero, List.set_cons_succ]
      refine wpAnyH_take (i := 1) (oi := ⟨some 77, _, _, _, _, _⟩) (v := ?_) rfl (by kernel_rfl) (by kernel_rfl) (by kernel_rfl) (fun _ _ _ h => h) (Or.inl ⟨by rfl, ?_⟩) hS ?_
      rotate_left
      · intro W hW; go_simp; with_reducible rfl
      try simp only [Act.put, List.setIfInBounds_toArray, List.set_cons_zero, List.set_cons_succ]
      refine wpAnyH_take (i := 2) (oi := ⟨some 78, _, _, _, _, _⟩) (v := ?_) rfl (by kernel_rfl) (by kernel_rfl) (by kernel_rfl) (fun _ _ _ h => h) (Or.inl ⟨by rfl, ?_⟩) hS ?_
      rotate_left
      · intro W hW; go_simp; with_reducible rfl
      try simp only [Act.put, List.setIfInBounds_toArray, List.set_cons_zero, List.set_cons_succ]
      refine wpAnyH_take (i := 3) (oi := ⟨some 79, _, _, _, _, _⟩) (v := ?_) rfl (by kernel_rfl) (by kernel_rfl) (by kernel_rfl) (fun _ _ _ h => h) (Or.inl ⟨by rfl, ?_⟩) hS ?_
      rotate_left
      · intro W hW; go_simp; with_reducible rfl
      try simp only [Act.put, List.setIfInBounds_toArray, List.set_cons_zero, List.set_cons_succ]
      refine wpAnyH_take (i := 4) (oi := ⟨some 80, _, _, _, _, _⟩) (v := ?_) rfl (by kernel_rfl) (by kernel_rfl) (by kernel_rfl) (fun _ _ _ h => h) (Or.inl ⟨by rfl, ?_⟩) hS ?_
      rotate_left
      · intro W hW; go_simp; with_reducible rfl
      try simp only [Act.put, List.setIfInBounds_toArray, List.set_cons_zero, List.set_cons_succ]
      refine wpAnyH_take (i := 5) (oi := ⟨some 81, _, _, _, _, _⟩) (v := ?_) rfl (by kernel_rfl) (by kernel_rfl) (by kernel_rfl) (fun _ _ _ h => h) (Or.inl ⟨by rfl, ?_⟩) hS ?_
      rotate_left
      · intro W hW; go_simp; with_reducible rfl
      try simp only [Act.put, List.setIfInBounds_toArray, List.set_cons_zero, List.set_cons_succ]
      refine wpAnyH_take (i := 6) (oi := ⟨some 82, _, _, _, _, _⟩) (v := ?_) rfl (by kernel_rfl) (by kernel_rfl) (by kernel_rfl) (fun _ _ _ h => h) (Or.inl ⟨by rfl, ?_⟩) hS ?_
      rotate_left
      · intro W hW; go_simp; with_reducible rfl
      try simp only [Act.put, List.setIfInBounds_toArray, List.set_cons_zero, List.set_cons_succ]
      refine wpAnyH_take (i := 7) (oi := ⟨some 83, _, _, _, _, _⟩) (v := ?_) rfl (by kernel_rfl) (by kernel_rfl) (by kernel_rfl) (fun _ _ _ h => h) (Or.inl ⟨by rfl, ?_⟩) hS ?_
      rotate_left
      · intro W hW; go_simp; with_reducible rfl
      try simp only [Act.put, List.setIfInBounds_toArray, List.set_cons_zero, List.set_cons_succ]
      refine wpAnyH_take (i := 8) (oi := ⟨some 84, _, _, _, _, _⟩) (v := ?_) rfl (by kernel_rfl) (by kernel_rfl) (by kernel_rfl) (fun _ _ _ h => h) (Or.inl ⟨by rfl, ?_⟩) hS ?_
      rotate_left
      · intro W hW; go_simp; with_reducible rfl
      try simp only [Act.put, List.setIfInBounds_toArray, List.set_cons_zero, List.set_cons_succ]
      refine wpAnyH_take (i := 9) (oi := ⟨some 85, _, _, _, _, _⟩) (v := ?_) rfl (by kernel_rfl) (by kernel_rfl) (by kernel_rfl) (fun _ _ _ h => h) (Or.inl ⟨by rfl, ?_⟩) hS ?_
      rotate_left
      · intro W hW; go_simp; with_reducible rfl
      try simp only [Act.put, List.setIfInBounds_toArray, List.set_cons_zero, List.set_cons_succ]
      refine wpAnyH_take (i := 10) (oi := ⟨some 86, _, _, _, _, _⟩) (v := ?_) rfl (by kernel_rfl) (by kernel_rfl) (by kernel_rfl) (fun _ _ _ h => h) (Or.inl ⟨by rfl, ?_⟩) hS ?_
      rotate_left
      · intro W hW; go_simp; with_reducible rfl
      try simp only [Act.put, List.setIfInBounds_toArray, List.set_cons_zero, List.set_cons_succ]
      refine wpAnyH_take (i := 11) (oi := ⟨some 87, _, _, _, _, _⟩) (v := ?_) rfl (by kernel_rfl) (by kernel_rfl) (by kernel_rfl) (fun _ _ _ h => h) (Or.inl ⟨by rfl, ?_⟩) hS ?_
      rotate_left
      · intro W hW; go_simp; with_reducible rfl
      try simp only [Act.put, List.setIfInBounds_toArray, List.set_cons_zero, List.set_cons_succ]
      refine wpAnyH_take (i := 12) (oi := ⟨some 88, _, _, _, _, _⟩) (v := ?_) rfl (by kernel_rfl) (by kernel_rfl) (by kernel_rfl) (fun _ _ _ h => h) (Or.inl ⟨by rfl, ?_⟩) hS ?_
      rotate_left
      · intro W hW; go_simp; with_reducible rfl
      try simp only [Act.put, List.setIfInBounds_toArray, List.set_cons_zero, List.set_cons_succ]
      refine wpAnyH_take (i := 13) (oi := ⟨some 89, _, _, _, _, _⟩) (v := ?_) rfl (by kernel_rfl) (by kernel_rfl) (by kernel_rfl) (fun _ _ _ h => h) (Or.inl ⟨by rfl, ?_⟩) hS ?_
      rotate_left
      · intro W hW; go_simp; with_reducible rfl
      try simp only [Act.put, List.setIfInBounds_toArray, List.set_cons_zero, List.set_cons_succ]
      refine wpAnyH_take (i := 14) (oi := ⟨some 90, _, _, _, _, _⟩) (v := ?_) rfl (by kernel_rfl) (by kernel_rfl) (by kernel_rfl) (fun _ _ _ h => h) (Or.inl ⟨by rfl, ?_⟩) hS ?_
      rotate_left
      · intro W hW; go_simp; with_reducible rfl
      try simp only [Act.put, List.setIfInBounds_toArray, List.set_cons_zero, List.set_cons_succ]
      refine wpAnyH_take (i := 15) (oi := ⟨some 91, _, _, _, _, _⟩) (v := ?_) rfl (by kernel_rfl) (by kernel_rfl) (by kernel_rfl) (fun _ _ _ h => h) (Or.inl ⟨by rfl, ?_⟩) hS ?_
      rotate_left
      · intro W hW; go_simp; with_reducible rfl
      try simp only [Act.put, List.setIfInBounds_toArray, List.set_cons_zero, List.set_cons_succ]
      refine wpAnyH_take (i := 16) (oi := ⟨some 92, _, _, _, _, _⟩) (v := ?_) rfl (by kernel_rfl) (by kernel_rfl) (by kernel_rfl) (fun _ _ _ h => h) (Or.inl ⟨by rfl, ?_⟩) hS ?_
      rotate_left
      · intro W hW; go_simp; with_reducible rfl
      try simp only [Act.put, List.setIfInBounds_toArray, List.set_cons_zero, List.set_cons_succ]
      refine wpAnyH_take (i := 17) (oi := ⟨some 93, _, _, _, _, _⟩) (v := ?_) rfl (by kernel_rfl) (by kernel_rfl) (by kernel_rfl) (fun _ _ _ h => h) (Or.inl ⟨by rfl, ?_⟩) hS ?_
      rotate_left
      · intro W hW; go_simp; with_reducible rfl
      try simp only [Act.put, List.setIfInBounds_toArray, List.set_cons_zero, List.set_cons_succ]
      refine wpAnyH_take (i := 18) (oi := ⟨some 94, _, _, _, _, _⟩) (v := ?_) rfl (by kernel_rfl) (by kernel_rfl) (by kernel_rfl) (fun _ _ _ h => h) (Or.inl ⟨by rfl, ?_⟩) hS ?_
      rotate_left
      · intro W hW; go_simp; with_reducible rfl
      try simp only [Act.put, List.setIfInBounds_toArray, List.set_cons_zero, List.set_cons_succ]
      refine wpAnyH_take (i := 19) (oi := ⟨some 95, _, _, _, _, _⟩) (v := ?_) rfl (by kernel_rfl) (by kernel_rfl) (by kernel_rfl) (fun _ _ _ h => h) (Or.inl ⟨by rfl, ?_⟩) hS ?_
      rotate_left
      · intro W hW; go_simp; with_reducible rfl
      try simp only [Act.put, List.setIfInBounds_toArray, List.set_cons_zero, List.set_cons_succ]
      refine wpAnyH_take (i := 20) (oi := ⟨some 96, _, _, _, _, _⟩) (v := ?_) rfl (by kernel_rfl) (by kernel_rfl) (by kernel_rfl) (fun _ _ _ h => h) (Or.inl ⟨by rfl, ?_⟩) hS ?_
      rotate_left
      · intro W hW; go_simp; with_reducible rfl
      try simp only [Act.put, List.setIfInBounds_toArray, List.set_cons_zero, List.set_cons_succ]
      refine wpAnyH_take (i := 21) (oi := ⟨some 97, _, _, _, _, _⟩) (v := ?_) rfl (by kernel_rfl) (by kernel_rfl) (by kernel_rfl) (fun _ _ _ h => h) (Or.inl ⟨by rfl, ?_⟩) hS ?_
      rotate_left
      · intro W hW; go_simp; with_reducible rfl
      try simp only [Act.put, List.setIfInBounds_toArray, List.set_cons_zero, List.set_cons_succ]
      refine wpAnyH_take (i := 22) (oi := ⟨some 98, _, _, _, _, _⟩) (v := ?_) rfl (by kernel_rfl) (by kernel_rfl) (by kernel_rfl) (fun _ _ _ h => h) (Or.inl ⟨by rfl, ?_⟩) hS ?_
      rotate_left
      · intro W hW; go_simp; with_reducible rfl
      try simp only [Act.put, List.setIfInBounds_toArray, List.set_cons_zero, List.set_cons_succ]
      refine wpAnyH_take (i := 23) (oi := ⟨some 99, _, _, _, _, _⟩) (v := ?_) rfl (by kernel_rfl) (by kernel_rfl) (by kernel_rfl) (fun _ _ _ h => h) (Or.inl ⟨by rfl, ?_⟩) hS ?_
      rotate_left
      · intro W hW; go_simp; with_reducible rfl
      try simp only [Act.put, List.setIfInBounds_toArray, List.set_cons_zero, List.set_cons_succ]
      refine wpAnyH_take (i := 24) (oi := ⟨some 100, _, _, _, _, _⟩) (v := ?_) rfl (by kernel_rfl) (by kernel_rfl) (by kernel_rfl) (fun _ _ _ h => h) (Or.inl ⟨by rfl, ?_⟩) hS ?_
      rotate_left
      · intro W hW; go_simp; with_reducible rfl
      try simp only [Act.put, List.setIfInBounds_toArray, List.set_cons_zero, List.set_cons_succ]
      refine wpAnyH_take (i := 25) (oi := ⟨some 101, _, _, _, _, _⟩) (v := ?_) rfl (by kernel_rfl) (by kernel_rfl) (by kernel_rfl) (fun _ _ _ h => h) (Or.inl ⟨by rfl, ?_⟩) hS ?_
      rotate_left
      · intro W hW; go_simp; with_reducible rfl
      try simp only [Act.put, List.setIfInBounds_toArray, List.set_cons_zero, List.set_cons_succ]
      refine wpAnyH_take (i := 26) (oi := ⟨some 102, _, _, _, _, _⟩) (v := ?_) rfl (by kernel_rfl) (by kernel_rfl) (by kernel_rfl) (fun _ _ _ h => h) (Or.inl ⟨by rfl, ?_⟩) hS ?_
      rotate_left
      · intro W hW; go_simp; with_reducible rfl
      try simp only [Act.put, List.setIfInBounds_toArray, List.set_cons_zero, List.set_cons_succ]
      refine wpAnyH_take (i := 27) (oi := ⟨some 103, _, _, _, _, _⟩) (v := ?_) rfl (by kernel_rfl) (by kernel_rfl) (by kernel_rfl) (fun _ _ _ h => h) (Or.inl ⟨by rfl, ?_⟩) hS ?_
      rotate_left
      · intro W hW; go_simp; with_reducible rfl
      try simp only [Act.put, List.setIfInBounds_toArray, List.set_cons_zero, List.set_cons_succ]
      refine wpAnyH_take (i := 28) (oi := ⟨some 104, _, _, _, _, _⟩) (v := ?_) rfl (by kernel_rfl) (by kernel_rfl) (by kernel_rfl) (fun _ _ _ h => h) (Or.inl ⟨by rfl, ?_⟩) hS ?_
      rotate_left
      · intro W hW; go_simp; with_reducible rfl
      try simp only [Act.put, List.setIfInBounds_toArray, List.set_cons_zero, List.set_cons_succ]
      refine wpAnyH_take (i := 29) (oi := ⟨some 105, _, _, _, _, _⟩) (v := ?_) rfl (by kernel_rfl) (by kernel_rfl) (by kernel_rfl) (fun _ _ _ h => h) (Or.inl ⟨by rfl, ?_⟩) hS ?_
      rotate_left
      · intro W hW; go_simp; with_reducible rfl
      try simp only [Act.put, List.setIfInBounds_toArray, List.set_cons_zero, List.set_cons_succ]
      refine wpAnyH_ready (rs := [30]) (by kernel_rfl) (by simp) ?_
      refine AllReadyH.cons (o := ⟨some 106, _, _, _, _, _⟩) rfl (fun Kr hKr => ?_) AllReadyH.nil
      -- operation 30: a step
      rw [if_pos (by kernel_rfl)]
      refine wp_make 24 _ _ rfl rfl rfl HMK.out ?_
      show Kr _ _
      refine hKr.out _ _ ?_ (fun _ => ?_)
      · exact since_trans hS HMB.out
      clear hKr Kr
      refine wpAnyH_since (since_trans hS HMB.out) ?_
      clear hS
      have hS : Since w10 w10 := Below.refl _ _
      have hcm := HCM.out
      try simp only [Act.put, List.setIfInBounds_toArray, List.set_cons_zero, List.set_cons_succ]
      refine wpAnyH_take (i := 31) (oi := ⟨some 107, _, _, _, _, _⟩) (v := ?_) rfl (by kernel_rfl) (by kernel_rfl) (by kernel_rfl) (fun _ _ _ h => h) (Or.inl ⟨by rfl, ?_⟩) hS ?_
      rotate_left
      · intro W hW; go_simp; with_reducible rfl
      try simp only [Act.put, List.setIfInBounds_toArray, List.set_cons_zero, List.set_cons_succ]
      refine wpAnyH_take (i := 32) (oi := ⟨some 108, _, _, _, _, _⟩) (v := ?_) rfl (by kernel_rfl) (by kernel_rfl) (by kernel_rfl) (fun _ _ _ h => h) (Or.inl ⟨by rfl, ?_⟩) hS ?_
      rotate_left
      · intro W hW; go_simp; with_reducible rfl
      try simp only [Act.put, List.setIfInBounds_toArray, List.set_cons_zero, List.set_cons_succ]
      refine wpAnyH_take (i := 33) (oi := ⟨some 109, _, _, _, _, _⟩) (v := ?_) rfl (by kernel_rfl) (by kernel_rfl) (by kernel_rfl) (fun _ _ _ h => h) (Or.inl ⟨by rfl, ?_⟩) hS ?_
      rotate_left
      · intro W hW; go_simp; with_reducible rfl
      try simp only [Act.put, List.setIfInBounds_toArray, List.set_cons_zero, List.set_cons_succ]
      refine wpAnyH_take (i := 34) (oi := ⟨some 110, _, _, _, _, _⟩) (v := ?_) rfl (by kernel_rfl) (by kernel_rfl) (by kernel_rfl) (fun _ _ _ h => h) (Or.inl ⟨by rfl, ?_⟩) hS ?_
      rotate_left
      · intro W hW; go_simp; with_reducible rfl
      try simp only [Act.put, List.setIfInBounds_toArray, List.set_cons_zero, List.set_cons_succ]
      refine wpAnyH_take (i := 35) (oi := ⟨some 111, _, _, _, _, _⟩) (v := ?_) rfl (by kernel_rfl) (by kernel_rfl) (by kernel_rfl) (fun _ _ _ h => h) (Or.inl ⟨by rfl, ?_⟩) hS ?_
      rotate_left
      · intro W hW; go_simp; with_reducible rfl
      try simp only [Act.put, List.setIfInBounds_toArray, List.set_cons_zero, List.set_cons_succ]
      refine wpAnyH_take (i := 37) (oi := ⟨some 113, _, _, _, _, _⟩) (v := ?_) rfl (by kernel_rfl) (by kernel_rfl) (by kernel_rfl) (fun _ _ _ h => h) (Or.inl ⟨by rfl, ?_⟩) hS ?_
      rotate_left
      · intro W hW; go_simp; with_reducible rfl
      try simp only [Act.put, List.setIfInBounds_toArray, List.set_cons_zero, List.set_cons_succ]
      refine wpAnyH_take (i := 38) (oi := ⟨some 114, _, _, _, _, _⟩) (v := ?_) rfl (by kernel_rfl) (by kernel_rfl) (by kernel_rfl) (fun _ _ _ h => h) (Or.inl ⟨by rfl, ?_⟩) hS ?_
      rotate_left
      · intro W hW; go_simp; with_reducible rfl
      try simp only [Act.put, List.setIfInBounds_toArray, List.set_cons_zero, List.set_cons_succ]
      refine wpAnyH_ready (rs := [36]) (by kernel_rfl) (by simp) ?_
      refine AllReadyH.cons (o := ⟨some 112, _, _, _, _, _⟩) rfl (fun Kr hKr => ?_) AllReadyH.nil
      -- operation 36: a call
      go_simp
      refine (spent_any HD10.out.dev).mono ?_
      rintro e w11 ⟨rfl, hw⟩
      replace hw := hw.symm
      subst hw
      rw [← HSPT.out]
      show Kr _ _
      refine hKr.out _ _ ?_ (fun _ => ?_)
      · exact hS
      clear hKr Kr
      try simp only [Act.put, List.setIfInBounds_toArray, List.set_cons_zero, List.set_cons_succ]
      refine wpAnyH_take (i := 39) (oi := ⟨some 115, _, _, _, _, _⟩) (v := ?_) rfl (by kernel_rfl) (by kernel_rfl) (by kernel_rfl) (fun _ _ _ h => h) (Or.inl ⟨by rfl, ?_⟩) hS ?_
      rotate_left
      · intro W hW; go_simp; with_reducible rfl
      try simp only [Act.put, List.setIfInBounds_toArray, List.set_cons_zero, List.set_cons_succ]
      refine wpAnyH_take (i := 40) (oi := ⟨some 116, _, _, _, _, _⟩) (v := ?_) rfl (by kernel_rfl) (by kernel_rfl) (by kernel_rfl) (fun _ _ _ h => h) (Or.inl ⟨by rfl, ?_⟩) hS ?_
      rotate_left
      · intro W hW; go_simp; with_reducible rfl
      try simp only [Act.put, List.setIfInBounds_toArray, List.set_cons_zero, List.set_cons_succ]
      refine wpAnyH_take (i := 41) (oi := ⟨some 4, _, _, _, _, _⟩) (v := ?_) rfl (by kernel_rfl) (by kernel_rfl) (by kernel_rfl) (fun _ _ _ h => h) (Or.inl ⟨by rfl, ?_⟩) hS ?_
      rotate_left
      · intro W hW; go_simp; with_reducible rfl
      try simp only [Act.put, List.setIfInBounds_toArray, List.set_cons_zero, List.set_cons_succ]
      refine wpAnyH_done (by kernel_rfl) ?_ _
      have HBE := Lib.hid HD10.out.bel
      go_wp2_with fail
      go_ret
      exact ⟨rfl, HBE.out⟩

end Go.Proofs.Ytojidejlohpeaaa
