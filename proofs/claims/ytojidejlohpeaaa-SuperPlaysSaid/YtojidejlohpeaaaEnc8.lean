/-
  Any super's sector: the program's answer.
-/
import Derived.Test.YtojidejlohpeaaaSane8
import Derived.Test.YtojidejlohpeaaaZeros8
import Derived.Test.YtojidejlohpeaaaPutOne
import Derived.Lib.SlBytesConst
import Derived.Laws.BitsLemmas
namespace Go.Proofs.Ytojidejlohpeaaa
set_option maxRecDepth 100000
open Go.RowKit Crc Wm Sup

theorem SupAt.seven {W : World} {g : Nat} {t : TypeId} {s : Sup} (h : SupAt W g t s) : W.cell? ⟨g, 0, none⟩ = some (.int .i64 s.V) ∧ W.cell? ⟨g, 1, none⟩ = some (.int .i64 s.E) ∧ W.cell? ⟨g, 2, none⟩ = some (.int .i64 s.B) ∧ W.cell? ⟨g, 3, none⟩ = some (.int .i64 s.C) ∧
    W.cell? ⟨g, 4, none⟩ = some (.int .i64 s.L) ∧ W.cell? ⟨g, 5, none⟩ = some (.int .i64 s.H) ∧ W.cell? ⟨g, 6, none⟩ = some (.int .i64 s.A) :=
  ⟨h.cell (i := 0) (by omega), h.cell (i := 1) (by omega), h.cell (i := 2) (by omega), h.cell (i := 3) (by omega), h.cell (i := 4) (by omega), h.cell (i := 5) (by omega), h.cell (i := 6) (by omega)⟩

theorem name_rd (w : World) : Rd (w.alloc (.cells #[.int .u8 72, .int .u8 69, .int .u8 82, .int .u8 79, .int .u8 78, .int .u8 49, .int .u8 0, .int .u8 0] 5 (8, 9))) (w.heap.size + 1) (some ⟨w.heap.size, 0, none⟩) nameB := by
  refine .inr ⟨_, 0, rfl, by omega, fun j y hy => ?_⟩
  rw [Nat.zero_add, cell_of_row _ _ _ _ _ _ (heap_alloc_new w _)]
  rcases j with _ | _ | _ | _ | _ | _ | _ | _ | j
  all_goals first | (injection hy with hy; subst hy; rfl) | cases hy

/-- a sector in new memory, or none -/
def EncOut (w : World) (s : Sup) (e : Ending) (w' : World) : Prop :=
  ∃ A n c, e = .returned (.tuple #[.slice A n c, .int .i64 s.encE]) ∧ n = s.encB.length ∧ Owns w' w.heap.size A c n s.encB ∧ Below w.heap.size w w'

set_option maxHeartbeats 1000000 in
theorem enc_any (w : World) (s : Sup) : Calls Try.prog 11 #[supV s] w (EncOut w s) := by
  have hs0 : SupAt (w.alloc (.cells (supC s) 29)) w.heap.size 29 s := heap_alloc_new w _
  have hb0 := below_new w (.cells (supC s) 29)
  have hsane := fun W => sane_any W s
  unfold supV at *
  by_cases hm : s.May
  · rw [decide_eq_true hm] at hsane
    have HM := Lib.hid hm
    have HSN := Lib.hid hsane
    clear hm hsane
    obtain ⟨C, hC⟩ : ∃ C, C = supC s := ⟨_, rfl⟩
    rw [← hC] at hs0 hb0 ⊢
    have HC := Lib.hid hC
    have HS0 := Lib.hid hs0
    have HB0 := Lib.hid hb0
    clear hs0 hb0 hC
    go_enter Try.func11, Try.ntmps11
    go_upto_region 1 with fail
    generalize w.alloc (.cells C 29) = w0 at *
    obtain ⟨c0, c1, c2, c3, c4, c5, c6⟩ := HS0.out.seven
    go_wp2_with fail
    refine (HSN.out w0).mono ?_
    rintro e w1 ⟨rfl, hb1⟩
    have HS1 := Lib.hid (HS0.out.below hb1)
    have HB1 := Lib.hid (HB0.out.trans (hb1.mono HB0.out.size))
    clear c0 c1 c2 c3 c4 c5 c6 hb1 HS0 HB0
    have kc := Lib.run_convert_bytes_const (P := Try.prog) w1 24 5 #[.int .u8 72, .int .u8 69, .int .u8 82, .int .u8 79, .int .u8 78, .int .u8 49, .int .u8 0, .int .u8 0] 8 8 Try.underlying24 Try.underlying5
    go_upto_region 4 with fail
    have HRN := Lib.hid (name_rd w1)
    have hb2 := below_new w1 (.cells #[.int .u8 72, .int .u8 69, .int .u8 82, .int .u8 79, .int .u8 78, .int .u8 49, .int .u8 0, .int .u8 0] 5 (8, 9))
    have HS2 := Lib.hid (HS1.out.below hb2)
    have HB2 := Lib.hid (HB1.out.trans (hb2.mono HB1.out.size))
    have HZ2 : Hid ((w1.alloc (.cells #[.int .u8 72, .int .u8 69, .int .u8 82, .int .u8 79, .int .u8 78, .int .u8 49, .int .u8 0, .int .u8 0] 5 (8, 9))).heap.size = w1.heap.size + 1) := Lib.hid (by simp)
    clear kc hb2 HS1 HB1
    generalize w1.alloc (.cells #[.int .u8 72, .int .u8 69, .int .u8 82, .int .u8 79, .int .u8 78, .int .u8 49, .int .u8 0, .int .u8 0] 5 (8, 9)) = w2 at *
    have HRN2 : Hid (Rd w2 w2.heap.size (some ⟨w1.heap.size, 0, none⟩) nameB) := Lib.hid (by rw [HZ2.out]; exact HRN.out)
    clear HRN HZ2
    generalize w1.heap.size = n0 at *
    go_wp2_with fail
    refine (fields_any w2 w.heap.size).mono ?_
    rintro e w3 ⟨q, rfl, hf3, hb3, hq3⟩
    have HS3 := Lib.hid (HS2.out.below hb3)
    have HF3 := Lib.hid hf3
    have HB3 := Lib.hid (HB2.out.trans (hb3.mono HB2.out.size))
    have HR3 : Hid (Rd w3 w3.heap.size (some ⟨n0, 0, none⟩) nameB) := Lib.hid (HRN2.out.up hb3)
    clear hf3 hb3 hq3 HS2 HB2 HRN2
    go_wp2_with fail
    go_loopw [4, 14] (fun b u wr => ∃ (j : Nat) (A : Option Addr) (c : Nat), u = .int .i64 (j : Int) ∧ b = .slice A (off j) c ∧ j ≤ 7 ∧ Hid (Rd wr wr.heap.size A (s.headTo j)) ∧ Hid (1 ≤ j → Owns wr w.heap.size A c (off j) (s.headTo j)) ∧ Hid (Below w3.heap.size w3 wr)) (fun _ u _ => 7 - (intOf u).toNat)
    case atStart => exact ⟨0, _, _, rfl, rfl, by omega, HR3, fun h => absurd h (by omega), Below.refl _ _⟩
    case round =>
      obtain ⟨j, A, c, rfl, rfl, hj, HRD, HOW, HBR⟩ := hrel
      rcases Nat.lt_or_ge j 7 with hlt | hge
      · obtain ⟨k0, k1, k2, k3⟩ := (HF3.out.below HBR.out).cell hlt
        have ks := (HS3.out.below HBR.out).cell hlt
        have hks : w.heap.size < wr.heap.size := lt_of_block (HS3.out.below HBR.out)
        have hbd := okTo_all.2 HM.out j hlt
        have hpw := pow_sz j hlt
        have hz8 := sz_bd j
        obtain ⟨X, hX⟩ : ∃ X : Nat, s.at_ j = (X : Int) := ⟨(s.at_ j).toNat, by omega⟩
        have HNX : Hid (s.headTo (j + 1) = s.headTo j ++ putB (sz j) X) := Lib.hid (by rw [headTo_succ, hX]; rfl)
        have HOF := Lib.hid (off_succ j hlt)
        have HLN := Lib.hid (length_headTo s j (by omega))
        have hob : off j ≤ 42 := by unfold off; split <;> (try split) <;> (try split) <;> (try split) <;> (try split) <;> (try split) <;> (try split) <;> omega
        have hXb : X ≤ 9223372036854775807 := by omega
        rw [hX] at ks
        clear hbd hpw hX
        generalize lo j = a at *
        generalize Sup.hi j = b at *
        generalize sz j = z at *
        generalize off j = o at *
        have hdj : decide ((j : Int) < 7) = true := decide_eq_true (by omega)
        have hwX : IntKind.u64.wrap (X : Int) = (X : Int) := by rw [IntWalk.u64_in _ ⟨by omega, by omega⟩]
        go_upto_region 7 with fail
        obtain ⟨d0, d1, d2, d3⟩ := row_cells wr (.pointer (some ⟨w.heap.size, j, none⟩)) (.int .i64 a) (.int .i64 b) (.int .i64 (z : Int))
        have hbn := below_new wr (.cells #[.pointer (some ⟨w.heap.size, j, none⟩), .int .i64 a, .int .i64 b, .int .i64 (z : Int)] 75)
        have ds := (hbn.cell (p := ⟨w.heap.size, j, none⟩) hks).trans ks
        have HB4 := Lib.hid (HBR.out.trans (hbn.mono HBR.out.size))
        have HR4 := Lib.hid (HRD.out.up hbn)
        have hyl : wr.heap.size < (wr.alloc (.cells #[.pointer (some ⟨w.heap.size, j, none⟩), .int .i64 a, .int .i64 b, .int .i64 (z : Int)] 75)).heap.size := by simp
        have hkl := Nat.lt_of_lt_of_le hks hbn.size
        clear hbn k0 k1 k2 k3 ks hks HBR HRD HOW d1 d2
        generalize wr.alloc (.cells #[.pointer (some ⟨w.heap.size, j, none⟩), .int .i64 a, .int .i64 b, .int .i64 (z : Int)] 75) = W0 at *
        generalize wr.heap.size = y at *
        have e0 : ∀ V, Since W0 V → V.cell? ⟨y, 0, none⟩ = some (.pointer (some ⟨w.heap.size, j, none⟩)) := fun V hV => (Below.cell (p := ⟨y, 0, none⟩) hV hyl).trans d0
        have e3 : ∀ V, Since W0 V → V.cell? ⟨y, 3, none⟩ = some (.int .i64 (z : Int)) := fun V hV => (Below.cell (p := ⟨y, 3, none⟩) hV hyl).trans d3
        have es : ∀ V, Since W0 V → V.cell? ⟨w.heap.size, j, none⟩ = some (.int .i64 (X : Int)) := fun V hV => (Below.cell (p := ⟨w.heap.size, j, none⟩) hV hkl).trans ds
        clear d0 d3 ds hyl hkl
        refine wp_region_since (by kernel_rfl) ?_
        have hS : Since W0 (World.drew W0) := (Below.refl _ _).drew
        refine wpAnyH_take (i := 0) (oi := ⟨some 18, _, _, _, _, _⟩) (v := ?_) rfl (by kernel_rfl) (by kernel_rfl) (by kernel_rfl) (fun _ _ _ h => h) (Or.inl ⟨by rfl, ?_⟩) hS ?_
        rotate_left
        · intro W hW; go_simp; with_reducible rfl
        try simp only [Act.put, List.setIfInBounds_toArray, List.set_cons_zero, List.set_cons_succ]
        refine wpAnyH_take (i := 1) (oi := ⟨some 19, _, _, _, _, _⟩) (v := ?_) rfl (by kernel_rfl) (by kernel_rfl) (by kernel_rfl) (fun _ _ _ h => h) (Or.inl ⟨by rfl, ?_⟩) hS ?_
        rotate_left
        · intro W hW; go_simp; with_reducible rfl
        try simp only [Act.put, List.setIfInBounds_toArray, List.set_cons_zero, List.set_cons_succ]
        refine wpAnyH_take (i := 2) (oi := ⟨some 20, _, _, _, _, _⟩) (v := ?_) rfl (by kernel_rfl) (by kernel_rfl) (by kernel_rfl) (fun _ _ _ h => h) (Or.inl ⟨by rfl, ?_⟩) hS ?_
        rotate_left
        · intro W hW; go_simp; with_reducible rfl
        try simp only [Act.put, List.setIfInBounds_toArray, List.set_cons_zero, List.set_cons_succ]
        refine wpAnyH_take (i := 3) (oi := ⟨some 21, _, _, _, _, _⟩) (v := ?_) rfl (by kernel_rfl) (by kernel_rfl) (by kernel_rfl) (fun _ _ _ h => h) (Or.inl ⟨by rfl, ?_⟩) hS ?_
        rotate_left
        · intro W hW; go_simp; with_reducible rfl
        try simp only [Act.put, List.setIfInBounds_toArray, List.set_cons_zero, List.set_cons_succ]
        refine wpAnyH_take (i := 4) (oi := ⟨some 22, _, _, _, _, _⟩) (v := ?_) rfl (by kernel_rfl) (by kernel_rfl) (by kernel_rfl) (fun _ _ _ h => h) (Or.inl ⟨by rfl, ?_⟩) hS ?_
        rotate_left
        · intro W hW; go_simp; with_reducible rfl
        try simp only [Act.put, List.setIfInBounds_toArray, List.set_cons_zero, List.set_cons_succ]
        refine wpAnyH_take (i := 5) (oi := ⟨some 23, _, _, _, _, _⟩) (v := ?_) rfl (by kernel_rfl) (by kernel_rfl) (by kernel_rfl) (fun _ _ _ h => h) (Or.inl ⟨by rfl, ?_⟩) hS ?_
        rotate_left
        · intro W hW; go_simp; with_reducible rfl
        try simp only [Act.put, List.setIfInBounds_toArray, List.set_cons_zero, List.set_cons_succ]
        refine wpAnyH_take (i := 6) (oi := ⟨some 24, _, _, _, _, _⟩) (v := ?_) rfl (by kernel_rfl) (by kernel_rfl) (by kernel_rfl) (fun _ _ _ h => h) (Or.inl ⟨by rfl, ?_⟩) hS ?_
        rotate_left
        · intro W hW; go_simp; with_reducible rfl
        try simp only [Act.put, List.setIfInBounds_toArray, List.set_cons_zero, List.set_cons_succ]
        refine wpAnyH_take (i := 7) (oi := ⟨some 25, _, _, _, _, _⟩) (v := ?_) rfl (by kernel_rfl) (by kernel_rfl) (by kernel_rfl) (fun _ _ _ h => h) (Or.inl ⟨by rfl, ?_⟩) hS ?_
        rotate_left
        · intro W hW; go_simp; with_reducible rfl
        try simp only [Act.put, List.setIfInBounds_toArray, List.set_cons_zero, List.set_cons_succ]
        refine wpAnyH_ready (rs := [8]) (by kernel_rfl) (by simp) ?_
        refine AllReadyH.cons (o := ⟨some 26, _, _, _, _, _⟩) rfl (fun Kr hKr => ?_) AllReadyH.nil
        -- operation 8: a call
        go_simp
        refine (put_core A c o _ HLN X (z : Int) z _ (HR4.out.up hS) (by omega) (by omega) (by omega) (.inr (.inl (by omega)))).mono ?_
        rintro e V1 ⟨A1, c1, rfl, ho1, hb1⟩
        have HO1 := Lib.hid ho1
        have HV1 := Lib.hid (since_trans hS hb1)
        clear ho1 hb1
        show Kr _ _
        refine hKr.out _ _ ?_ (fun _ => ?_)
        · exact HV1.out
        clear hKr Kr
        replace hS : Since W0 V1 := HV1.out
        try simp only [Act.put, List.setIfInBounds_toArray, List.set_cons_zero, List.set_cons_succ]
        refine wpAnyH_take (i := 9) (oi := ⟨some 4, _, _, _, _, _⟩) (v := ?_) rfl (by kernel_rfl) (by kernel_rfl) (by kernel_rfl) (fun _ _ _ h => h) (Or.inl ⟨by rfl, ?_⟩) hS ?_
        rotate_left
        · intro W hW; go_simp; with_reducible rfl
        try simp only [Act.put, List.setIfInBounds_toArray, List.set_cons_zero, List.set_cons_succ]
        refine wpAnyH_done (by kernel_rfl) ?_ _
        go_wp2_with fail
        go_roundw
        case rel => exact ⟨j + 1, A1, c1, by go_num, by rw [HOF.out], by omega, Lib.hid (by rw [HNX.out]; exact HO1.out.read), Lib.hid (fun _ => by rw [HNX.out, HOF.out]; exact HO1.out.base_le (Nat.le_trans HB3.out.size (HB4.out.size))), HB4.out.trans ((show Below _ _ _ from HV1.out).mono HB4.out.size)⟩
        case measure => simp [intOf]; omega
      · obtain rfl : j = 7 := by omega
        have HO7 := Lib.hid (HOW.out (by omega))
        have HB7 := Lib.hid (HB3.out.trans (HBR.out.mono HB3.out.size))
        clear HOW HRD HBR HB3 HS3 HF3 HR3
        have hpz : off 7 = 42 := rfl
        rw [hpz] at HO7 ⊢
        clear hpz
        obtain ⟨i0, hi, hz0, hz1, hz2⟩ := info_parts byte_facts
        go_wp2_with (at_builtin; refine wpList_append_zeros rfl (.tmp 28) (.const (.int .i64 18)) _ _ rfl w.heap.size i0 .i64 Try.underlying24 Try.underlying3 hi hz0 hz1 hz2 rfl HO7.out 18 rfl (by omega) (by omega) HB7.out.size ?_; intro v4 w4 hown4 hg4)
        obtain ⟨A4, c4, rfl, ho4⟩ := own_form hown4
        have HO4 : Hid (Owns w4 w.heap.size A4 c4 60 s.body) := Lib.hid ho4
        have HB4 : Hid (Below w.heap.size w w4) := Lib.hid (HB7.out.grown hg4 HB7.out.size fun k hk => by
          obtain ⟨ad, had⟩ : ∃ ad, A = some ad := by
            rcases A with _ | ad
            · cases hk
            · exact ⟨ad, rfl⟩
          subst had
          have : k = ad.block := by simpa [Value.ownBlock] using hk.symm
          rw [this]
          exact (HO7.out.block ad rfl).1)
        clear hown4 hg4 ho4 hi hz0 hz1 hz2 HO7 HB7
        go_wp2_with (go_at_call 40; refine (seal_any A4 c4 60 s.body (Lib.hid (length_body s)) _ HO4.out.read (by omega)).mono ?_; rintro e w5 ⟨A5, c5, rfl, ho5, hb5⟩)
        have HO5 := Lib.hid ho5
        have HB5 := Lib.hid hb5
        clear ho5 hb5
        go_ret2
        unfold EncOut encE encB
        rw [if_pos HM.out, if_pos HM.out]
        exact ⟨A5, 64, c5, rfl, (length_sector s).symm, HO5.out.base_le HB4.out.size, HB4.out.trans (HB5.out.mono HB4.out.size)⟩
  · rw [decide_eq_false hm] at hsane
    have HM := Lib.hid hm
    have HSN := Lib.hid hsane
    clear hm hsane
    obtain ⟨C, hC⟩ : ∃ C, C = supC s := ⟨_, rfl⟩
    rw [← hC] at hs0 hb0 ⊢
    have HC := Lib.hid hC
    have HS0 := Lib.hid hs0
    have HB0 := Lib.hid hb0
    clear hs0 hb0 hC
    go_enter Try.func11, Try.ntmps11
    go_upto_region 1 with fail
    generalize w.alloc (.cells C 29) = w0 at *
    obtain ⟨c0, c1, c2, c3, c4, c5, c6⟩ := HS0.out.seven
    go_wp2_with fail
    refine (HSN.out w0).mono ?_
    rintro e w1 ⟨rfl, hb1⟩
    have HB1 := Lib.hid (HB0.out.trans (hb1.mono HB0.out.size))
    clear c0 c1 c2 c3 c4 c5 c6 hb1 HS0 HB0
    go_wp2_with fail
    go_ret2
    unfold EncOut encE encB
    rw [if_neg HM.out, if_neg HM.out]
    exact ⟨none, 0, 0, rfl, rfl, ⟨rfl, .inl ⟨rfl, rfl⟩⟩, HB1.out⟩

end Go.Proofs.Ytojidejlohpeaaa
