/-
  What a block's sector tells: the document's answer.
-/
import Derived.Test.YtknjkihcpcimpaaRy
namespace Go.Proofs.Ytknjkihcpcimpaa
set_option maxRecDepth 100000
set_option linter.unusedVariables false
open Go.RowKit Crc Wm Pg

def ObOut (w : World) (l : List UInt8) (e : Ending) (w' : World) : Prop :=
  ∃ A N c, e = .returned (.tuple #[.int .i64 (obN l), .slice A N c, .int .i64 (obE l)]) ∧ N = (obD l).length ∧ Owns w' w.heap.size A c N (obD l) ∧ Below w.heap.size w w'

theorem ob_no {w w' : World} {l : List UInt8} {E : Int} (hE : obE l = E) (h0 : E ≠ 0) (hb : Below w.heap.size w w') : ObOut w l (.returned (.tuple #[.int .i64 0, .slice none 0 0, .int .i64 E])) w' := by
  obtain ⟨h1, h2⟩ := obN_not (l := l) (by rw [hE]; exact h0)
  exact ⟨none, 0, 0, by rw [h1, hE], by rw [h2]; rfl, by rw [h2]; exact ⟨rfl, .inl ⟨rfl, rfl⟩⟩, hb⟩

set_option maxHeartbeats 2000000 in
theorem refofblock_any (A : Option Addr) (c n : Nat) (l : List UInt8) (w : World) (hl : Lies w A c n l) (hn : n ≤ 1073741824) : Calls Try.prog 15 #[.slice A n c] w (ObOut w l) := by
  have HLN := Lib.hid hl.len
  have HL := Lib.hid hl
  have HWY := Lib.hid (refwhy_any A c n l w hl hn)
  clear hl
  by_cases hE : whyE l = 0
  · obtain rfl : n = 64 := by have := whyE_len hE; rw [← HLN.out]; exact this
    obtain ⟨b, o, rfl⟩ : ∃ b o, A = some ⟨b, o, none⟩ := by
      rcases HL.out.rd with h0 | ⟨b, o, e, _⟩
      · subst h0; have := HLN.out; simp at this
      · exact ⟨b, o, e⟩
    have hc64 := HL.out.cap
    have HE := Lib.hid hE
    clear hE hn
    by_cases hz : l = nil64
    · have HZ : Hid (whyZ l = true) := Lib.hid (by rw [hz]; exact beq_self_eq_true _)
      have HNZ := Lib.hid hz
      clear hz
      go_enter Try.func15, Try.ntmps15
      go_wp2_with fail
      refine HWY.out.mono ?_
      rintro e w1 ⟨rfl, hb1⟩
      rw [HE.out, HZ.out]
      have HB1 := Lib.hid hb1
      clear hb1 HWY
      obtain ⟨w7, hmk, ho7, hb7⟩ := run_zeros (World.drew w1) 32 (by omega)
      have HMK := Lib.hid hmk
      have HB7 := Lib.hid hb7
      have HO7 := Lib.hid ho7
      clear hmk hb7 ho7
      go_upto_region 5 with fail
      refine wp_region_since (by kernel_rfl) ?_
      have hS : Since w1 (World.drew w1) := (Below.refl _ _).drew
      refine wpAnyH_take (i := 1) (oi := ⟨some 2, _, _, _, _, _⟩) (v := ?_) rfl (by kernel_rfl) (by kernel_rfl) (by kernel_rfl) (fun _ _ _ h => h) (Or.inl ⟨by rfl, ?_⟩) hS ?_
      rotate_left
      · intro W hW; go_simp; with_reducible rfl
      try simp only [Act.put, List.setIfInBounds_toArray, List.set_cons_zero, List.set_cons_succ]
      refine wpAnyH_ready (rs := [0]) (by kernel_rfl) (by simp) ?_
      refine AllReadyH.cons (o := ⟨some 22, _, _, _, _, _⟩) rfl (fun Kr hKr => ?_) AllReadyH.nil
      -- operation 0: a step
      rw [if_pos (by kernel_rfl)]
      refine wp_make 22 _ _ rfl rfl rfl HMK.out ?_
      show Kr _ _
      refine hKr.out _ _ ?_ (fun _ => ?_)
      · exact since_trans hS HB7.out
      clear hKr Kr
      refine wpAnyH_since (since_trans hS HB7.out) ?_
      clear hS
      have hS : Since w7 w7 := Below.refl _ _
      try simp only [Act.put, List.setIfInBounds_toArray, List.set_cons_zero, List.set_cons_succ]
      refine wpAnyH_take (i := 2) (oi := ⟨some 3, _, _, _, _, _⟩) (v := ?_) rfl (by kernel_rfl) (by kernel_rfl) (by kernel_rfl) (fun _ _ _ h => h) (Or.inl ⟨by rfl, ?_⟩) hS ?_
      rotate_left
      · intro W hW; go_simp; with_reducible rfl
      try simp only [Act.put, List.setIfInBounds_toArray, List.set_cons_zero, List.set_cons_succ]
      refine wpAnyH_take (i := 3) (oi := ⟨some 4, _, _, _, _, _⟩) (v := ?_) rfl (by kernel_rfl) (by kernel_rfl) (by kernel_rfl) (fun _ _ _ h => h) (Or.inl ⟨by rfl, ?_⟩) hS ?_
      rotate_left
      · intro W hW; go_simp; with_reducible rfl
      try simp only [Act.put, List.setIfInBounds_toArray, List.set_cons_zero, List.set_cons_succ]
      refine wpAnyH_done (by kernel_rfl) ?_ _
      have HB8 := Lib.hid (HB1.out.trans ((show Since w1 (World.drew w1) from (Below.refl _ _).drew).trans (HB7.out.mono (Nat.le_refl _)) |>.mono HB1.out.size))
      clear hS
      go_wp2_with fail
      go_ret3
      refine ⟨_, _, _, by rw [HNZ.out, obN_nil.1, obE_nil]; rfl, by rw [HNZ.out, obN_nil.2, List.length_replicate], ?_, HB8.out⟩
      rw [HNZ.out, obN_nil.2]
      exact HO7.out.base_le HB1.out.size
    · have HZ : Hid (whyZ l = false) := Lib.hid (by unfold whyZ; exact beq_eq_false_iff_ne.2 hz)
      have HNZ := Lib.hid hz
      have HR := Lib.hid (obE_rest HE.out hz)
      clear hz
      go_enter Try.func15, Try.ntmps15
      go_wp2_with fail
      refine HWY.out.mono ?_
      rintro e w1 ⟨rfl, hb1⟩
      rw [HE.out, HZ.out]
      have HB1 := Lib.hid hb1
      clear hb1 HWY
      have HCR : Hid (Cur (w1.alloc (.cells #[.slice (some ⟨b, o, none⟩) 64 c, .int .i64 2] 66)) w1.heap.size 66 (some ⟨b, o, none⟩) c 64 2 l) :=
        Lib.hid ⟨heap_alloc_new w1 _, by omega, HLN.out, hc64, by omega, (HL.out.up HB1.out).rd.below (below_new w1 _)⟩
      have hbx := below_new w1 (.cells #[.slice (some ⟨b, o, none⟩) 64 c, .int .i64 2] 66)
      have HP0 := Lib.hid (HB1.out.trans (hbx.mono HB1.out.size))
      clear hbx
      go_upto_region 7 with fail
      generalize w1.alloc (.cells #[.slice (some ⟨b, o, none⟩) 64 c, .int .i64 2] 66) = v0 at *
      have HRS : Hid (w.heap.size ≤ w1.heap.size) := Lib.hid HB1.out.size
      generalize w1.heap.size = r at *
      go_wp2_with fail
      refine (refget_ok HCR.out 6 (by omega) (by omega) (by omega)).mono ?_
      rintro e v1 ⟨rfl, hcur, hg⟩
      have HP1 := Lib.hid (HP0.out.grown hg HP0.out.size (fun k hk => by injection hk with hk; have := HRS.out; omega))
      obtain ⟨V, hV⟩ : ∃ V, V = valB ((l.drop 2).take 6) := ⟨_, rfl⟩
      have HV : Hid (tellN l = V) := Lib.hid hV.symm
      have hVb : V < 281474976710656 := by rw [hV]; exact tellN_lt
      have hwV : IntKind.i64.wrap (V : Int) = (V : Int) := by rw [IntKind.wrap_i64]; omega
      rw [← hV]
      clear hcur hg HCR HP0 hV HB1
      obtain ⟨i0, hi, hz0, hz1, hz2⟩ := info_parts byte_facts
      have HI := Lib.hid (And.intro hi (And.intro hz0 (And.intro hz1 hz2)))
      clear hi hz0 hz1 hz2
      have HO0 : Hid (Owns (v1.alloc (.cells #[] 5)) v1.heap.size (some ⟨v1.heap.size, 0, none⟩) 0 0 []) := Lib.hid (World.ownsRow_lit v1 #[] 0 (Nat.le_refl _) (by simp [maxLen]) rfl)
      have HB0 := Lib.hid (below_new v1 (.cells #[] 5))
      have HL1 := Lib.hid (HL.out.up HP1.out)
      have HRX : Hid (Rd v1 v1.heap.size (some ⟨b, o + 8, none⟩) (tellD l)) := Lib.hid (HL1.out.rd.cut 8 32 _ (fun b1 o1 e _ => by injection e with e; injection e with e1 e2 e3; subst e1 e2; rfl))
      have HLX : Hid ((tellD l).length = 32) := Lib.hid (length_tellD HLN.out)
      go_wp2_with (at_builtin; refine wpList_append_rd rfl (.tmp 31) (.tmp 33) _ rfl v1.heap.size i0 Try.underlying22 HI.out.1 HI.out.2.1 HI.out.2.2.1 HI.out.2.2.2 (.slice (some ⟨v1.heap.size, 0, none⟩) 0 0) 0 [] rfl HO0.out v1.heap.size (some ⟨b, o + 8, none⟩) (tellD l) 32 _ rfl (HRX.out.below HB0.out) HLX.out (by omega) HB0.out.size ?_; intro v3 w3 hown2 hg2 hat2)
      obtain ⟨A3, c3, rfl, ho3, hb3⟩ := append_step' (l := []) HO0.out HB0.out HB0.out.size hown2 hg2
      have HLD : Hid (Lies w3 A3 c3 32 (tellD l)) := Lib.hid (by have h := ho3.lies; exact h)
      have HO3 : Hid (Owns w3 w.heap.size A3 c3 32 (tellD l)) := Lib.hid (by have h := ho3.base_le HP1.out.size; exact h)
      have HP3 := Lib.hid (HP1.out.trans (hb3.mono HP1.out.size))
      clear ho3 hb3 hown2 hg2 hat2 HO0 HB0 HL1 HRX HP1
      refine (refblock_any (V : Int) A3 32 c3 (tellD l) w3 HLD.out (by omega)).mono ?_
      rintro e w4 ⟨A4, n4, c4, rfl, hn4, ho4, hb4⟩
      have HB4 := Lib.hid (HP3.out.trans (hb4.mono HP3.out.size))
      have HLY := Lib.hid (HL.out.up HB4.out)
      have HO4 : Hid (Owns w4 w.heap.size A3 c3 32 (tellD l)) := Lib.hid (HO3.out.below hb4)
      by_cases hm : Lsn (tellN l)
      · have hp : Lsn (V : Int) ∧ (tellD l).length = 32 := ⟨by rw [← HV.out]; exact hm, HLX.out⟩
        have hE0 : blkE V (tellD l) = 0 := if_pos hp
        have hB0 : blkB V (tellD l) = sect (blkH V (tellD l)) := if_pos hp
        rw [hE0]
        rw [hB0] at ho4 hn4
        have hn64 : n4 = 64 := by rw [hn4, length_blk _ _ HLX.out]
        clear hE0 hB0 hn4 hp
        subst hn64
        have kc1 := ho4.lies.conv
        have kc2 := HLY.out.conv
        obtain ⟨sx, hsx⟩ : ∃ sx, sx = sect (blkH V (tellD l)) := ⟨_, rfl⟩
        rw [← hsx] at kc1
        clear ho4 hb4 HP3 HO3 HLD
        by_cases hq : sect (blkH (tellN l) (tellD l)) = l
        · have H0 : Hid (obE l = 0) := Lib.hid (by rw [HR.out, if_pos ⟨hm, hq⟩])
          have hbq : (sx == l) = true := by rw [hsx, ← HV.out, hq]; simp
          clear hm hq hsx
          go_wp2_with fail
          go_ret3
          obtain ⟨h1, h2⟩ := obN_ok H0.out HNZ.out
          exact ⟨A3, 32, c3, by rw [h1, H0.out, HV.out]; rfl, by rw [h2, HLX.out], by rw [h2]; exact HO4.out, HB4.out⟩
        · have H0 : Hid (obE l = 3) := Lib.hid (by rw [HR.out, if_neg (fun h => hq h.2)])
          have hbq : (sx == l) = false := by rw [hsx, ← HV.out]; simpa using hq
          clear hm hq hsx
          go_wp2_with fail
          go_ret3
          exact ob_no H0.out (by decide) HB4.out
      · have hp : ¬ (Lsn (V : Int) ∧ (tellD l).length = 32) := fun h => hm (by rw [HV.out]; exact h.1)
        have hE0 : blkE V (tellD l) = 1 := if_neg hp
        rw [hE0]
        have H0 : Hid (obE l = 3) := Lib.hid (by rw [HR.out, if_neg (fun h => hm h.1)])
        clear hE0 hm hn4 ho4 hp hb4
        go_wp2_with fail
        go_ret3
        exact ob_no H0.out (by decide) HB4.out
  · have h0 := hE
    obtain ⟨E, hEE⟩ : ∃ E, E = whyE l := ⟨_, rfl⟩
    have HE : Hid (obE l = E) := Lib.hid (by rw [hEE]; exact obE_why h0)
    rw [← hEE] at h0
    have HWE := Lib.hid hEE
    have h1 : (E == 0) = false := beq_eq_false_iff_ne.2 h0
    have h2 : (E != 0) = true := by simp [h0]
    clear hE hEE
    go_enter Try.func15, Try.ntmps15
    go_wp2_with fail
    refine HWY.out.mono ?_
    rintro e w1 ⟨rfl, hb1⟩
    rw [← HWE.out]
    generalize whyZ l = z
    have HB1 := Lib.hid hb1
    clear hb1 HWY
    go_wp2_with fail
    go_ret3
    exact ob_no HE.out h0 HB1.out

end Go.Proofs.Ytknjkihcpcimpaa
