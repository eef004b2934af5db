/-
  What a block's sector tells: the program's answer.
-/
import Derived.Test.YtknjkihcpcimpaaSe
namespace Go.Proofs.Ytknjkihcpcimpaa
set_option maxRecDepth 100000
set_option linter.unusedVariables false
open Go.RowKit Crc Wm Pg

theorem tell_nil : tellN nil64 = 0 ∧ tellD nil64 = List.replicate 32 0 := by decide

/-- what is told is what is laid, or the sector is the one of nothing -/
theorem ob_is {l : List UInt8} (h : whyE l = 0) : ((l == nil64 || l == padTo 64 (blkB (tellN l) (tellD l))) = true ∧ obE l = 0 ∧ obN l = (tellN l : Int) ∧ obD l = tellD l) ∨ ((l == nil64 || l == padTo 64 (blkB (tellN l) (tellD l))) = false ∧ obE l = 3) := by
  have hl := whyE_len h
  by_cases hz : l = nil64
  · left
    subst hz
    exact ⟨by rw [beq_self_eq_true]; rfl, obE_nil, by rw [obN_nil.1, tell_nil.1]; rfl, by rw [obN_nil.2, tell_nil.2]⟩
  · have e1 : (l == nil64) = false := beq_eq_false_iff_ne.2 hz
    rw [e1, Bool.false_or]
    have hd := length_tellD hl
    by_cases hm : Lsn (tellN l)
    · have eb : blkB (tellN l) (tellD l) = sect (blkH (tellN l) (tellD l)) := if_pos ⟨hm, hd⟩
      rw [eb, padTo_all (length_blk _ _ hd)]
      by_cases hq : sect (blkH (tellN l) (tellD l)) = l
      · left
        have h0 : obE l = 0 := by rw [obE_rest h hz, if_pos ⟨hm, hq⟩]
        exact ⟨by rw [hq, beq_self_eq_true], h0, (obN_ok h0 hz).1, (obN_ok h0 hz).2⟩
      · right
        exact ⟨beq_eq_false_iff_ne.2 (fun e => hq e.symm), by rw [obE_rest h hz, if_neg (fun k => hq k.2)]⟩
    · right
      have eb : blkB (tellN l) (tellD l) = [] := if_neg (fun k => hm k.1)
      rw [eb, padTo_none]
      exact ⟨beq_eq_false_iff_ne.2 hz, by rw [obE_rest h hz, if_neg (fun k => hm k.1)]⟩

set_option maxHeartbeats 2000000 in
theorem ofblock_any (A : Option Addr) (c n : Nat) (l : List UInt8) (w : World) (hl : Lies w A c n l) (hn : n ≤ 1073741824) : Calls Try.prog 14 #[.slice A n c] w (ObOut w l) := by
  have HOP := Lib.hid (opened_any A c n l w hl hn)
  clear hl
  by_cases hE : whyE l = 0
  · have HLN := Lib.hid (whyE_len hE)
    have HIS := Lib.hid (ob_is hE)
    have HE := Lib.hid hE
    have HO := Lib.hid (opS_yes hE)
    clear hE
    go_enter Try.func14, Try.ntmps14
    go_wp2_with fail
    refine HOP.out.mono ?_
    rintro e w1 ⟨rfl, hb1⟩
    rw [HO.out, HE.out]
    have HB1 := Lib.hid hb1
    clear hb1
    go_wp2_with (first
      | (refine wpList_alloc_sec 5 rfl rfl rfl ?_; intro u w2 hu hs2 hb2 hz2)
      | (refine wpList_store_sec hs2 rfl (.tmp 5) (.tmp 14) rfl rfl l HLN.out rfl ?_; intro w3 hs3 hg3)
      | (refine wpList_load_sec hs3 rfl (.tmp 5) rfl rfl ?_))
    have HU : Hid (w.heap.size ≤ u) := Lib.hid (by have h1 := HB1.out.size; have h2 := hu.out; omega)
    have HB3 := Lib.hid ((below_two HB1.out hb2).grown hg3 (below_two HB1.out hb2).size (fun k hk => by injection hk with hk; have := HU.out; omega))
    have HS3 := Lib.hid hs3
    clear hs2 hb2 hz2 hs3 hg3 hu HB1
    refine (numbers_any l HLN.out w3).mono ?_
    rintro e w4 ⟨r, g, rfl, hc4, hb4, hr4, _⟩
    have HC4 := Lib.hid hc4
    have HB4 := Lib.hid (below_two HB3.out hb4)
    have HS4 := Lib.hid (HS3.out.below hb4)
    have HR4 : Hid (w.heap.size ≤ r ∧ u < r) := Lib.hid ⟨Nat.le_trans HB3.out.size hr4, Nat.lt_of_lt_of_le HS3.out.lt hr4⟩
    clear hc4 hb4 hr4 HS3 HB3
    go_wp2_with fail
    refine (lsnof_any HC4.out (by omega)).mono ?_
    rintro e w5 ⟨rfl, hc5, hg5⟩
    have HB5 := Lib.hid (HB4.out.grown hg5 HB4.out.size (fun k hk => by injection hk with hk; have := HR4.out; omega))
    have HS5 := Lib.hid (HS4.out.far hg5 (by have := HR4.out; omega))
    clear hc5 hg5 HC4 HB4 HS4
    obtain ⟨V, hV⟩ : ∃ V, V = tellN l := ⟨_, rfl⟩
    have hV2 : valB (((l.drop 2).drop 0).take 6) = V := by rw [hV]; rfl
    rw [hV2]
    rw [← hV] at HIS
    clear hV2 hV
    have HRX : Hid (Rd w5 w5.heap.size (some ⟨u, 8, none⟩) (tellD l)) := Lib.hid (HS5.out.rd.cut 8 32 _ (fun b1 o1 e _ => by injection e with e; injection e with e1 e2 e3; subst e1 e2; rfl))
    have HLX : Hid ((tellD l).length = 32) := Lib.hid (length_tellD HLN.out)
    go_wp2_with fail
    refine (clone_any (some ⟨u, 8, none⟩) 56 32 (tellD l) HLX w5 HRX.out (by omega)).mono ?_
    rintro e w6 ⟨A6, c6, rfl, ho6, hb6⟩
    have HB6 := Lib.hid (below_two HB5.out hb6)
    have HS6 := Lib.hid (HS5.out.below hb6)
    have HO6 := Lib.hid (ho6.base_le HB5.out.size)
    clear ho6 hb6 HB5 HS5 HRX
    go_wp2_with fail
    refine (block_any (V : Int) A6 32 c6 (tellD l) w6 HO6.out.lies (by omega)).mono ?_
    rintro e w7 ⟨A7, n7, c7, rfl, hn7, ho7, hb7⟩
    have HB7 := Lib.hid (below_two HB6.out hb7)
    have HS7 := Lib.hid (HS6.out.below hb7)
    have HO7 := Lib.hid (HO6.out.below hb7)
    have HL7 := Lib.hid ho7.lies
    have HN7 : Hid (n7 ≤ 64) := Lib.hid (by
      rw [hn7]
      unfold blkB
      split
      · rw [length_blk _ _ HLX.out]; omega
      · exact Nat.zero_le _)
    generalize blkE (V : Int) (tellD l) = E at *
    clear ho7 hb7 hn7 HB6 HS6 HO6
    go_wp2_with (refine wpList_load_sec HS7.out rfl (.tmp 5) rfl rfl ?_)
    refine (is_any l HLN.out A7 c7 n7 _ HN7.out w7 HL7.out).mono ?_
    rintro e w8 ⟨rfl, hb8⟩
    have HB8 := Lib.hid (below_two HB7.out hb8)
    have HO8 := Lib.hid (HO7.out.below hb8)
    clear hb8 HB7 HO7 HL7
    rcases HIS.out with ⟨h1, h2, h3, h4⟩ | ⟨h1, h2⟩
    · rw [h1]
      have H2 := Lib.hid h2
      have H3 := Lib.hid h3
      have H4 := Lib.hid h4
      clear h1 h2 h3 h4
      go_wp2_with fail
      go_ret3
      exact ⟨A6, 32, c6, by rw [H2.out, H3.out]; rfl, by rw [H4.out, HLX.out], by rw [H4.out]; exact HO8.out, HB8.out⟩
    · rw [h1]
      have H2 := Lib.hid h2
      clear h1 h2
      go_wp2_with fail
      go_ret3
      exact ob_no H2.out (by decide) HB8.out
  · have h0 := hE
    obtain ⟨E, hEE⟩ : ∃ E, E = whyE l := ⟨_, rfl⟩
    have HE : Hid (obE l = E) := Lib.hid (by rw [hEE]; exact obE_why h0)
    rw [← hEE] at h0
    have HWE := Lib.hid hEE
    have h1 : (E == 0) = false := beq_eq_false_iff_ne.2 h0
    have h2 : (E != 0) = true := by simp [h0]
    have HSL := Lib.hid (opS_len (l := l))
    clear hE hEE
    go_enter Try.func14, Try.ntmps14
    go_wp2_with fail
    refine HOP.out.mono ?_
    rintro e w1 ⟨rfl, hb1⟩
    rw [← HWE.out]
    have HB1 := Lib.hid hb1
    clear hb1
    go_wp2_with (first
      | (refine wpList_alloc_sec 5 rfl rfl rfl ?_; intro u w2 hu hs2 hb2 hz2)
      | (refine wpList_store_sec hs2 rfl (.tmp 5) (.tmp 14) rfl rfl (opS l) HSL.out rfl ?_; intro w3 hs3 hg3))
    have HB3 := Lib.hid ((below_two HB1.out hb2).grown hg3 (below_two HB1.out hb2).size (fun k hk => by injection hk with hk; have h1 := hu.out; have h2 := HB1.out.size; omega))
    go_ret3
    exact ob_no HE.out h0 HB3.out

end Go.Proofs.Ytknjkihcpcimpaa
