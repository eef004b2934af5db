/-
  The document's Read, of any bytes.
-/
import Derived.Test.YtdjfahnnfhediaaGreatRead6
import Derived.Test.YtdjfahnnfhediaaGreatRefWrite6
namespace Go.Proofs.YtdjfahnnfhediaaGreat
set_option maxRecDepth 100000
open Go.RowKit Crc Wm

theorem sum_test (l : List UInt8) (h : l.length = 64) : ((fieldN l 0 4 : Int) != word (ofB (l.drop 4))) = !(l.take 4 == sum4 (l.drop 4)) := by
  have e : ((fieldN l 0 4 : Int) = word (ofB (l.drop 4))) ↔ l.take 4 = sum4 (l.drop 4) := by
    have hp := put_field l 0 4 (by omega)
    rw [List.drop_zero] at hp
    unfold word sum4
    constructor
    · intro g
      have g2 : fieldN l 0 4 = (ofB (l.drop 4)).toNat := by omega
      rw [← hp, g2]
    · intro g
      rw [← hp] at g
      have g2 := congrArg valB g
      rw [val_putB_fit _ _ (fieldN_lt l 0 4), val_putB_fit _ _ (ofB (l.drop 4)).isLt] at g2
      rw [g2]
  by_cases h2 : l.take 4 = sum4 (l.drop 4)
  · rw [beq_iff_eq.2 h2]
    rw [e.2 h2]
    simp
  · rw [beq_eq_false_iff_ne.2 h2]
    rw [Bool.not_false, bne_iff_ne]
    exact fun g => h2 (e.1 g)

theorem refcur_new {w : World} {A : Option Addr} {n cap : Nat} {l : List UInt8} (hl : Lies w A cap n l) (hm : n ≤ 4611686018427387904) (t : TypeId) (g : Nat) (hg : w.heap.size = g) : Cur (w.alloc (.cells #[.slice A n cap, .int .i64 0] t)) g t A cap n 0 l := by
  subst hg
  exact ⟨heap_alloc_new w _, Nat.zero_le _, hl.len, hl.cap, hm, hl.rd.keep fun p hp => World.cell?_alloc_lt w _ p hp⟩

set_option maxHeartbeats 1500000 in
set_option maxRecDepth 100000 in
theorem refread_any (A : Option Addr) (c n : Nat) (l : List UInt8) (w : World) (hl : Lies w A c n l) (hn : n ≤ 4611686018427387904) :
    Calls Tryz.prog 67 #[.slice A n c] w (PieceOut w (readP l) (readE l)) := by
  have HY := Lib.hid (Bp.new w zp 109)
  have HB := Lib.hid (below_new w (.cells (pvC zp) 109))
  have HL := Lib.hid hl.len
  have hc := hl.cap
  have HLI := Lib.hid hl
  have HR := Lib.hid hl.rd
  clear hl
  rcases Nat.lt_or_ge n 64 with h64 | h64
  · have HN := Lib.hid (fun W => @PieceOut.fail w W l 2 (readE_short l (by rw [HL.out]; exact h64)) (by decide))
    have y0 := HY.out.c0
    have y1 := HY.out.c1
    have y2 := HY.out.c2
    have y3 := HY.out.c3
    have y4 := HY.out.c4
    unfold zp at y0 y1 y2 y3 y4
    simp only at y0 y1 y2 y3 y4
    go_enter Tryz.func67, Tryz.ntmps67
    go_wp2_with fail
    exact bodyPost_ret (v := .tuple #[.agg #[.int .i64 0, .int .i64 0, .int .i64 0, .int .i64 0, .slice none 0 0], .int .i64 2]) (by rw [results_cell_tmp rfl]; go_simp) rfl (HN.out _ HB.out)
  rcases Nat.lt_or_ge 64 n with h65 | h65
  · have HN := Lib.hid (fun W => @PieceOut.fail w W l 3 (readE_long l (by rw [HL.out]; exact h65)) (by decide))
    have y0 := HY.out.c0
    have y1 := HY.out.c1
    have y2 := HY.out.c2
    have y3 := HY.out.c3
    have y4 := HY.out.c4
    unfold zp at y0 y1 y2 y3 y4
    simp only at y0 y1 y2 y3 y4
    go_enter Tryz.func67, Tryz.ntmps67
    go_wp2_with fail
    exact bodyPost_ret (v := .tuple #[.agg #[.int .i64 0, .int .i64 0, .int .i64 0, .int .i64 0, .slice none 0 0], .int .i64 3]) (by rw [results_cell_tmp rfl]; go_simp) rfl (HN.out _ HB.out)
  obtain rfl : n = 64 := by omega
  clear h64 h65
  rcases HR.out with h0 | ⟨b, o, rfl, hbb, _⟩
  · exfalso
    have := HL.out
    rw [h0] at this
    simp at this
  have HS : Hid (w.heap.size + 1 ≤ (w.alloc (.cells (pvC zp) 109)).heap.size) := by show _ ≤ _; simp
  have HR60 : Hid (Rd w w.heap.size (some ⟨b, o + 4, none⟩) (l.drop 4)) := by
    have h1 := HR.out.cut 4 60 (some ⟨b, o + 4, none⟩) (fun b' o' e _ => by injection e with e; injection e with e1 e2; subst e1 e2; rfl)
    rwa [List.take_of_length_le (by rw [List.length_drop, HL.out]; omega)] at h1
  have HL60 : Hid ((l.drop 4).length = 60) := by show _ = _; rw [List.length_drop, HL.out]
  have HT := Lib.hid (sum_test l HL.out)
  have hcc : ¬ c = 4 := by omega
  have hc4 : (4 : Int) ≤ (c : Int) := by omega
  clear hbb
  go_enter Tryz.func67, Tryz.ntmps67
  go_wp2_with fail
  have HC := Lib.hid (refcur_new (HLI.out.up HB.out) hn 130 (w.heap.size + 1) (by simp))
  have hb := below_new (w.alloc (.cells (pvC zp) 109)) (.cells #[.slice (some ⟨b, o, none⟩) 64 c, .int .i64 0] 130)
  replace HY := Lib.hid (HY.out.below hb)
  replace HB := Lib.hid (below_two HB.out hb)
  replace HS := Lib.hid (Nat.le_trans HS.out hb.size)
  clear hb
  refine (refget_ok HC.out 4 (by omega) (by omega) (by omega)).mono ?_
  rintro e w1 ⟨rfl, hcur, hg⟩
  replace HC := Lib.hid hcur
  replace HY := Lib.hid (HY.out.other hg (by omega))
  replace HB := Lib.hid (HB.out.grown hg HB.out.size (fun k hk => by injection hk with hk; omega))
  replace HS := Lib.hid (Nat.le_trans HS.out hg.size)
  clear hcur hg
  obtain ⟨X, hX⟩ : ∃ x, fieldN l 0 4 = x := ⟨_, rfl⟩
  have hv : valB ((l.drop (0)).take 4) = X := hX
  rw [hv]
  clear hv
  have hXb : X < 4294967296 := by rw [← hX]; exact fieldN_lt l 0 4
  have HX := Lib.hid hX
  rw [hX] at HT
  clear hX
  obtain ⟨hw0, hw1⟩ := word_bd (ofB (l.drop 4))
  have HOF := Lib.hid (fun W hW => refof_any (some ⟨b, o + 4, none⟩) (c - 4) 60 (l.drop 4) HL60 W hW (by omega))
  generalize word (ofB (l.drop 4)) = Y at *
  go_wp2_with fail
  refine (HOF.out w1 (HR60.out.up HB.out)).mono ?_
  rintro e w1' ⟨rfl, hw⟩
  subst hw
  clear HOF
  by_cases hs : l.take 4 = sum4 (l.drop 4)
  case neg =>
    have hq : (l.take 4 == sum4 (l.drop 4)) = false := by rw [beq_eq_false_iff_ne]; exact hs
    have HN := Lib.hid (fun W => @PieceOut.fail w W l 4 (readE_sum l HL.out hs) (by decide))
    have ht : ((X : Int) != Y) = true := by rw [HT.out, hq]; rfl
    clear hq hs
    have y0 := HY.out.c0
    have y1 := HY.out.c1
    have y2 := HY.out.c2
    have y3 := HY.out.c3
    have y4 := HY.out.c4
    have f0 := HY.out.fr 0
    have f1 := HY.out.fr 1
    have f2 := HY.out.fr 2
    have f3 := HY.out.fr 3
    have f4 := HY.out.fr 4
    unfold zp at y0 y1 y2 y3 y4
    simp only at y0 y1 y2 y3 y4
    go_wp2_with fail
    exact bodyPost_ret (v := .tuple #[.agg #[.int .i64 0, .int .i64 0, .int .i64 0, .int .i64 0, .slice none 0 0], .int .i64 4]) (by rw [results_cell_tmp rfl]; go_simp) rfl (HN.out _ (results_five HB.out _ _ _ _ _))
  have hq : (l.take 4 == sum4 (l.drop 4)) = true := beq_iff_eq.2 hs
  have ht : ((X : Int) != Y) = false := by rw [HT.out, hq]; rfl
  have HSU := Lib.hid hs
  clear hq hs
  go_wp2_with fail
  clear ht
  refine (refget_ok HC.out 4 (by omega) (by omega) (by omega)).mono ?_
  rintro e w2 ⟨rfl, hcur, hg⟩
  replace HC := Lib.hid hcur
  replace HY := Lib.hid (HY.out.other hg (by omega))
  replace HB := Lib.hid (HB.out.grown hg HB.out.size (fun k hk => by injection hk with hk; omega))
  replace HS := Lib.hid (Nat.le_trans HS.out hg.size)
  clear hcur hg
  obtain ⟨FE, hFE⟩ : ∃ x, fieldN l 4 4 = x := ⟨_, rfl⟩
  have hv : valB ((l.drop (0 + 4)).take 4) = FE := hFE
  rw [hv]
  clear hv
  have hFEb : FE < 4294967296 := by rw [← hFE]; exact fieldN_lt l 4 4
  have HFE := Lib.hid hFE
  go_wp2_with fail
  refine (refget_ok HC.out 6 (by omega) (by omega) (by omega)).mono ?_
  rintro e w3 ⟨rfl, hcur, hg⟩
  replace HC := Lib.hid hcur
  replace HY := Lib.hid (HY.out.other hg (by omega))
  replace HB := Lib.hid (HB.out.grown hg HB.out.size (fun k hk => by injection hk with hk; omega))
  replace HS := Lib.hid (Nat.le_trans HS.out hg.size)
  clear hcur hg
  obtain ⟨FA, hFA⟩ : ∃ x, fieldN l 8 6 = x := ⟨_, rfl⟩
  have hv : valB ((l.drop (0 + 4 + 4)).take 6) = FA := hFA
  rw [hv]
  clear hv
  have hFAb : FA < 281474976710656 := by rw [← hFA]; exact fieldN_lt l 8 6
  have HFA := Lib.hid hFA
  go_wp2_with fail
  refine (refget_ok HC.out 2 (by omega) (by omega) (by omega)).mono ?_
  rintro e w4 ⟨rfl, hcur, hg⟩
  replace HC := Lib.hid hcur
  replace HY := Lib.hid (HY.out.other hg (by omega))
  replace HB := Lib.hid (HB.out.grown hg HB.out.size (fun k hk => by injection hk with hk; omega))
  replace HS := Lib.hid (Nat.le_trans HS.out hg.size)
  clear hcur hg
  obtain ⟨FI, hFI⟩ : ∃ x, fieldN l 14 2 = x := ⟨_, rfl⟩
  have hv : valB ((l.drop (0 + 4 + 4 + 6)).take 2) = FI := hFI
  rw [hv]
  clear hv
  have hFIb : FI < 65536 := by rw [← hFI]; exact fieldN_lt l 14 2
  have HFI := Lib.hid hFI
  go_wp2_with fail
  refine (refget_ok HC.out 2 (by omega) (by omega) (by omega)).mono ?_
  rintro e w5 ⟨rfl, hcur, hg⟩
  replace HC := Lib.hid hcur
  replace HY := Lib.hid (HY.out.other hg (by omega))
  replace HB := Lib.hid (HB.out.grown hg HB.out.size (fun k hk => by injection hk with hk; omega))
  replace HS := Lib.hid (Nat.le_trans HS.out hg.size)
  clear hcur hg
  obtain ⟨FC, hFC⟩ : ∃ x, fieldN l 16 2 = x := ⟨_, rfl⟩
  have hv : valB ((l.drop (0 + 4 + 4 + 6 + 2)).take 2) = FC := hFC
  rw [hv]
  clear hv
  have hFCb : FC < 65536 := by rw [← hFC]; exact fieldN_lt l 16 2
  have HFC := Lib.hid hFC
  go_wp2_with fail
  refine (refget_ok HC.out 1 (by omega) (by omega) (by omega)).mono ?_
  rintro e w6 ⟨rfl, hcur, hg⟩
  replace HC := Lib.hid hcur
  replace HY := Lib.hid (HY.out.other hg (by omega))
  replace HB := Lib.hid (HB.out.grown hg HB.out.size (fun k hk => by injection hk with hk; omega))
  replace HS := Lib.hid (Nat.le_trans HS.out hg.size)
  clear hcur hg
  obtain ⟨S, hS⟩ : ∃ x, fieldN l 18 1 = x := ⟨_, rfl⟩
  have hv : valB ((l.drop (0 + 4 + 4 + 6 + 2 + 2)).take 1) = S := hS
  rw [hv]
  clear hv
  have hSb : S < 256 := by rw [← hS]; exact fieldN_lt l 18 1
  have HSX := Lib.hid hS
  have HSZ : Hid (sizeN l = S) := HSX
  clear hFE hFA hFI hFC hS HSX HC
  rcases Nat.lt_or_ge 44 S with hS3 | hS3
  · have HN := Lib.hid (fun W => @PieceOut.fail w W l 3 (readE_form l HL.out HSU.out (fun h => by have := h.1; rw [HSZ.out] at this; omega)) (by decide))
    have hd : decide ((S : Int) > 44) = true := decide_eq_true (by omega)
    have y0 := HY.out.c0
    have y1 := HY.out.c1
    have y2 := HY.out.c2
    have y3 := HY.out.c3
    have y4 := HY.out.c4
    have f0 := HY.out.fr 0
    have f1 := HY.out.fr 1
    have f2 := HY.out.fr 2
    have f3 := HY.out.fr 3
    have f4 := HY.out.fr 4
    unfold zp at y0 y1 y2 y3 y4
    simp only at y0 y1 y2 y3 y4
    go_wp2_with fail
    exact bodyPost_ret (v := .tuple #[.agg #[.int .i64 0, .int .i64 0, .int .i64 0, .int .i64 0, .slice none 0 0], .int .i64 3]) (by rw [results_cell_tmp rfl]; go_simp) rfl (HN.out _ (results_five HB.out _ _ _ _ _))
  have hd : decide ((S : Int) > 44) = false := decide_eq_false (by omega)
  have HRD : Hid (Rd w w.heap.size (some ⟨b, o + 20, none⟩) ((l.drop 20).take S)) := HR.out.cut 20 S (some ⟨b, o + 20, none⟩) (fun b' o' e _ => by injection e with e; injection e with e1 e2; subst e1 e2; rfl)
  have HDL : Hid (((l.drop 20).take S).length = S) := by show _ = _; rw [List.length_take, List.length_drop, HL.out]; omega
  have HTL : Hid (tell l = ⟨(FE : Int), (FA : Int), (FI : Int), (FC : Int), (l.drop 20).take S⟩) := by
    show _ = _
    unfold tell
    rw [HFE.out, HFA.out, HFI.out, HFC.out, HSZ.out]
  have hc20 : ¬ c = 20 := by omega
  have hc21 : (20 : Int) + (S : Int) ≤ (c : Int) := by omega
  obtain ⟨ib, hi, hz0, hz1, hz2⟩ := info_parts byte_facts
  have hle := HS.out
  have hle6 := HB.out.size
  have hown0 : (w6.alloc (.cells #[] 5)).ownsRow w6.heap.size 5 1 (.slice (some ⟨w6.heap.size, 0, none⟩) 0 0) 0 [] := World.ownsRow_lit w6 #[] 0 (Nat.le_refl _) (by simp [maxLen]) rfl
  have hb0 : Below w6.heap.size w6 (w6.alloc (.cells #[] 5)) := below_new w6 _
  have hr6 := (HRD.out.up HB.out).up hb0
  go_wp2_with (at_builtin; refine wpList_append_rd rfl (.tmp 79) (.tmp 84) _ rfl w6.heap.size ib Tryz.underlying41 hi hz0 hz1 hz2 (.slice (some ⟨w6.heap.size, 0, none⟩) 0 0) 0 [] rfl hown0 _ _ ((l.drop 20).take S) (20 + S - 20) _ rfl hr6 (by rw [HDL.out]; omega) (by omega) hb0.size ?_; intro v7 w7 hown7 hg7 hat7; obtain ⟨A7, c7, rfl, ho7, hb7⟩ := append_step' (l := []) hown0 hb0 hb0.size hown7 hg7; clear hown7 hg7 hat7; simp only [Nat.zero_add, List.nil_append, Nat.add_sub_cancel_left] at ho7)
  have HO7 := Lib.hid ho7
  have HB7 := Lib.hid (below_two HB.out hb7)
  have HY7 := Lib.hid (HY.out.below hb7)
  have hle7 := hb7.size
  clear hd hi hz0 hz1 hz2 hown0 hb0 hr6 ho7 hb7 hc20 hc21 HB HY HRD
  have hb8 := below_new w7 (.cells #[.int .i64 (FE : Int), .int .i64 (FA : Int), .int .i64 (FI : Int), .int .i64 (FC : Int), .slice A7 S c7] 109)
  have HP8 : Hid (Bp (w7.alloc (.cells #[.int .i64 (FE : Int), .int .i64 (FA : Int), .int .i64 (FI : Int), .int .i64 (FC : Int), .slice A7 S c7] 109)) w7.heap.size ⟨(FE : Int), (FA : Int), (FI : Int), (FC : Int), A7, S, c7⟩ 109) := Lib.hid (Bp.new w7 ⟨(FE : Int), (FA : Int), (FI : Int), (FC : Int), A7, S, c7⟩ 109)
  have HO8 := Lib.hid (HO7.out.below hb8)
  have HB8 := Lib.hid (below_two HB7.out hb8)
  have HY8 := Lib.hid (HY7.out.below hb8)
  have hle8 := hb8.size
  clear hb8 HO7 HB7 HY7
  have hwr := refwrite_any ⟨(FE : Int), (FA : Int), (FI : Int), (FC : Int), A7, S, c7⟩ ((l.drop 20).take S) _ HO8.out.lies (by show S ≤ _; omega)
  have hpc : Pv.pc ⟨(FE : Int), (FA : Int), (FI : Int), (FC : Int), A7, S, c7⟩ ((l.drop 20).take S) = tell l := HTL.out.symm
  rw [hpc] at hwr
  clear hpc
  refine hwr.mono ?_
  clear hwr
  rintro e w9 ⟨A9, n9, c9, rfl, ho9, hb9⟩
  have HO9 := Lib.hid (HO8.out.below hb9)
  have HP9 := Lib.hid (HP8.out.below hb9)
  have HB9 := Lib.hid (below_two HB8.out hb9)
  have HY9 := Lib.hid (HY8.out.below hb9)
  have HQ9 := Lib.hid ho9
  clear ho9 hb9 HO8 HB8 HY8 HP8
  by_cases hm : (tell l).May
  case neg =>
    have HN := Lib.hid (fun W => @PieceOut.fail w W l 3 (readE_form l HL.out HSU.out (fun h => hm h.2.2)) (by decide))
    have hE : (tell l).writeE = 1 := by unfold Pc.writeE; rw [if_neg hm]
    rw [hE]
    clear hE hm
    have y0 := HY9.out.c0
    have y1 := HY9.out.c1
    have y2 := HY9.out.c2
    have y3 := HY9.out.c3
    have y4 := HY9.out.c4
    have f0 := HY9.out.fr 0
    have f1 := HY9.out.fr 1
    have f2 := HY9.out.fr 2
    have f3 := HY9.out.fr 3
    have f4 := HY9.out.fr 4
    unfold zp at y0 y1 y2 y3 y4
    simp only at y0 y1 y2 y3 y4
    go_wp2_with fail
    exact bodyPost_ret (v := .tuple #[.agg #[.int .i64 0, .int .i64 0, .int .i64 0, .int .i64 0, .slice none 0 0], .int .i64 3]) (by rw [results_cell_tmp rfl]; go_simp) rfl (HN.out _ (results_five HB9.out _ _ _ _ _))
  have hE : (tell l).writeE = 0 := by unfold Pc.writeE; rw [if_pos hm]
  have hW : (tell l).writeB = (tell l).sector := by unfold Pc.writeB; rw [if_pos hm]
  have kc := HQ9.out.lies.conv
  rw [hW] at kc
  have kb := (HLI.out.up HB9.out).conv
  rw [hE]
  have HM := Lib.hid hm
  clear hE hm hW
  by_cases hs : (tell l).sector = l
  case neg =>
    have HN := Lib.hid (fun W => @PieceOut.fail w W l 3 (by
      rcases readE_four l with h | h | h | h
      · exact absurd ((read_by_write l HL.out HSU.out (by rw [HSZ.out]; exact hS3)).2 h).2 hs
      · rw [readE_form l HL.out HSU.out (fun g => by have := (readE_ok l).2 ⟨HL.out, HSU.out, g⟩; omega)]
      · exact h
      · rw [readE_form l HL.out HSU.out (fun g => by have := (readE_ok l).2 ⟨HL.out, HSU.out, g⟩; omega)]) (by decide))
    have hq : ((tell l).sector == l) = false := by rw [beq_eq_false_iff_ne]; exact hs
    have hq2 : ((tell l).sector != l) = true := by rw [bne, hq]; rfl
    clear hs
    generalize (tell l).sector = sec at *
    have y0 := HY9.out.c0
    have y1 := HY9.out.c1
    have y2 := HY9.out.c2
    have y3 := HY9.out.c3
    have y4 := HY9.out.c4
    have f0 := HY9.out.fr 0
    have f1 := HY9.out.fr 1
    have f2 := HY9.out.fr 2
    have f3 := HY9.out.fr 3
    have f4 := HY9.out.fr 4
    unfold zp at y0 y1 y2 y3 y4
    simp only at y0 y1 y2 y3 y4
    go_wp2_with fail
    exact bodyPost_ret (v := .tuple #[.agg #[.int .i64 0, .int .i64 0, .int .i64 0, .int .i64 0, .slice none 0 0], .int .i64 3]) (by rw [results_cell_tmp rfl]; go_simp) rfl (HN.out _ (results_five HB9.out _ _ _ _ _))
  have HE0 := Lib.hid ((read_by_write l HL.out HSU.out (by rw [HSZ.out]; exact hS3)).1 ⟨HM.out, hs⟩)
  have HP0 : Hid (readP l = ⟨(FE : Int), (FA : Int), (FI : Int), (FC : Int), (l.drop 20).take S⟩) := by show _ = _; rw [readP_ok l HE0.out, HTL.out]
  have hq : ((tell l).sector == l) = true := beq_iff_eq.2 hs
  have hq2 : ((tell l).sector != l) = false := by rw [bne, hq]; rfl
  clear hs
  generalize (tell l).sector = sec at *
  have y0 := HY9.out.c0
  have y1 := HY9.out.c1
  have y2 := HY9.out.c2
  have y3 := HY9.out.c3
  have y4 := HY9.out.c4
  have f0 := HY9.out.fr 0
  have f1 := HY9.out.fr 1
  have f2 := HY9.out.fr 2
  have f3 := HY9.out.fr 3
  have f4 := HY9.out.fr 4
  unfold zp at y0 y1 y2 y3 y4
  simp only at y0 y1 y2 y3 y4
  have q0 := HP9.out.c0
  have q1 := HP9.out.c1
  have q2 := HP9.out.c2
  have q3 := HP9.out.c3
  have q4 := HP9.out.c4
  simp only at q0 q1 q2 q3 q4
  go_wp2_with fail
  refine bodyPost_ret (v := .tuple #[.agg #[.int .i64 (FE : Int), .int .i64 (FA : Int), .int .i64 (FI : Int), .int .i64 (FC : Int), .slice A7 S c7], .int .i64 0]) (by rw [results_cell_tmp rfl]; go_simp) rfl ?_
  rw [HE0.out, HP0.out]
  refine ⟨A7, S, c7, rfl, ?_, results_five HB9.out _ _ _ _ _⟩
  have h0 : w.heap.size < w6.heap.size := hle
  exact (((((HO9.out.setOld h0 _).setOld h0 _).setOld h0 _).setOld h0 _).setOld h0 _).base_le (by omega)

end Go.Proofs.YtdjfahnnfhediaaGreat
