/-
  The statements' example: two that wait for one another.
-/
import Derived.Test.YtbokhhialfbjcaaGreatVicA
namespace Go.Proofs.YtbokhhialfbjcaaGreat
set_option maxRecDepth 100000
set_option linter.unusedVariables false
set_option linter.unusedSimpArgs false
open Go.RowKit Go.Shelf Go.Sort

def X1 : Tr := (⟨[], 0⟩ : Tr).begun (-1)
def X2 : Tr := X1.begun (-1)
theorem tops1 : Tops X1 1 := tops_nil.begun (by decide)
theorem tops2 : Tops X2 2 := tops1.begun (by decide)
def G1 : List Lk := [⟨1, 0, 2, 0⟩]
def G2 : List Lk := [⟨1, 0, 2, 0⟩, ⟨2, 1, 2, 0⟩]
def P1 : List Wn := [⟨0, 2, 1⟩]
def P2 : List Wn := [⟨0, 2, 1⟩, ⟨1, 1, 1⟩]
theorem askg1 : askE X2 [] 0 1 2 = 0 := by
  unfold askE
  rw [if_pos (by decide), if_pos (show (X2.tx (Int.toNat 0)).s = 1 from (tops2.each 0 (by decide)).2), if_pos (show agL X2 0 1 2 [] = [] from rfl)]
theorem hit_block {T : Tr} {tx b md : Int} {y : Lk} (h : y.b ≠ b) : y ∈ [y] → agL T tx b md [y] = [] := fun _ => by
  refine List.eq_nil_iff_forall_not_mem.2 fun z hz => ?_
  obtain ⟨u, hu, _, h2, _⟩ := agL_iff.1 hz
  have : u = y := by simpa using hu
  rw [this] at h2
  exact h h2
theorem askg2 : askE X2 G1 1 2 2 = 0 := by
  unfold askE
  rw [if_pos (by decide), if_pos (show (X2.tx (Int.toNat 1)).s = 1 from (tops2.each 1 (by decide)).2), if_pos (show agL X2 1 2 2 G1 = [] from hit_block (y := ⟨1, 0, 2, 0⟩) (by decide) (by simp))]
theorem aptg : Apt X2 [] := (apt_nil.begun (tops_nil.may (by decide))).begun (T := X1) (tops1.may (by decide))
theorem aptg1 : Apt X2 G1 := aptg.ask (by decide) (.inr rfl) askg1
theorem aptg2 : Apt X2 G2 := aptg1.ask (by decide) (.inr rfl) askg2
theorem sqp0 : SQ [] := ⟨by decide, by simp, List.Pairwise.nil⟩
theorem sqp1 : SQ P1 := ⟨by decide, by simp [P1]; exact ⟨by decide, by decide, .inl rfl⟩, List.pairwise_singleton _ _⟩
theorem sqp2 : SQ P2 := ⟨by decide, by simp [P2]; exact ⟨⟨by decide, by decide, .inl rfl⟩, ⟨by decide, by decide, .inl rfl⟩⟩, by simp [P2]⟩
theorem ag01 : 1 ∈ agL X2 0 2 1 G2 := agL_iff.2 ⟨⟨2, 1, 2, 0⟩, by simp [G2], rfl, rfl, by decide, by
  have := tops2.stands (i := 0) (by decide) 1
  exact this⟩
theorem ag10 : 0 ∈ agL X2 1 1 1 G2 := agL_iff.2 ⟨⟨1, 0, 2, 0⟩, by simp [G2], rfl, rfl, by decide, by
  have := tops2.stands (i := 1) (by decide) 0
  exact this⟩
theorem edg01 : (0, 1) ∈ edgL X2 G2 P2 := edgL_mem.2 ⟨0, by decide, rfl, (outN_iff (by decide)).2 (.inl ag01)⟩
theorem edg10 : (1, 0) ∈ edgL X2 G2 P2 := edgL_mem.2 ⟨1, by decide, rfl, (outN_iff (by decide)).2 (.inl ag10)⟩
theorem stk_p2 : stuckL X2 (edgL X2 G2 P2) = [0, 1] := by
  classical
  refine up_one ?_ (by simp) fun x => ?_
  · unfold stuckL stuckN
    exact List.Pairwise.filter _ List.pairwise_lt_range
  · rw [stuckL_mem]
    have hn : X2.l.length = 2 := tops2.n
    constructor
    · rintro ⟨y, _, h2, _⟩
      rw [hn] at h2
      have : x = 0 ∨ x = 1 := by omega
      rcases this with h | h <;> simp [h]
    · intro h
      have : x = 0 ∨ x = 1 := by simpa using h
      rcases this with rfl | rfl
      · exact ⟨1, edg01, by omega, by omega, .step ⟨⟨by omega, by omega⟩, .inl edg10⟩ (.refl _)⟩
      · exact ⟨0, edg10, by omega, by omega, .step ⟨⟨by omega, by omega⟩, .inl edg01⟩ (.refl _)⟩
theorem vic_p2 : vicI X2 (edgL X2 G2 P2) = 1 := by unfold vicI; rw [stk_p2]; rfl

set_option maxHeartbeats 2000000 in
theorem awake_any (w : World) : Calls Tryz.prog 5 #[] w fun e w' => e = .returned (.bool true) ∧ Below w.heap.size w w' := by
  go_enter Tryz.func5, Tryz.ntmps5
  go_wp2_with fail
  refine (top_any none ⟨[], 0⟩ 0 0 w tops_nil (by decide) (.inl ⟨rfl, rfl⟩)).mono ?_
  rintro e w1 ⟨A1, k1, rfl, hx1, hb1⟩
  have HX1 := Lib.hid (show TxAt w1 A1 X1.l from hx1)
  have HB1 := Lib.hid hb1
  clear hx1 hb1
  obtain ⟨g, hg⟩ : ∃ g, g = w1.heap.size := ⟨_, rfl⟩
  go_upto_region 2 with (first | (refine wpList_store_tree rfl (.tmp 1) (.tmp 15) rfl rfl rfl (TB.new w1 none 0 0 0) ?_; intro w2 hu hg2; have HU2 := Lib.hid hu; have HG2 := Lib.hid hg2; clear hu hg2) | fail)
  rw [← hg]
  rw [← hg] at HU2 HG2
  have t2 : Below w1.heap.size w1 w2 := (below_new w1 _).grown HG2.out (by simp) (fun k e => by injection e with e; omega)
  have HT2 := Lib.hid (show Tp w2 g A1 1 k1 1 X1 from ⟨HU2.out, HX1.out.below t2, tops1.n, tops1.c⟩)
  have HB2 := Lib.hid (HB1.out.trans (t2.mono HB1.out.size))
  have HGW := Lib.hid (show w.heap.size ≤ g by rw [hg]; exact HB1.out.size)
  clear t2 hg HG2 HX1 HB1 HU2
  have c0 := HT2.out.t.c0
  have c1 := HT2.out.t.c1
  go_wp2_with fail
  refine (top_any A1 X1 1 k1 w2 tops1 (by decide) HT2.out.x).mono ?_
  rintro e w3 ⟨A3, k3, rfl, hx3, hb3⟩
  have HX3 := Lib.hid (show TxAt w3 A3 X2.l from hx3)
  have HU3 := Lib.hid (HT2.out.t.below hb3)
  have HB3 := Lib.hid (HB2.out.trans (hb3.mono HB2.out.size))
  clear hx3 hb3 c0 c1 HB2 HT2
  go_upto_region 3 with (first | (refine wpList_store_tree rfl (.tmp 1) (.tmp 21) rfl rfl rfl HU3.out ?_; intro w4 hu hg2; have HU4 := Lib.hid hu; have HG4 := Lib.hid hg2; clear hu hg2) | fail)
  have HT4 := Lib.hid (show Tp w4 g A3 2 k3 2 X2 from ⟨HU4.out, HX3.out.box HU3.out HG4.out, tops2.n, tops2.c⟩)
  have HB4 := Lib.hid (HB3.out.grown HG4.out HB3.out.size (fun k e => by injection e with e; have := HGW.out; omega))
  clear HX3 HB3 HU3 HG4 HU4
  have c0 := HT4.out.t.c0
  have c1 := HT4.out.t.c1
  go_wp2_with fail
  refine (askt_any none [] 0 0 A3 X2 2 k3 2 0 1 2 w4 rfl (Nat.le_refl _) (.inl rfl) lg_nil tops2.n tops2.good (by decide) (.inr rfl) askg1 1 rfl (.inl rfl) HT4.out.x).mono ?_
  rintro e w5 ⟨B5, m5, rfl, hk5, hs5, hl5, hb5⟩
  have HK5 := Lib.hid hk5
  have HS5 := Lib.hid hs5
  have HL5 := Lib.hid (show LkAt w5 B5 G1 from hl5)
  have HT5 := Lib.hid (HT4.out.below hb5)
  have HB5 := Lib.hid (HB4.out.trans (hb5.mono HB4.out.size))
  clear hk5 hs5 hl5 hb5 c0 c1 HB4 HT4
  obtain ⟨h, hh⟩ : ∃ h, h = w5.heap.size := ⟨_, rfl⟩
  go_upto_region 4 with (first | (refine wpList_store_table rfl (.tmp 6) (.tmp 29) rfl rfl rfl (KB.new w5 none 0 0) ?_; intro w6 hu hg2; have HU6 := Lib.hid hu; have HG6 := Lib.hid hg2; clear hu hg2) | fail)
  rw [← hh]
  rw [← hh] at HU6 HG6
  have t6 : Below w5.heap.size w5 w6 := (below_new w5 _).grown HG6.out (by simp) (fun k e => by injection e with e; omega)
  have HL6 := Lib.hid (show Lp w6 h B5 1 m5 G1 from ⟨HU6.out, HL5.out.below t6, rfl, HK5.out, HS5.out⟩)
  have HT6 := Lib.hid (HT5.out.below t6)
  have HB6 := Lib.hid (HB5.out.trans (t6.mono HB5.out.size))
  have HGH := Lib.hid (show g < h by rw [hh]; exact HT5.out.t.lt)
  clear t6 hh HG6 HL5 HK5 HS5 HB5 HU6 HT5
  have c0 := HT6.out.t.c0
  have c1 := HT6.out.t.c1
  have c2 := HL6.out.t.c0
  go_wp2_with fail
  refine (askt_any B5 G1 1 m5 A3 X2 2 k3 2 1 2 2 w6 rfl HL6.out.hk HL6.out.s aptg1.tab tops2.n tops2.good (by decide) (.inr rfl) askg2 2 rfl HL6.out.x HT6.out.x).mono ?_
  rintro e w7 ⟨B7, m7, rfl, hk7, hs7, hl7, hb7⟩
  have HK7 := Lib.hid hk7
  have HS7 := Lib.hid hs7
  have HL7 := Lib.hid (show LkAt w7 B7 G2 from hl7)
  have HT7 := Lib.hid (HT6.out.below hb7)
  have HU7 := Lib.hid (HL6.out.t.below hb7)
  have HB7 := Lib.hid (HB6.out.trans (hb7.mono HB6.out.size))
  clear hk7 hs7 hl7 hb7 c0 c1 c2 HB6 HT6 HL6
  go_upto_region 5 with (first | (refine wpList_store_table rfl (.tmp 6) (.tmp 36) rfl rfl rfl HU7.out ?_; intro w8 hu hg2; have HU8 := Lib.hid hu; have HG8 := Lib.hid hg2; clear hu hg2) | fail)
  have HL8 := Lib.hid (show Lp w8 h B7 2 m7 G2 from ⟨HU8.out, HL7.out.boxK HU7.out HG8.out, rfl, HK7.out, HS7.out⟩)
  have HT8 := Lib.hid (HT7.out.farK HU7.out HG8.out (by have := HGH.out; omega))
  have HB8 := Lib.hid (HB7.out.grown HG8.out HB7.out.size (fun k e => by injection e with e; have := HGW.out; have := HGH.out; omega))
  clear HL7 HT7 HB7 HU7 HU8 HG8 HK7 HS7
  go_wp2_with fail
  refine (addq_any none [] 0 0 w8 rfl (Nat.le_refl _) (.inl rfl) sqp0 ⟨0, 2, 1⟩ ⟨by decide, by decide, .inl rfl⟩ rfl (.inl rfl)).mono ?_
  rintro e w9 ⟨C9, n9, rfl, hk9, hs9, hl9, hb9⟩
  have HK9 := Lib.hid hk9
  have HS9 := Lib.hid hs9
  have HQ9 := Lib.hid (show RW.At w9 C9 P1 from hl9)
  have HT9 := Lib.hid (HT8.out.below hb9)
  have HL9 := Lib.hid (HL8.out.below hb9)
  have HB9 := Lib.hid (HB8.out.trans (hb9.mono HB8.out.size))
  clear hk9 hs9 hl9 hb9 HB8 HT8 HL8
  obtain ⟨q, hq⟩ : ∃ q, q = w9.heap.size := ⟨_, rfl⟩
  go_upto_region 6 with (first | (refine wpList_store_queue rfl (.tmp 8) (.tmp 43) rfl rfl rfl (Bk.new w9 #[.slice none 0 0] _) ?_; intro w10 hu hg2; have HU10 := Lib.hid hu; have HG10 := Lib.hid hg2; clear hu hg2) | fail)
  rw [← hq]
  rw [← hq] at HU10 HG10
  have t10 : Below w9.heap.size w9 w10 := (below_new w9 _).grown HG10.out (by simp) (fun k e => by injection e with e; omega)
  have HQ10 := Lib.hid (show Qp w10 q C9 1 n9 P1 from ⟨HU10.out, HQ9.out.below t10, rfl, HK9.out, HS9.out⟩)
  have HT10 := Lib.hid (HT9.out.below t10)
  have HL10 := Lib.hid (HL9.out.below t10)
  have HB10 := Lib.hid (HB9.out.trans (t10.mono HB9.out.size))
  have HHQ := Lib.hid (show h < q by rw [hq]; exact HL9.out.t.lt)
  clear t10 hq HG10 HQ9 HK9 HS9 HB9 HU10 HT9 HL9
  have c3 := HQ10.out.t.c 0 _ rfl
  go_wp2_with fail
  refine (addq_any C9 P1 1 n9 w10 rfl HQ10.out.hk HQ10.out.s sqp1 ⟨1, 1, 1⟩ ⟨by decide, by decide, .inl rfl⟩ rfl HQ10.out.x).mono ?_
  rintro e w11 ⟨C11, n11, rfl, hk11, hs11, hl11, hb11⟩
  have HK11 := Lib.hid hk11
  have HS11 := Lib.hid hs11
  have HQ11 := Lib.hid (show RW.At w11 C11 P2 from hl11)
  have HU11 := Lib.hid (HQ10.out.t.below hb11)
  have HT11 := Lib.hid (HT10.out.below hb11)
  have HL11 := Lib.hid (HL10.out.below hb11)
  have HB11 := Lib.hid (HB10.out.trans (hb11.mono HB10.out.size))
  clear hk11 hs11 hl11 hb11 HB10 HT10 HL10 HQ10 c3
  go_upto_region 7 with (first | (refine wpList_store_queue rfl (.tmp 8) (.tmp 50) rfl rfl rfl HU11.out ?_; intro w12 hu hg2; have HU12 := Lib.hid hu; have HG12 := Lib.hid hg2; clear hu hg2) | fail)
  have HQ12 := Lib.hid (show Qp w12 q C11 2 n11 P2 from ⟨HU12.out, RW_store HQ11.out HU11.out rfl (by simp) HG12.out, rfl, HK11.out, HS11.out⟩)
  have HT12 := Lib.hid (HT11.out.farQ HU11.out HG12.out (by have := HGH.out; have := HHQ.out; omega))
  have HL12 := Lib.hid (HL11.out.farQ HU11.out HG12.out (by have := HHQ.out; omega))
  have HB12 := Lib.hid (HB11.out.grown HG12.out HB11.out.size (fun k e => by injection e with e; have := HGW.out; have := HGH.out; have := HHQ.out; omega))
  clear HQ11 HU11 HU12 HG12 HK11 HS11 HB11 HT11 HL11
  have c0 := HT12.out.t.c0
  have c1 := HT12.out.t.c1
  have c2 := HL12.out.t.c0
  have c3 := HQ12.out.t.c 0 _ rfl
  have HSTK := Lib.hid (stuck_any C11 P2 2 n11 B7 G2 2 m7 A3 X2 2 k3 2 sqp2 rfl aptg2.tab rfl HL12.out.hk tops2.good tops2.n w12 HQ12.out.x HL12.out.x HT12.out.x)
  rw [stk_p2] at HSTK
  go_wp2_with fail
  refine HSTK.out.mono ?_
  rintro e w13 ⟨D, d, rfl, _, _, _, hb13⟩
  have HQ13 := Lib.hid (HQ12.out.below hb13)
  have HT13 := Lib.hid (HT12.out.below hb13)
  have HL13 := Lib.hid (HL12.out.below hb13)
  have HB13 := Lib.hid (HB12.out.trans (hb13.mono HB12.out.size))
  clear hb13 c0 c1 c2 c3 HQ12 HT12 HL12 HB12
  have c0 := HT13.out.t.c0
  have c1 := HT13.out.t.c1
  have c2 := HL13.out.t.c0
  have c3 := HQ13.out.t.c 0 _ rfl
  have HVIC := Lib.hid (victim_any C11 P2 2 n11 B7 G2 2 m7 A3 X2 2 k3 2 sqp2 rfl aptg2.tab rfl HL13.out.hk tops2.good tops2.n w13 HQ13.out.x HL13.out.x HT13.out.x)
  rw [vic_p2] at HVIC
  go_wp2_with fail
  refine HVIC.out.mono ?_
  rintro e w14 ⟨rfl, hb14⟩
  have HB14 := Lib.hid (HB13.out.trans (hb14.mono HB13.out.size))
  clear hb14 c0 c1 c2 c3
  go_wp2_with fail
  go_ret
  exact ⟨rfl, HB14.out⟩
end Go.Proofs.YtbokhhialfbjcaaGreat
