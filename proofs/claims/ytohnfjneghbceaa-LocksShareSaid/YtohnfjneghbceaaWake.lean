/-
  The statements' example: one that writes a block; one in it may read it, another top one may not.
-/
import Derived.Test.YtohnfjneghbceaaState
namespace Go.Proofs.Ytohnfjneghbceaa
set_option maxRecDepth 100000
set_option linter.unusedVariables false
open Go.RowKit Go.Shelf

def T1 : Tr := ⟨[⟨-1, 1, 1, 0⟩], 1⟩
def T2 : Tr := ⟨[⟨-1, 1, 1, 0⟩, ⟨0, 1, 2, 0⟩], 2⟩
def T3 : Tr := ⟨[⟨-1, 1, 1, 0⟩, ⟨0, 1, 2, 0⟩, ⟨-1, 1, 3, 0⟩], 3⟩
theorem way0 (T : Tr) (h : (T.tx 0).p < 0) : wayN T.par 0 = [0] := wayN_top h
theorem may1 : MayBegin ⟨[], 0⟩ (-1) := ⟨.inl rfl, by decide, by simp [Tr.way]⟩
theorem may2 : MayBegin T1 0 := ⟨.inr ⟨0, rfl, by decide, rfl⟩, by decide, by
  rw [show (0 : Int) = ((0 : Nat) : Int) from rfl, Tr.way_nat (by decide), way0 T1 (by decide)]
  decide⟩
theorem may3 : MayBegin T2 (-1) := ⟨.inl rfl, by decide, by simp [Tr.way]⟩
theorem good1 : Good T1 := Good.begun (T := ⟨[], 0⟩) (p := -1) good_nil may1
theorem good2 : Good T2 := good1.begun may2
theorem good3 : Good T3 := good2.begun may3
theorem way3a : wayN T3.par 1 = [1, 0] := by rw [wayN_up (f := T3.par) (i := 1) (j := 0) rfl (by decide), way0 T3 (by decide)]
theorem way3b : wayN T3.par 2 = [2] := wayN_top (by decide)

def K1 : List Lk := [⟨5, 0, 2, 0⟩]
def K2 : List Lk := [⟨5, 0, 2, 0⟩, ⟨5, 1, 1, 0⟩]
theorem ask1 : askE T3 [] 0 5 2 = 0 := by
  unfold askE
  rw [if_pos (by decide), if_pos (show (T3.tx (Int.toNat 0)).s = 1 from rfl), if_pos (show agL T3 0 5 2 [] = [] from rfl)]
theorem st10 : T3.stands 1 0 = true := (stands_of (T := T3) (i := 1) (of := 0) (by decide)).2 (by rw [way3a]; simp)
theorem st20 : T3.stands 2 0 = false := by
  have h := stands_of (T := T3) (i := 2) (of := 0) (by decide)
  rw [way3b] at h
  cases hh : T3.stands 2 0 with
  | false => rfl
  | true => exact absurd (h.1 hh) (by simp)
theorem ag2 : agL T3 1 5 1 K1 = [] := by
  unfold agL K1
  have : hit T3 1 5 1 ⟨5, 0, 2, 0⟩ = false := by unfold hit; simp only; rw [st10]; simp
  rw [List.filter_cons, this]
  rfl
theorem ask2 : askE T3 K1 1 5 1 = 0 := by
  unfold askE
  rw [if_pos (by decide), if_pos (show (T3.tx (Int.toNat 1)).s = 1 from rfl), if_pos ag2]
theorem ag3 : agL T3 2 5 1 K2 ≠ [] := by
  unfold agL K2
  have : hit T3 2 5 1 ⟨5, 0, 2, 0⟩ = true := by unfold hit; simp only; rw [st20]; rfl
  rw [List.filter_cons, this]
  simp
theorem ask3 : askE T3 K2 2 5 1 = 9 := by
  unfold askE
  rw [if_pos (by decide), if_pos (show (T3.tx (Int.toNat 2)).s = 1 from rfl), if_neg ag3]
theorem apt3 : Apt T3 [] := ((apt_nil.begun may1).begun (T := T1) may2).begun (T := T2) may3
theorem apk1 : Apt T3 K1 := apt3.ask (by decide) (.inr rfl) ask1
theorem apk2 : Apt T3 K2 := apk1.ask (by decide) (.inl rfl) ask2
theorem askl1 : askL T3 [] 0 5 2 = K1 := by unfold askL; rw [if_pos ask1]; rfl
theorem askl2 : askL T3 K1 1 5 1 = K2 := by unfold askL; rw [if_pos ask2]; rfl

theorem aw1 (w : World) : Calls Try.prog 20 #[.agg #[.slice none 0 0, .int .i64 0], .int .i64 (-1)] w fun e w' => ∃ A k, e = .returned (.tuple #[.agg #[.slice A 1 k, .int .i64 1], .int .i64 0, .int .i64 0]) ∧ TxAt w' A T1.l ∧ Below w.heap.size w w' := by
  refine (begin_any none ⟨[], 0⟩ 0 0 0 (-1) rfl good_nil rfl (by decide) w (.inl ⟨rfl, rfl⟩)).mono ?_
  rintro e w1 ⟨hb, ⟨_, A, k, n, rfl, rfl, htx⟩ | ⟨_, _, hno, _⟩⟩
  · exact ⟨A, k, rfl, htx, hb⟩
  · exact absurd may1 hno
theorem aw2 (A : Option Addr) (k : Nat) (w : World) (h : TxAt w A T1.l) : Calls Try.prog 20 #[.agg #[.slice A 1 k, .int .i64 1], .int .i64 0] w fun e w' => ∃ A k, e = .returned (.tuple #[.agg #[.slice A 2 k, .int .i64 2], .int .i64 1, .int .i64 0]) ∧ TxAt w' A T2.l ∧ Below w.heap.size w w' := by
  refine (begin_any A T1 1 k 1 0 rfl good1 rfl (by decide) w h).mono ?_
  rintro e w1 ⟨hb, ⟨_, A, k, n, rfl, rfl, htx⟩ | ⟨_, _, hno, _⟩⟩
  · exact ⟨A, k, rfl, htx, hb⟩
  · exact absurd may2 hno
theorem aw3 (A : Option Addr) (k : Nat) (w : World) (h : TxAt w A T2.l) : Calls Try.prog 20 #[.agg #[.slice A 2 k, .int .i64 2], .int .i64 (-1)] w fun e w' => ∃ A k, e = .returned (.tuple #[.agg #[.slice A 3 k, .int .i64 3], .int .i64 2, .int .i64 0]) ∧ TxAt w' A T3.l ∧ Below w.heap.size w w' := by
  refine (begin_any A T2 2 k 2 (-1) rfl good2 rfl (by decide) w h).mono ?_
  rintro e w1 ⟨hb, ⟨_, A, k, n, rfl, rfl, htx⟩ | ⟨_, _, hno, _⟩⟩
  · exact ⟨A, k, rfl, htx, hb⟩
  · exact absurd may3 hno
theorem ak1 (Ax : Option Addr) (k : Nat) (w : World) (h : TxAt w Ax T3.l) : Calls Try.prog 32 #[.agg #[.slice none 0 0], .agg #[.slice Ax 3 k, .int .i64 3], .int .i64 0, .int .i64 5, .int .i64 2] w fun e w' => ∃ A k, e = .returned (.tuple #[.agg #[.slice A 1 k], .int .i64 0]) ∧ 1 ≤ k ∧ Sp A ∧ LkAt w' A K1 ∧ Below w.heap.size w w' := by
  refine (ask_any none [] 0 0 rfl (Nat.le_refl _) (.inl rfl) lg_nil Ax T3 3 k 3 rfl good3 0 5 2 (by decide) (.inr rfl) w (.inl rfl) h).mono ?_
  rintro e w1 ⟨A, n, k1, rfl, ho, hb⟩
  rw [askl1] at ho
  obtain ⟨h1, h2, h3, h4⟩ := ho.parts
  have hn : n = 1 := h1.symm
  subst hn
  rw [ask1]
  exact ⟨A, k1, rfl, h2, h3, h4, hb⟩
theorem ak2 (B Ax : Option Addr) (kb k : Nat) (w : World) (hk : 1 ≤ kb) (hs : Sp B) (hl : LkAt w B K1) (h : TxAt w Ax T3.l) : Calls Try.prog 32 #[.agg #[.slice B 1 kb], .agg #[.slice Ax 3 k, .int .i64 3], .int .i64 1, .int .i64 5, .int .i64 1] w fun e w' => ∃ A k, e = .returned (.tuple #[.agg #[.slice A 2 k], .int .i64 0]) ∧ 2 ≤ k ∧ Sp A ∧ LkAt w' A K2 ∧ Below w.heap.size w w' := by
  refine (ask_any B K1 1 kb rfl hk hs apk1.tab Ax T3 3 k 3 rfl good3 1 5 1 (by decide) (.inl rfl) w hl h).mono ?_
  rintro e w1 ⟨A, n, k1, rfl, ho, hb⟩
  rw [askl2] at ho
  obtain ⟨h1, h2, h3, h4⟩ := ho.parts
  have hn : n = 2 := h1.symm
  subst hn
  rw [ask2]
  exact ⟨A, k1, rfl, h2, h3, h4, hb⟩
theorem ak3 (B Ax : Option Addr) (kb k : Nat) (w : World) (hk : 2 ≤ kb) (hs : Sp B) (hl : LkAt w B K2) (h : TxAt w Ax T3.l) : Calls Try.prog 32 #[.agg #[.slice B 2 kb], .agg #[.slice Ax 3 k, .int .i64 3], .int .i64 2, .int .i64 5, .int .i64 1] w fun e w' => ∃ A n k, e = .returned (.tuple #[.agg #[.slice A n k], .int .i64 9]) ∧ Below w.heap.size w w' := by
  refine (ask_any B K2 2 kb rfl hk hs apk2.tab Ax T3 3 k 3 rfl good3 2 5 1 (by decide) (.inl rfl) w hl h).mono ?_
  rintro e w1 ⟨A, n, k1, rfl, ho, hb⟩
  rw [ask3]
  exact ⟨A, n, k1, rfl, hb⟩

set_option maxHeartbeats 2000000 in
theorem awake_any (w : World) : Calls Try.prog 25 #[] w fun e w' => e = .returned (.bool true) ∧ Below w.heap.size w w' := by
  go_enter Try.func25, Try.ntmps25
  go_wp2_with fail
  refine (aw1 w).mono ?_
  rintro e w1 ⟨A1, k1, rfl, hx1, hb1⟩
  have HX1 := Lib.hid hx1
  have HB1 := Lib.hid hb1
  clear hx1 hb1
  obtain ⟨g, hg⟩ : ∃ g, g = w1.heap.size := ⟨_, rfl⟩
  go_upto_region 2 with (first | (refine wpList_store_tree rfl (.tmp 1) (.tmp 17) rfl rfl rfl (TB.new w1 none 0 0 0) ?_; intro w2 hu hg2; have HU2 := Lib.hid hu; have HG2 := Lib.hid hg2; clear hu hg2) | fail)
  rw [← hg]
  rw [← hg] at HU2 HG2
  have t2 : Below w1.heap.size w1 w2 := (below_new w1 _).grown HG2.out (by simp) (fun k e => by injection e with e; omega)
  have HX2 := Lib.hid (HX1.out.below t2)
  have HB2 := Lib.hid (HB1.out.trans (t2.mono HB1.out.size))
  have HGW := Lib.hid (show w.heap.size ≤ g by rw [hg]; exact HB1.out.size)
  clear t2 hg HG2 HX1 HB1
  have c0 := HU2.out.c0
  have c1 := HU2.out.c1
  go_wp2_with fail
  refine (aw2 A1 k1 w2 HX2.out).mono ?_
  rintro e w3 ⟨A3, k3, rfl, hx3, hb3⟩
  have HX3 := Lib.hid hx3
  have HU3 := Lib.hid (HU2.out.below hb3)
  have HB3 := Lib.hid (HB2.out.trans (hb3.mono HB2.out.size))
  clear hx3 hb3 c0 c1 HX2 HB2 HU2
  go_upto_region 3 with (first | (refine wpList_store_tree rfl (.tmp 1) (.tmp 24) rfl rfl rfl HU3.out ?_; intro w4 hu hg2; have HU4 := Lib.hid hu; have HG4 := Lib.hid hg2; clear hu hg2) | fail)
  have HX4 := Lib.hid (HX3.out.box HU3.out HG4.out)
  have HB4 := Lib.hid (HB3.out.grown HG4.out HB3.out.size (fun k e => by injection e with e; have := HGW.out; omega))
  clear HX3 HB3 HU3 HG4
  have c0 := HU4.out.c0
  have c1 := HU4.out.c1
  go_wp2_with fail
  refine (aw3 A3 k3 w4 HX4.out).mono ?_
  rintro e w5 ⟨A5, k5, rfl, hx5, hb5⟩
  have HX5 := Lib.hid hx5
  have HU5 := Lib.hid (HU4.out.below hb5)
  have HB5 := Lib.hid (HB4.out.trans (hb5.mono HB4.out.size))
  clear hx5 hb5 c0 c1 HX4 HB4 HU4
  go_upto_region 4 with (first | (refine wpList_store_tree rfl (.tmp 1) (.tmp 30) rfl rfl rfl HU5.out ?_; intro w6 hu hg2; have HU6 := Lib.hid hu; have HG6 := Lib.hid hg2; clear hu hg2) | fail)
  have HX6 := Lib.hid (HX5.out.box HU5.out HG6.out)
  have HB6 := Lib.hid (HB5.out.grown HG6.out HB5.out.size (fun k e => by injection e with e; have := HGW.out; omega))
  clear HX5 HB5 HU5 HG6
  have c0 := HU6.out.c0
  have c1 := HU6.out.c1
  go_wp2_with fail
  refine (ak1 A5 k5 w6 HX6.out).mono ?_
  rintro e w7 ⟨B7, m7, rfl, hk7, hs7, hl7, hb7⟩
  have HK7 := Lib.hid hk7
  have HS7 := Lib.hid hs7
  have HL7 := Lib.hid hl7
  have HU7 := Lib.hid (HU6.out.below hb7)
  have HX7 := Lib.hid (HX6.out.below hb7)
  have HB7 := Lib.hid (HB6.out.trans (hb7.mono HB6.out.size))
  clear hk7 hs7 hl7 hb7 c0 c1 HX6 HB6 HU6
  go_upto_region 5 with (first | (refine wpList_store_table rfl (.tmp 8) (.tmp 38) rfl rfl rfl (KB.new w7 none 0 0) ?_; intro w8 hu hg2; have HK8 := Lib.hid hu; have HG8 := Lib.hid hg2; clear hu hg2) | fail)
  have t8 : Below w7.heap.size w7 w8 := (below_new w7 _).grown HG8.out (by simp) (fun k e => by injection e with e; omega)
  have HL8 := Lib.hid (HL7.out.below t8)
  have HX8 := Lib.hid (HX7.out.below t8)
  have HU8 := Lib.hid (HU7.out.below t8)
  have HB8 := Lib.hid (HB7.out.trans (t8.mono HB7.out.size))
  clear t8 HL7 HX7 HB7 HU7 HG8
  have c0 := HU8.out.c0
  have c1 := HU8.out.c1
  have c2 := HK8.out.c0
  go_wp2_with fail
  refine (ak2 B7 A5 m7 k5 w8 HK7.out HS7.out HL8.out HX8.out).mono ?_
  rintro e w9 ⟨B9, m9, rfl, hk9, hs9, hl9, hb9⟩
  have HK9 := Lib.hid hk9
  have HS9 := Lib.hid hs9
  have HL9 := Lib.hid hl9
  have HU9 := Lib.hid (HU8.out.below hb9)
  have HX9 := Lib.hid (HX8.out.below hb9)
  have HB9 := Lib.hid (HB8.out.trans (hb9.mono HB8.out.size))
  clear hk9 hs9 hl9 hb9 c0 c1 c2 HX8 HB8 HU8 HK8 HL8
  go_upto_region 6 with (first | (refine wpList_store_table rfl (.tmp 10) (.tmp 45) rfl rfl rfl (KB.new w9 none 0 0) ?_; intro w10 hu hg2; have HK10 := Lib.hid hu; have HG10 := Lib.hid hg2; clear hu hg2) | fail)
  have t8 : Below w9.heap.size w9 w10 := (below_new w9 _).grown HG10.out (by simp) (fun k e => by injection e with e; omega)
  have HL10 := Lib.hid (HL9.out.below t8)
  have HX10 := Lib.hid (HX9.out.below t8)
  have HU10 := Lib.hid (HU9.out.below t8)
  have HB10 := Lib.hid (HB9.out.trans (t8.mono HB9.out.size))
  clear t8 HL9 HX9 HB9 HU9 HG10
  have c0 := HU10.out.c0
  have c1 := HU10.out.c1
  have c2 := HK10.out.c0
  go_wp2_with fail
  refine (ak3 B9 A5 m9 k5 w10 HK9.out HS9.out HL10.out HX10.out).mono ?_
  rintro e w11 ⟨B11, n11, m11, rfl, hb11⟩
  have HK11 := Lib.hid (HK10.out.below hb11)
  have HB11 := Lib.hid (HB10.out.trans (hb11.mono HB10.out.size))
  clear hb11 c0 c1 c2
  go_upto_region 7 with (first | (refine wpList_store_table rfl (.tmp 12) (.tmp 52) rfl rfl rfl (KB.new w11 none 0 0) ?_; intro w12 hu hg2; have HG12 := Lib.hid hg2; clear hu hg2) | fail)
  have t8 : Below w11.heap.size w11 w12 := (below_new w11 _).grown HG12.out (by simp) (fun k e => by injection e with e; omega)
  have HB12 := Lib.hid (HB11.out.trans (t8.mono HB11.out.size))
  have c2 := (HK11.out.below t8).c0
  clear t8
  go_wp2
  go_ret
  exact ⟨rfl, HB12.out⟩
end Go.Proofs.Ytohnfjneghbceaa
