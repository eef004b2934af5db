/-
  TreeGrows' walk.
-/
import Derived.Test.YtohnfjneghbceaaOrderWalk
namespace Go.Proofs.Ytohnfjneghbceaa
set_option maxRecDepth 100000
set_option linter.unusedVariables false
open Go.RowKit Go.Shelf

theorem made_int {W : World} {P N : Nat} (h : W.ownsRow P 3 1 (.slice (some ⟨P, 0, none⟩) N N) N (madeCells (Value.int .i64 0).cells (N * 1)).toList) : Pl W P N (fun _ => 0) := by
  refine ⟨(h.lt P rfl).2, fun j hj => ⟨?_, h.frozenAt j⟩⟩
  rw [h.cellAt j (by omega)]
  simp [madeCells, Value.cells, hj, Nat.mod_one]

/-- which of the first i have been met -/
def mtf (l : List Nat) (i : Nat) (j : Nat) : Int := if j ∈ l.take i then 1 else 0
theorem mtf_succ {l : List Nat} {i x : Nat} (hx : l[i]? = some x) (j : Nat) : mtf l (i + 1) j = if j = x then 1 else mtf l i j := by
  unfold mtf
  rw [List.take_add_one, hx]
  simp only [Option.toList_some, List.mem_append, List.mem_singleton]
  by_cases h : j = x
  · simp [h]
  · simp [h]
theorem mtf_new {l : List Nat} {i x : Nat} (hn : l.Nodup) (hx : l[i]? = some x) : mtf l i x = 0 := by
  unfold mtf
  rw [if_neg]
  intro hm
  obtain ⟨k, hk, he⟩ := List.getElem_of_mem hm
  have hi : i < l.length := (List.getElem?_eq_some_iff.1 hx).1
  have hx2 : l[i] = x := (List.getElem?_eq_some_iff.1 hx).2
  have hk2 : k < i := by simp at hk; omega
  rw [List.getElem_take] at he
  exact (List.pairwise_iff_getElem.1 hn k i (by omega) hi hk2) (by rw [he, hx2])

set_option maxHeartbeats 8000000 in
theorem grows_walk (a : Option Addr) (len cap : Nat) (F G : Nat → Int) (w : World) (hacts : Acts w a len F G) :
    Calls Try.prog 3 #[.slice a len cap] w fun e w' => e = .returned (.bool true) ∧ Below w.heap.size w w' := by
  by_cases hlen : len ≤ 150
  · go_enter Try.func3, Try.ntmps3
    go_wp2_with fail
    refine (awake_any w).mono ?_
    rintro e w0 ⟨rfl, hb0⟩
    have HB0 := Lib.hid hb0
    have HAC := Lib.hid (show Acts w0 a len F G from by
      rcases hacts with h | ⟨b, o, e, hl, hc⟩
      · exact .inl h
      · exact .inr ⟨b, o, e, Nat.lt_of_lt_of_le hl hb0.size, fun i hi => ⟨(hb0.cell (p := ⟨b, o + i * 2, none⟩) hl).trans (hc i hi).1, (hb0.cell (p := ⟨b, o + i * 2 + 1, none⟩) hl).trans (hc i hi).2⟩⟩)
    clear hb0 hacts
    have hl1 : ¬ (150 : Int) < (len : Int) := by omega
    go_wp2_with fail
    refine (grown_any a len cap F G (by omega) w0 HAC.out).mono ?_
    rintro e w1 ⟨A, k, N, c, T, rfl, hN, hc, hcb, hG, hT, hb1⟩
    have HN := Lib.hid hN
    have HCc := Lib.hid hc
    have HG := Lib.hid hG
    have HB1 := Lib.hid (HB0.out.trans (hb1.mono HB0.out.size))
    have HT := Lib.hid hT
    have hn64 : N ≤ 64 := by have := hG.n; omega
    clear hN hc hG hT hb1 HB0 HAC
    obtain ⟨g, hg⟩ : ∃ g, g = w1.heap.size := ⟨_, rfl⟩
    go_upto_region 5 with (first | (refine wpList_store_tree rfl (.tmp 4) (.tmp 16) rfl rfl rfl (TB.new w1 none 0 0 0) ?_; intro w2 hb2 hg2; have HT2 := Lib.hid hb2; have HG2 := Lib.hid hg2; clear hb2 hg2) | fail)
    rw [← hg] at HT2 HG2 ⊢
    have t2 : Below w1.heap.size w1 w2 := (below_new w1 _).grown HG2.out (by simp) (fun k e => by injection e with e; omega)
    have HB2 := Lib.hid (HB1.out.trans (t2.mono HB1.out.size))
    have HX2 := Lib.hid (HT.out.below t2)
    clear t2 HG2 HB1 HT hg
    have c0 := HT2.out.c0
    have c1 := HT2.out.c1
    go_wp2_with fail
    refine (order_any A T N k c HN.out HG.out w2 HX2.out).mono ?_
    rintro e w3 ⟨A', n, k', told, rfl, rfl, hid, hoi, hb3, _⟩
    have HB3 := Lib.hid (HB2.out.trans (hb3.mono HB2.out.size))
    have HX3 := Lib.hid (HX2.out.below hb3)
    have HT3 := Lib.hid (HT2.out.below hb3)
    have HI3 := Lib.hid hid
    have HOI := Lib.hid hoi
    obtain ⟨M, hM⟩ : ∃ M, M = told.length := ⟨_, rfl⟩
    have hC2 := HCc.out
    have hM64 : M ≤ 64 := by
      have h := len_below N told (by simpa using hoi.nodup) (fun x hx => by rw [← HN.out]; exact (hoi.mem x (by simp [hx])).1)
      omega
    rw [← hM]
    have HM := Lib.hid hM
    clear hid hoi hb3 HB2 HX2 HT2 hM c0 c1
    obtain ⟨i0, hi, hz0, hz1, hz2⟩ := parts_of int_facts
    have c0 := HT3.out.c0
    have c1 := HT3.out.c1
    go_wp2_with (first | (refine wpList_make_full _ rfl _ _ _ rfl w3.heap.size 3 i0 _ 1 Try.underlying28 hi hz0 hz1 _ _ _ _ N rfl rfl rfl rfl (by rw [hz2]; omega) (by unfold maxLen; omega) (Nat.le_refl _) ?_; intro w5 hown5 hg5; have HPL := Lib.hid (made_int hown5); have HG5 := Lib.hid hg5; clear hown5 hg5 hi hz0 hz1 hz2) | fail)
    clear c0 c1
    have hS5 : Below w3.heap.size w3 w5 := (Below.refl _ w3).grown HG5.out (Nat.le_refl _) (fun k e => by cases e)
    have HS5 := Lib.hid hS5
    have HPS := Lib.hid (show w3.heap.size < w5.heap.size from HPL.out.1)
    clear HG5 hS5
    obtain ⟨P, hP⟩ : ∃ P, P = w3.heap.size := ⟨_, rfl⟩
    rw [← hP] at HPL HPS ⊢
    have HPP := Lib.hid hP
    clear hP
    go_loopw [7] (fun iv wr => ∃ i : Nat, iv = .int .i64 (i : Int) ∧ i ≤ M ∧ Hid (Pl wr P N (mtf told i)) ∧ Hid (Turn (fun k => k = P) w5 wr)) (fun iv _ => M - (intOf iv).toNat)
    case atStart => exact ⟨0, rfl, Nat.zero_le _, HPL.out, Turn.refl _ _⟩
    case round =>
      obtain ⟨i, rfl, hi, hpl, ht⟩ := hrel
      clear HPL
      rcases Nat.lt_or_ge i M with hlt | hge
      · obtain ⟨wz, hwz⟩ : ∃ wz, wz = wr := ⟨_, rfl⟩
        subst hwz
        obtain ⟨x, hx⟩ : ∃ x, x = told[i]'(by have := HM.out; omega) := ⟨_, rfl⟩
        have hxo : told[i]? = some x := by rw [List.getElem?_eq_getElem (by have := HM.out; omega), hx]
        have hxl := (HOI.out.mem x (by rw [hx]; simp)).1
        have hxN : x < N := by rw [← HN.out]; exact hxl
        obtain ⟨b3, hA3, hb3, cx⟩ := HI3.out.get2 hxo
        subst hA3
        have cz := ht.out.cell ((HS5.out.cell (p := ⟨b3, i, none⟩) hb3).trans cx) (by show ¬ b3 = P; have := HPP.out; omega)
        obtain ⟨kc, kf⟩ := hpl.out.2 x hxN
        rw [mtf_new (by simpa using HOI.out.nodup) hxo] at kc
        have HSET := Lib.hid (hpl.out.set (g := mtf told (i + 1)) hxN (d := 1) (mtf_succ hxo))
        have HTS := Lib.hid (ht.out.setCell ⟨P, x, none⟩ (.int .i64 1) (.inl rfl))
        have hx0 : ¬ (x : Int) < 0 := by omega
        have hxM : ¬ (N : Int) ≤ (x : Int) := by omega
        clear hx hxo hxl cx hpl ht
        go_wp2
        go_roundw
        case rel => exact ⟨i + 1, rfl, by omega, HSET.out, HTS.out⟩
        case measure => simp [intOf]; omega
      · obtain rfl : i = M := by omega
        have hbel : Below w3.heap.size w3 wr := HS5.out.trans (ht.out.below (fun k e => by have := HPP.out; omega) HS5.out.size)
        have HT6 := Lib.hid (HT3.out.below hbel)
        have HX6 := Lib.hid (HX3.out.below hbel)
        have HB6 := Lib.hid (HB3.out.trans (hbel.mono HB3.out.size))
        have HP6 := Lib.hid (show Pl wr P N (mtf told told.length) from by rw [← HM.out]; exact hpl.out)
        clear hbel ht hpl
        obtain ⟨w6, hw6⟩ : ∃ w6, w6 = wr := ⟨_, rfl⟩
        subst hw6
        have c0 := HT6.out.c0
        have c1 := HT6.out.c1
        go_wp2_with fail
        clear c0 c1
        go_loopw [8] (fun jv wr => ∃ j : Nat, jv = .int .i64 (j : Int) ∧ j ≤ N ∧ Hid (Below w6.heap.size w6 wr)) (fun jv _ => N - (intOf jv).toNat)
        case atStart => exact ⟨0, rfl, Nat.zero_le _, Below.refl _ _⟩
        case round =>
          obtain ⟨j, rfl, hj, hs⟩ := hrel
          have HTj := Lib.hid (HT6.out.below hs.out)
          have HXj := Lib.hid (HX6.out.below hs.out)
          have c0 := HTj.out.c0
          have c1 := HTj.out.c1
          rcases Nat.lt_or_ge j N with hlt | hge2
          · have hjl : j < T.l.length := by rw [HN.out]; exact hlt
            have HM6j := Lib.hid (HP6.out.below hs.out)
            have hfx := OI.fixed HG.out HOI.out j hjl
            have hmt : mtf told told.length j = if j ∈ told then 1 else 0 := by unfold mtf; rw [List.take_length]
            obtain ⟨d, hd⟩ : ∃ d, d = (T.way (j : Int)).length := ⟨_, rfl⟩
            have hd8 : d ≤ 8 := by
              rw [hd]
              unfold Tr.way
              split
              · exact HG.out.deep _ (by omega)
              · simp
            have hd8i : ¬ (8 : Int) < (d : Int) := by omega
            have HD := Lib.hid hd
            clear hd
            go_wp2_with fail
            refine (fixed_any A T N k c (j : Int) HN.out HG.out _ HXj.out).mono ?_
            rintro e w7 ⟨rfl, hb7⟩
            have HT7 := Lib.hid (HTj.out.below hb7)
            have HX7 := Lib.hid (HXj.out.below hb7)
            have HM7 := Lib.hid (HM6j.out.below hb7)
            have HR7 := Lib.hid (hs.out.trans (hb7.mono hs.out.size))
            clear hb7 HTj HXj HM6j hs c0 c1
            have c0 := HT7.out.c0
            have c1 := HT7.out.c1
            by_cases hf : T.fixed (j : Int) = true
            · have hm1 : mtf told told.length j = 1 := by rw [hmt, if_pos (hfx.2 hf)]
              have hx2 : (T.tx j).s = 2 := (fixed_nat hjl).1 hf j (wayN_self _ _)
              have hlo : T.lost (j : Int) = false := by
                cases h : T.lost (j : Int) with
                | false => rfl
                | true =>
                  obtain ⟨y, hy, h3⟩ := (lost_nat hjl).1 h
                  have := (fixed_nat hjl).1 hf y hy
                  omega
              rw [hf]
              clear hf hfx hmt
              have km := (HM7.out.2 j hlt).1
              rw [hm1] at km
              obtain ⟨b, hAe, _, _, p1, _, _⟩ := HX7.out.get hjl
              subst hAe
              rw [hx2] at p1
              clear p1
              go_wp2_with fail
              refine (lost_any (some ⟨b, 0, none⟩) T N k c (j : Int) HN.out HG.out _ HX7.out).mono ?_
              rintro e w8 ⟨rfl, hb8⟩
              rw [hlo]
              have HT8 := Lib.hid (HT7.out.below hb8)
              have HX8 := Lib.hid (HX7.out.below hb8)
              have HM8 := Lib.hid (HM7.out.below hb8)
              have HR8 := Lib.hid (HR7.out.trans (hb8.mono HR7.out.size))
              clear hb8 HT7 HX7 HM7 HR7 c0 c1
              have c0 := HT8.out.c0
              have c1 := HT8.out.c1
              clear km
              obtain ⟨b', hAe, _, _, p1, _, _⟩ := HX8.out.get hjl
              injection hAe with hAe
              injection hAe with hAe
              subst hAe
              rw [hx2] at p1
              go_wp2_with fail
              refine (deep_any (some ⟨b, 0, none⟩) T N k c (j : Int) HN.out HG.out _ HX8.out).mono ?_
              rintro e w9 ⟨rfl, hb9⟩
              rw [← HD.out]
              have HF := Lib.hid (HR8.out.trans (hb9.mono HR8.out.size))
              clear hb9
              go_wp2
              go_roundw
              case rel => exact ⟨j + 1, rfl, by omega, HF.out⟩
              case measure => simp [intOf]; omega
            · have hm0 : mtf told told.length j = 0 := by rw [hmt, if_neg (fun h => hf (hfx.1 h))]
              have hff : T.fixed (j : Int) = false := by simpa using hf
              rw [hff]
              clear hf hfx hmt hff
              obtain ⟨xs, hxs⟩ : ∃ xs, xs = (T.tx j).s := ⟨_, rfl⟩
              have km := (HM7.out.2 j hlt).1
              rw [hm0] at km
              obtain ⟨b, hAe, _, _, p1, _, _⟩ := HX7.out.get hjl
              subst hAe
              rw [← hxs] at p1
              by_cases hlv : xs = 1
              · have hlb : (xs == 1) = true := by simpa using hlv
                have hlo : T.lost (j : Int) = false := by
                  cases h : T.lost (j : Int) with
                  | false => rfl
                  | true =>
                    obtain ⟨y, hy, h3⟩ := (lost_nat hjl).1 h
                    have := (HG.out.nest j hjl y hy).1 (by rw [← hxs]; exact hlv)
                    omega
                clear hlv hxs
                go_wp2_with fail
                refine (lost_any (some ⟨b, 0, none⟩) T N k c (j : Int) HN.out HG.out _ HX7.out).mono ?_
                rintro e w8 ⟨rfl, hb8⟩
                rw [hlo]
                have HT8 := Lib.hid (HT7.out.below hb8)
                have HX8 := Lib.hid (HX7.out.below hb8)
                have HM8 := Lib.hid (HM7.out.below hb8)
                have HR8 := Lib.hid (HR7.out.trans (hb8.mono HR7.out.size))
                clear hb8 HT7 HX7 HM7 HR7 c0 c1
                have c0 := HT8.out.c0
                have c1 := HT8.out.c1
                clear km p1
                go_wp2_with fail
                refine (deep_any (some ⟨b, 0, none⟩) T N k c (j : Int) HN.out HG.out _ HX8.out).mono ?_
                rintro e w9 ⟨rfl, hb9⟩
                rw [← HD.out]
                have HF := Lib.hid (HR8.out.trans (hb9.mono HR8.out.size))
                clear hb9
                go_wp2
                go_roundw
                case rel => exact ⟨j + 1, rfl, by omega, HF.out⟩
                case measure => simp [intOf]; omega
              · have hlb : (xs == 1) = false := by simpa using hlv
                clear hlv hxs
                go_wp2_with fail
                refine (deep_any (some ⟨b, 0, none⟩) T N k c (j : Int) HN.out HG.out _ HX7.out).mono ?_
                rintro e w9 ⟨rfl, hb9⟩
                rw [← HD.out]
                have HF := Lib.hid (HR7.out.trans (hb9.mono HR7.out.size))
                clear hb9
                go_wp2
                go_roundw
                case rel => exact ⟨j + 1, rfl, by omega, HF.out⟩
                case measure => simp [intOf]; omega
          · obtain rfl : j = N := by omega
            go_wp2_with fail
            refine (sane_any A T j k c HN.out HG.out HCc.out (by omega) _ HXj.out).mono ?_
            rintro e w9 ⟨rfl, hb9⟩
            have HF := Lib.hid ((HB6.out.trans (hs.out.mono HB6.out.size)).trans (hb9.mono (HB6.out.trans (hs.out.mono HB6.out.size)).size))
            clear hb9
            go_wp2
            go_ret
            exact ⟨rfl, HF.out⟩
  · have hl1 : (150 : Int) < (len : Int) := by omega
    go_enter Try.func3, Try.ntmps3
    go_wp2_with fail
    refine (awake_any w).mono ?_
    rintro e w0 ⟨rfl, hb0⟩
    have HB0 := Lib.hid hb0
    clear hb0 hacts
    go_wp2
    go_ret
    exact ⟨rfl, HB0.out⟩

end Go.Proofs.Ytohnfjneghbceaa
