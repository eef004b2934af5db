/-
  What a sector of counters tells: the program's answer.
-/
import Derived.Test.YtknjkihcpcimpaaSg
import Derived.Test.YtknjkihcpcimpaaSf
import Derived.Test.YtknjkihcpcimpaaRof
namespace Go.Proofs.Ytknjkihcpcimpaa
set_option maxRecDepth 100000
set_option linter.unusedVariables false
set_option linter.unusedSimpArgs false
open Go.RowKit Crc Wm Pg

theorem c3C_putV (x : C3) (i : Nat) (hi : i < 3) (V : Int) : (c3C x).setIfInBounds (i * 2) (.int .i64 V) = c3C (C3.put x i ⟨V, (x.at_ i).L⟩) := by
  rcases i with _ | _ | _ | i <;> first | omega | rfl
theorem c3C_putL (x : C3) (i : Nat) (hi : i < 3) (L : Int) : (c3C x).setIfInBounds (i * 2 + 1) (.int .i64 L) = c3C (C3.put x i ⟨(x.at_ i).V, L⟩) := by
  rcases i with _ | _ | _ | i <;> first | omega | rfl
theorem C3.put_put (x : C3) (i : Nat) (hi : i < 3) (a b : Ce) : C3.put (C3.put x i a) i b = C3.put x i b := by
  rcases i with _ | _ | _ | i <;> first | omega | rfl
theorem C3.at_put (x : C3) (i : Nat) (hi : i < 3) (a : Ce) : (C3.put x i a).at_ i = a := by
  rcases i with _ | _ | _ | i <;> first | omega | rfl
theorem C3At.putV {w : World} {g t : Nat} {x : C3} (h : C3At w g t x) (j : Nat) (hj : j < 3) (V : Int) :
    C3At (w.setCell ⟨g, j * 2, none⟩ (.int .i64 V)) g t (C3.put x j ⟨V, (x.at_ j).L⟩) ∧ w.grownBy (w.setCell ⟨g, j * 2, none⟩ (.int .i64 V)) (some g) := by
  refine ⟨?_, setCell_grown _ _ _ _⟩
  show _ = _
  rw [setCell_eq_setRow w g (j * 2) (c3C x) t (0, 0) (.int .i64 V) h, setRow_heap _ _ _ _ _ _ h, c3C_putV x j hj V]
theorem C3At.putL {w : World} {g t : Nat} {x : C3} (h : C3At w g t x) (j : Nat) (hj : j < 3) (L : Int) :
    C3At (w.setCell ⟨g, j * 2 + 1, none⟩ (.int .i64 L)) g t (C3.put x j ⟨(x.at_ j).V, L⟩) ∧ w.grownBy (w.setCell ⟨g, j * 2 + 1, none⟩ (.int .i64 L)) (some g) := by
  refine ⟨?_, setCell_grown _ _ _ _⟩
  show _ = _
  rw [setCell_eq_setRow w g (j * 2 + 1) (c3C x) t (0, 0) (.int .i64 L) h, setRow_heap _ _ _ _ _ _ h, c3C_putL x j hj L]

theorem tell3_nil : tell3 nil64 = .zero := by decide +kernel

/-- what is told is what is laid, or the sector is the one of nothing -/
theorem oc_is {l : List UInt8} (h : whyE l = 0) : ((l == nil64 || l == padTo 64 (celS (tell3 l))) = true ∧ ocE l = 0 ∧ oc3 l = tell3 l) ∨ ((l == nil64 || l == padTo 64 (celS (tell3 l))) = false ∧ ocE l = 3 ∧ oc3 l = .zero) := by
  by_cases hz : l = nil64
  · left
    subst hz
    exact ⟨by rw [beq_self_eq_true]; rfl, ocE_nil, by rw [oc3_nil, tell3_nil]⟩
  · have e1 : (l == nil64) = false := beq_eq_false_iff_ne.2 hz
    rw [e1, Bool.false_or]
    by_cases hm : (tell3 l).May
    · have eb : celS (tell3 l) = sect (celTo (tell3 l) 3) := if_pos hm
      rw [eb, padTo_all (length_cel _)]
      by_cases hq : sect (celTo (tell3 l) 3) = l
      · left
        have h0 : ocE l = 0 := by rw [ocE_rest h hz, if_pos ⟨hm, hq⟩]
        exact ⟨by rw [hq, beq_self_eq_true], h0, oc3_ok h0 hz⟩
      · right
        have h0 : ocE l = 3 := by rw [ocE_rest h hz, if_neg (fun k => hq k.2)]
        exact ⟨beq_eq_false_iff_ne.2 (fun e => hq e.symm), h0, oc3_not (by rw [h0]; decide)⟩
    · right
      have eb : celS (tell3 l) = [] := if_neg hm
      have h0 : ocE l = 3 := by rw [ocE_rest h hz, if_neg (fun k => hm k.1)]
      rw [eb, padTo_none]
      exact ⟨beq_eq_false_iff_ne.2 hz, h0, oc3_not (by rw [h0]; decide)⟩

set_option maxHeartbeats 4000000 in
theorem ofcells_any (A : Option Addr) (c n : Nat) (l : List UInt8) (w : World) (hl : Lies w A c n l) (hn : n ≤ 1073741824) : Calls Try.prog 16 #[.slice A n c] w (OcOut w l) := by
  have HL := Lib.hid hl
  clear hl
  have hz : c3C .zero = #[.int .i64 0, .int .i64 0, .int .i64 0, .int .i64 0, .int .i64 0, .int .i64 0] := rfl
  have hs0 : C3At (w.alloc (.cells (c3C .zero) 32)) w.heap.size 32 .zero := heap_alloc_new w _
  have hb0 := below_new w (.cells (c3C .zero) 32)
  have hz0 : (w.alloc (.cells (c3C .zero) 32)).heap.size = w.heap.size + 1 := by simp
  rw [hz] at hs0 hb0 hz0
  have HS0 := Lib.hid hs0
  have HB0 := Lib.hid hb0
  have HZ0 := Lib.hid hz0
  clear hs0 hb0 hz0
  go_enter Try.func16, Try.ntmps16
  go_upto_region 1 with fail
  generalize w.alloc (.cells #[.int .i64 0, .int .i64 0, .int .i64 0, .int .i64 0, .int .i64 0, .int .i64 0] 32) = w0 at *
  go_wp2_with fail
  refine (opened_any A c n l w0 (HL.out.up HB0.out) hn).mono ?_
  rintro e w1 ⟨rfl, hb1⟩
  have HS1 := Lib.hid (HS0.out.below hb1)
  have HB1 := Lib.hid (HB0.out.trans (hb1.mono HB0.out.size))
  have HZ1 : Hid (w.heap.size < w1.heap.size) := Lib.hid (by have h1 := hb1.size; have h2 := HZ0.out; omega)
  have HSL := Lib.hid (opS_len (l := l))
  clear hb1 HS0 HB0 HZ0
  by_cases hE : whyE l = 0
  · have HLN := Lib.hid (whyE_len hE)
    have HIS := Lib.hid (oc_is hE)
    have HE := Lib.hid hE
    have HO := Lib.hid (opS_yes hE)
    clear hE HSL
    rw [HO.out, HE.out]
    go_upto_region 4 with (first
      | (refine wpList_alloc_sec 4 rfl rfl rfl ?_; intro u w2 hu hs2 hb2 hz2)
      | (refine wpList_store_sec hs2 rfl (.tmp 4) (.tmp 14) rfl rfl l HLN.out rfl ?_; intro w3 hs3 hg3))
    have HU : Hid (w.heap.size < u ∧ u < w3.heap.size) := Lib.hid (by have h1 := HZ1.out; have h2 := hu.out; have h3 := hs3.lt; omega)
    have HB3 := Lib.hid ((below_two HB1.out hb2).grown hg3 (below_two HB1.out hb2).size (fun k hk => by injection hk with hk; have := HU.out; omega))
    have HX3 := Lib.hid ((HS1.out.below hb2).far hg3 (by have := HU.out; omega))
    have HS3 := Lib.hid hs3
    clear hs2 hb2 hz2 hs3 hg3 hu HB1 HS1
    have hs4 : C3At (w3.alloc (.cells (c3C .zero) 32)) w3.heap.size 32 .zero := heap_alloc_new w3 _
    have hb4 := below_new w3 (.cells (c3C .zero) 32)
    have hz4 : (w3.alloc (.cells (c3C .zero) 32)).heap.size = w3.heap.size + 1 := by simp
    rw [hz] at hs4 hb4 hz4
    have HY4 := Lib.hid hs4
    have HB4 := Lib.hid (below_two HB3.out hb4)
    have HX4 := Lib.hid (HX3.out.below hb4)
    have HS4 := Lib.hid (HS3.out.below hb4)
    have HZ4 := Lib.hid hz4
    clear hs4 hb4 hz4 HB3 HX3 HS3
    go_upto_region 5 with fail
    generalize w3.alloc (.cells #[.int .i64 0, .int .i64 0, .int .i64 0, .int .i64 0, .int .i64 0, .int .i64 0] 32) = w4 at *
    have HG4 : Hid (u < w3.heap.size ∧ w3.heap.size < w4.heap.size) := Lib.hid (by have h1 := HU.out; have h2 := HZ4.out; omega)
    clear HZ4
    generalize w3.heap.size = g6 at *
    go_wp2_with (refine wpList_load_sec HS4.out rfl (.tmp 4) rfl rfl ?_)
    refine (numbers_any l HLN.out w4).mono ?_
    rintro e w5 ⟨r, g, rfl, hc5, hb5, hr5, hq5⟩
    have HC5 := Lib.hid hc5
    have HB5 := Lib.hid (below_two HB4.out hb5)
    have HX5 := Lib.hid (HX4.out.below hb5)
    have HY5 := Lib.hid (HY4.out.below hb5)
    have HS5 := Lib.hid (HS4.out.below hb5)
    have HR : Hid (w.heap.size < u ∧ u < g6 ∧ g6 < r ∧ g6 < g) := Lib.hid (by have h1 := HU.out; have h2 := HG4.out; omega)
    clear hc5 hb5 hr5 hq5 HB4 HX4 HY4 HS4 HU HG4 HZ1
    go_wp2_with fail
    go_loopg [8, 22] 3 (fun gn _ i wr => ∃ (j : Nat), i = .int .i64 (j : Int) ∧ j + gn = 3 ∧ Hid (Cur wr r 83 (some ⟨g, 2, none⟩) 62 62 (14 * j) (l.drop 2)) ∧ Hid (C3At wr w.heap.size 32 .zero) ∧ Hid (C3At wr g6 32 (toldTo l j)) ∧ Hid (SecAt wr u l) ∧ Hid (Below w.heap.size w wr))
    case atStart => exact ⟨0, rfl, by omega, HC5, HX5, HY5, HS5, HB5⟩
    case round =>
      obtain ⟨j, rfl, hog, HC, HX, HY, HS, HP⟩ := hrel
      rcases Nat.lt_or_ge j 3 with hlt | hge
      · have hdj : decide ((j : Int) < 3) = true := decide_eq_true (by omega)
        go_wp2_with fail
        refine (rsigned_ok HC.out (by omega)).mono ?_
        rintro e v1 ⟨rfl, hcur, hg⟩
        have HC1 : Hid (Cur v1 r 83 (some ⟨g, 2, none⟩) 62 62 (14 * j + 8) (l.drop 2)) := Lib.hid hcur
        have HX1 := Lib.hid (HX.out.far hg (by have := HR.out; omega))
        have HY1 := Lib.hid (HY.out.far hg (by have := HR.out; omega))
        have HS1 := Lib.hid (HS.out.far hg (by have := HR.out; omega))
        have HP1 := Lib.hid (HP.out.grown hg HP.out.size (fun k hk => by injection hk with hk; have := HR.out; omega))
        obtain ⟨V, hV⟩ : ∃ V, V = (tellC l j).V := ⟨_, rfl⟩
        have HV := Lib.hid hV
        have hV2 : sgnI (valB (((l.drop 2).drop (14 * j)).take 8) : Int) = V := by rw [List.drop_drop]; exact hV.symm
        rw [hV2]
        clear hcur hg HC HX HY HS HP hV hV2
        obtain ⟨c0, _⟩ := HY1.out.at_ j hlt
        have f0 := HY1.out.fr (j * 2)
        obtain ⟨hy2, hg2⟩ := HY1.out.putV j hlt V
        have HY2 := Lib.hid hy2
        have HC2 := Lib.hid (HC1.out.other hg2 (by have := HR.out; omega) (by have := HR.out; omega))
        have HX2 := Lib.hid (HX1.out.far hg2 (by have := HR.out; omega))
        have HS2 := Lib.hid (HS1.out.far hg2 (by have := HR.out; omega))
        have HP2 := Lib.hid (HP1.out.grown hg2 HP1.out.size (fun k hk => by injection hk with hk; have := HR.out; omega))
        clear hy2 hg2 HC1 HX1 HY1 HS1 HP1
        go_wp2_with fail
        clear c0 f0
        generalize v1.setCell ⟨g6, j * 2, none⟩ (.int .i64 V) = v2 at *
        refine (lsnof_any HC2.out (by omega)).mono ?_
        rintro e v3 ⟨rfl, hcur, hg⟩
        have HC3 : Hid (Cur v3 r 83 (some ⟨g, 2, none⟩) 62 62 (14 * (j + 1)) (l.drop 2)) := Lib.hid (by
          rw [show 14 * (j + 1) = 14 * j + 8 + 6 from by omega]; exact hcur)
        have HX3 := Lib.hid (HX2.out.far hg (by have := HR.out; omega))
        have HY3 := Lib.hid (HY2.out.far hg (by have := HR.out; omega))
        have HS3 := Lib.hid (HS2.out.far hg (by have := HR.out; omega))
        have HP3 := Lib.hid (HP2.out.grown hg HP2.out.size (fun k hk => by injection hk with hk; have := HR.out; omega))
        obtain ⟨X, hX⟩ : ∃ X, X = valB ((l.drop (10 + 14 * j)).take 6) := ⟨_, rfl⟩
        have HXL : Hid ((tellC l j).L = (X : Int)) := Lib.hid (by rw [hX]; rfl)
        have hX2 : valB (((l.drop 2).drop (14 * j + 8)).take 6) = X := by rw [List.drop_drop, show 2 + (14 * j + 8) = 10 + 14 * j from by omega]; exact hX.symm
        rw [hX2]
        clear hcur hg HC2 HX2 HY2 HS2 HP2 hX hX2
        obtain ⟨_, c1⟩ := HY3.out.at_ j hlt
        have f1 := HY3.out.fr (j * 2 + 1)
        obtain ⟨hy4, hg4⟩ := HY3.out.putL j hlt (X : Int)
        have HY4' : Hid (C3At (v3.setCell ⟨g6, j * 2 + 1, none⟩ (.int .i64 (X : Int))) g6 32 (toldTo l (j + 1))) := Lib.hid (by
          have e : toldTo l (j + 1) = C3.put (C3.put (toldTo l j) j ⟨V, ((toldTo l j).at_ j).L⟩) j ⟨((C3.put (toldTo l j) j ⟨V, ((toldTo l j).at_ j).L⟩).at_ j).V, (X : Int)⟩ := by
            rw [C3.at_put _ _ hlt, C3.put_put _ _ hlt, HV.out, ← HXL.out]; rfl
          rw [e]
          exact hy4)
        have HC4 := Lib.hid (HC3.out.other hg4 (by have := HR.out; omega) (by have := HR.out; omega))
        have HX4 := Lib.hid (HX3.out.far hg4 (by have := HR.out; omega))
        have HS4 := Lib.hid (HS3.out.far hg4 (by have := HR.out; omega))
        have HP4 := Lib.hid (HP3.out.grown hg4 HP3.out.size (fun k hk => by injection hk with hk; have := HR.out; omega))
        clear hy4 hg4 HC3 HX3 HY3 HS3 HP3
        go_wp2_with fail
        go_roundg (gk - 1)
        case measure => omega
        case rel => exact ⟨j + 1, by go_num, by omega, HC4, HX4, HY4', HS4, HP4⟩
      · obtain rfl : j = 3 := by omega
        have HY3 : Hid (C3At wr g6 32 (tell3 l)) := HY
        clear HY HC
        go_wp2_with (refine wpList_load_c3 tyP HY3.out rfl (.tmp 6) rfl rfl ?_)
        refine (cells_any (tell3 l) wr).mono ?_
        rintro e w7 ⟨A7, n7, c7, rfl, hn7, ho7, hb7⟩
        have HB7 := Lib.hid (HP.out.trans (hb7.mono HP.out.size))
        have HS7 := Lib.hid (HS.out.below hb7)
        have HX7 := Lib.hid (HX.out.below hb7)
        have HY7 := Lib.hid (HY3.out.below hb7)
        have HL7 := Lib.hid ho7.lies
        have HN7 : Hid (n7 ≤ 64) := Lib.hid (by
          rw [hn7]
          unfold celS
          split
          · rw [length_cel]; omega
          · exact Nat.zero_le _)
        generalize celE (tell3 l) = E at *
        clear ho7 hb7 hn7 HP HS HX HY3
        go_wp2_with (refine wpList_load_sec HS7.out rfl (.tmp 4) rfl rfl ?_)
        refine (is_any l HLN.out A7 c7 n7 _ HN7.out w7 HL7.out).mono ?_
        rintro e w8 ⟨rfl, hb8⟩
        have HB8 := Lib.hid (HB7.out.trans (hb8.mono HB7.out.size))
        have HX8 := Lib.hid (HX7.out.below hb8)
        have HY8 := Lib.hid (HY7.out.below hb8)
        clear hb8 HB7 HX7 HY7 HL7 HS7
        rcases HIS.out with ⟨h1, h2, h3⟩ | ⟨h1, h2, h3⟩
        · rw [h1]
          have H2 := Lib.hid h2
          have H3 := Lib.hid h3
          clear h1 h2 h3
          go_wp2_with (first
            | (refine wpList_load_c3 tyP HY8.out rfl (.tmp 6) rfl rfl ?_)
            | (refine wpList_store_c3 tyP HX8.out rfl (.tmp 2) (.tmp 49) rfl rfl (tell3 l) rfl ?_; intro w9 hs9 hg9))
          exact bodyPost_ret (results_c32 tyP rfl _ rfl _ rfl hs9) rfl ⟨by rw [H3.out, H2.out]; rfl, HB8.out.grown hg9 HB8.out.size (fun k hk => by injection hk with hk; omega)⟩
        · rw [h1]
          have H2 := Lib.hid h2
          have H3 := Lib.hid h3
          clear h1 h2 h3
          go_wp2_with (refine wpList_store_c3 tyP HX8.out rfl (.tmp 2) (.tmp 48) rfl rfl C3.zero rfl ?_; intro w9 hs9 hg9)
          exact bodyPost_ret (results_c32 tyP rfl _ rfl _ rfl hs9) rfl ⟨by rw [H3.out, H2.out]; rfl, HB8.out.grown hg9 HB8.out.size (fun k hk => by injection hk with hk; omega)⟩
  · have h0 := hE
    obtain ⟨E, hEE⟩ : ∃ E, E = whyE l := ⟨_, rfl⟩
    have HE : Hid (ocE l = E) := Lib.hid (by rw [hEE]; exact ocE_why h0)
    rw [← hEE] at h0 ⊢
    have HN : Hid (oc3 l = .zero) := Lib.hid (oc3_not (by rw [HE.out]; exact h0))
    have h1 : (E == 0) = false := beq_eq_false_iff_ne.2 h0
    have h2 : (E != 0) = true := by simp [h0]
    clear hE hEE
    go_upto_region 3 with (first
      | (refine wpList_alloc_sec 4 rfl rfl rfl ?_; intro u w2 hu hs2 hb2 hz2)
      | (refine wpList_store_sec hs2 rfl (.tmp 4) (.tmp 14) rfl rfl (opS l) HSL.out rfl ?_; intro w3 hs3 hg3))
    have HX3 := Lib.hid ((HS1.out.below hb2).far hg3 (by have h1 := hu.out; have h2 := HZ1.out; omega))
    have HB3 := Lib.hid ((below_two HB1.out hb2).grown hg3 (below_two HB1.out hb2).size (fun k hk => by injection hk with hk; have h1 := hu.out; have h2 := HZ1.out; omega))
    go_wp2_with (refine wpList_store_c3 tyP HX3.out rfl (.tmp 2) (.tmp 18) rfl rfl C3.zero rfl ?_; intro w9 hs9 hg9)
    exact bodyPost_ret (results_c32 tyP rfl _ rfl _ rfl hs9) rfl ⟨by rw [HN.out, HE.out]; rfl, HB3.out.grown hg9 HB3.out.size (fun k hk => by injection hk with hk; omega)⟩

end Go.Proofs.Ytknjkihcpcimpaa
