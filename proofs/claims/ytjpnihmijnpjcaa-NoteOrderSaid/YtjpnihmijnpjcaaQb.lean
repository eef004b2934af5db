/-
  May a note be? The program's answer, and how many bytes it has.
-/
import Derived.Test.YtjpnihmijnpjcaaQa
import Derived.BigQuiet
namespace Go.Proofs.Ytjpnihmijnpjcaa
set_option maxRecDepth 100000
set_option linter.unusedVariables false
set_option linter.unusedSimpArgs false
open Go.RowKit Wm Nn

theorem ge_yes {a b : Int} (h : b ≤ a) : decide (a ≥ b) = true ∧ decide (b ≤ a) = true := ⟨decide_eq_true (by omega), decide_eq_true (by omega)⟩
theorem ge_no {a b : Int} (h : ¬ b ≤ a) : decide (a ≥ b) = false ∧ decide (b ≤ a) = false := ⟨decide_eq_false (by omega), decide_eq_false (by omega)⟩

theorem among_yes (n m : Int) (w : World) (h0 : 0 ≤ n) (h1 : n < m) : Calls Try.prog 50 #[.int .i64 n, .int .i64 m] w fun e w' => e = .returned (.bool true) ∧ w = w' := by
  obtain ⟨f1, f2⟩ := ge_yes h0
  have f3 : decide (n < m) = true := decide_eq_true h1
  clear h0 h1
  go_enter Try.func50, Try.ntmps50
  go_wp2_with fail
  go_ret
  exact ⟨rfl, rfl⟩
theorem among_no (n m : Int) (w : World) (h : ¬ (0 ≤ n ∧ n < m)) : Calls Try.prog 50 #[.int .i64 n, .int .i64 m] w fun e w' => e = .returned (.bool false) ∧ w = w' := by
  by_cases h0 : 0 ≤ n
  · obtain ⟨f1, f2⟩ := ge_yes h0
    have f3 : decide (n < m) = false := decide_eq_false (by omega)
    clear h0 h
    go_enter Try.func50, Try.ntmps50
    go_wp2_with fail
    go_ret
    exact ⟨rfl, rfl⟩
  · obtain ⟨f1, f2⟩ := ge_no h0
    clear h0 h
    go_enter Try.func50, Try.ntmps50
    go_wp2_with fail
    go_ret
    exact ⟨rfl, rfl⟩

set_option maxHeartbeats 4000000 in
theorem mayims_any (A1 : Option Addr) (k1 c1 : Nat) (l : List Im) (rs : List Ir) (w : World) (h : ImAt w A1 k1 c1 l rs) (hk1 : k1 ≤ 1000) : Calls Try.prog 38 #[.slice A1 k1 c1] w fun e w' => e = .returned (.bool (imsOk l)) ∧ Below w.heap.size w w' := by
  obtain ⟨o, ho⟩ : ∃ o, imsOk l = o := ⟨_, rfl⟩
  rw [ho]
  have HO := Lib.hid ho
  have HI := Lib.hid h
  have hcn := h.cap
  have HLN := Lib.hid h.ll
  clear h ho
  go_enter Try.func38, Try.ntmps38
  go_wp2_with fail
  go_loopg [7] k1 (fun gn i wr => ∃ (j : Nat), i = .int .i64 (j : Int) ∧ j + gn = k1 ∧ Hid (Below w.heap.size w wr) ∧ Hid (∀ i, i < j → imGood l i))
  case atStart => exact ⟨0, rfl, by omega, Lib.hid (Below.refl _ _), Lib.hid (fun i hi => by omega)⟩
  case round =>
    obtain ⟨j, rfl, hog, HBW, HS⟩ := hrel
    rcases Nat.lt_or_ge j k1 with hlt | hge
    · have hdj : decide (j < k1) = true := decide_eq_true hlt
      have hdi : decide ((j : Int) < (k1 : Int)) = true := decide_eq_true (by omega)
      obtain ⟨xi, ⟨ri, ra, rn, rc⟩, bx, ox, hxi, _, hX⟩ := (HI.out.below HBW.out).get hlt
      have HXI := Lib.hid hxi
      have eA := hX.a
      subst eA
      have HP := Lib.hid (show ∀ i, j = i + 1 → ∃ y, l[i]? = some y ∧ bx < wr.heap.size ∧ wr.cell? ⟨bx, ox + i * 2, none⟩ = some (.int .i64 y.k) from fun i hi => by
        obtain ⟨y, _, b2, o2, hy, _, hY⟩ := (HI.out.below HBW.out).get (i := i) (by omega)
        have e := hY.a
        injection e with e
        injection e with e1 e2
        subst e1; subst e2
        exact ⟨y, hy, hY.lt, hY.c0⟩)
      have y0 := hX.c0
      have y1 := hX.c1
      simp only at y0 y1
      have HL := Lib.hid hX.li.len
      simp only at HL
      clear hxi hX
      go_upto_region 4 with fail
      have HB2 := Lib.hid (HBW.out.trans ((below_new wr (.cells #[.int .i64 xi.k, .slice ra rn rc] 51)).mono HBW.out.size))
      have HBN := Lib.hid (below_new wr (.cells #[.int .i64 xi.k, .slice ra rn rc] 51))
      have HK := Lib.hid (Bk.new wr #[.int .i64 xi.k, .slice ra rn rc] 51)
      clear y0 y1
      obtain ⟨g, hg⟩ : ∃ g, g = wr.heap.size := ⟨_, rfl⟩
      rw [← hg] at HK ⊢
      clear hg
      have HPK := Lib.hid (fun (i : Nat) (hi : j = i + 1) => by
        obtain ⟨y, hy, hb, hc⟩ := HP.out i hi
        exact (⟨y, hy, (HBN.out.cell (p := ⟨bx, ox + i * 2, none⟩) hb).trans hc⟩ : ∃ y, l[i]? = some y ∧ (wr.alloc (.cells #[.int .i64 xi.k, .slice ra rn rc] 51)).cell? ⟨bx, ox + i * 2, none⟩ = some (.int .i64 y.k)))
      clear HP HBN
      generalize wr.alloc (.cells #[.int .i64 xi.k, .slice ra rn rc] 51) = wk at *
      have y0 : wk.cell? ⟨g, 0, none⟩ = some (.int .i64 xi.k) := HK.out.c 0 _ rfl
      have y1 : wk.cell? ⟨g, 1, none⟩ = some (.slice ra rn rc) := HK.out.c 1 _ rfl
      have HNOP := Lib.hid (fun (h : ¬ imGood l j) => show o = false by rw [← HO.out]; exact ims_no h)
      by_cases t0 : 0 ≤ xi.k ∧ xi.k < 256
      · have HT := Lib.hid t0
        clear t0
        go_wp2_with fail
        refine (among_yes _ _ _ HT.out.1 HT.out.2).mono ?_
        rintro e w4 ⟨rfl, rfl⟩
        by_cases t2 : rn = 32
        · subst t2
          obtain ⟨f5, f6⟩ := ne_yes (show ((32 : Nat) : Int) = 32 from rfl)
          cases j with
          | zero =>
            have HGJ := Lib.hid (show imGood l 0 from fun y hy => by
              rw [HXI.out] at hy
              injection hy with hy
              subst hy
              exact ⟨⟨HT.out.1, by have := HT.out.2; omega⟩, HL.out, fun i y h => by omega⟩)
            have e0 : decide (((0 : Nat) : Int) > 0) = false := by decide
            have e1 : decide ((0 : Int) < ((0 : Nat) : Int)) = false := by decide
            go_upto_region 6 with fail
            go_quiet (fail)
            go_wp2_with fail
            go_roundg (gk - 1)
            case measure => omega
            case rel => exact ⟨0 + 1, rfl, by omega, Lib.hid (below_drewN HB2.out _), Lib.hid (fun i hi => by
              obtain rfl : i = 0 := by omega
              exact HGJ.out)⟩
          | succ i =>
            obtain ⟨y, hy, r0⟩ := HPK.out i rfl
            have HYI := Lib.hid hy
            clear hy
            have e0 : decide (((i + 1 : Nat) : Int) > 0) = true := decide_eq_true (by omega)
            have e1 : decide ((0 : Int) < ((i + 1 : Nat) : Int)) = true := decide_eq_true (by omega)
            have ew : IntKind.i64.wrap (((i + 1 : Nat) : Int) - 1) = (i : Int) := by rw [IntKind.wrap_i64]; omega
            have ei : (i : Int) < (k1 : Int) := by omega
            have ei2 : i < k1 := by omega
            by_cases t3 : y.k < xi.k
            · have HGJ := Lib.hid (show imGood l (i + 1) from fun z hz => by
                rw [HXI.out] at hz
                injection hz with hz
                subst hz
                exact ⟨⟨HT.out.1, by have := HT.out.2; omega⟩, HL.out, fun i2 y2 h h2 => by
                  obtain rfl : i2 = i := by omega
                  rw [HYI.out] at h2
                  injection h2 with h2
                  subst h2
                  exact t3⟩)
              have f7 : decide (y.k ≥ xi.k) = false := decide_eq_false (by omega)
              have f8 : decide (xi.k ≤ y.k) = false := decide_eq_false (by omega)
              clear t3
              go_upto_region 6 with fail
              go_quiet (fail)
              go_wp2_with fail
              go_roundg (gk - 1)
              case measure => omega
              case rel => exact ⟨(i + 1) + 1, rfl, by omega, Lib.hid (below_drewN HB2.out _), Lib.hid (fun i2 hi => by
                rcases Nat.lt_or_ge i2 (i + 1) with h | h
                · exact HS.out i2 h
                · obtain rfl : i2 = i + 1 := by omega
                  exact HGJ.out)⟩
            · have f7 : decide (y.k ≥ xi.k) = true := decide_eq_true (by omega)
              have f8 : decide (xi.k ≤ y.k) = true := decide_eq_true (by omega)
              have HNO := Lib.hid (HNOP.out (fun h => t3 ((h _ HXI.out).2.2 i y rfl HYI.out)))
              clear t3
              go_upto_region 6 with fail
              go_quiet (fail)
              go_wp2_with fail
              go_ret
              exact ⟨by rw [HNO.out]; rfl, below_drewN HB2.out _⟩
        · obtain ⟨f5, f6⟩ := ne_non t2
          obtain ⟨f7, f8⟩ := ne_no (show (rn : Int) ≠ 32 by omega)
          have HNO := Lib.hid (HNOP.out (fun h => by have := (h _ HXI.out).2.1; have := HL.out; omega))
          clear t2
          go_wp2_with fail
          go_ret
          exact ⟨by rw [HNO.out]; rfl, HB2.out⟩
      · have HNO := Lib.hid (HNOP.out (fun h => t0 ⟨(h _ HXI.out).1.1, by have := (h _ HXI.out).1.2; omega⟩))
        have HT := Lib.hid t0
        clear t0
        go_wp2_with fail
        refine (among_no _ _ _ HT.out).mono ?_
        rintro e w4 ⟨rfl, rfl⟩
        go_wp2_with fail
        go_ret
        exact ⟨by rw [HNO.out]; rfl, HB2.out⟩
    · obtain rfl : j = k1 := by omega
      clear hge
      have HE : Hid (o = true) := Lib.hid (by
        rw [← HO.out]
        refine ims_yes (fun i => ?_)
        rcases Nat.lt_or_ge i j with h | h
        · exact HS.out i h
        · intro y hy
          have := (List.getElem?_eq_some_iff.1 hy).1
          have := HLN.out
          omega)
      go_wp2_with fail
      go_ret
      exact ⟨by rw [HE.out]; rfl, HBW.out⟩

set_option maxHeartbeats 2000000 in
theorem mayops_any (B1 : Option Addr) (l1 d1 : Nat) (l : List Od) (w : World) (h : OpAt w B1 l1 d1 l) (hl1 : l1 ≤ 1000) : Calls Try.prog 39 #[.slice B1 l1 d1] w fun e w' => e = .returned (.bool (opsOk l)) ∧ Below w.heap.size w w' := by
  obtain ⟨o, ho⟩ : ∃ o, opsOk l = o := ⟨_, rfl⟩
  rw [ho]
  have HO := Lib.hid ho
  have HI := Lib.hid h
  have hcn := h.cap
  have HLN := Lib.hid h.ll
  clear h ho
  rcases Nat.lt_or_ge 256 l1 with hm | hm
  · obtain ⟨g1, g2⟩ := gt_yes (a := (l1 : Int)) (b := 256) (by omega)
    obtain ⟨g3, g4⟩ := gtn_yes hm
    have HE : Hid (o = false) := Lib.hid (by rw [← HO.out]; exact ops_many (by have := HLN.out; omega))
    go_enter Try.func39, Try.ntmps39
    go_wp2_with fail
    go_ret
    exact ⟨by rw [HE.out]; rfl, Below.refl _ _⟩
  · obtain ⟨g1, g2⟩ := gt_no (a := (l1 : Int)) (b := 256) (by omega)
    obtain ⟨g3, g4⟩ := gtn_no (a := l1) (b := 256) (by omega)
    go_enter Try.func39, Try.ntmps39
    go_wp2_with fail
    clear g1 g2 g3 g4
    go_loopg [10] l1 (fun gn i wr => ∃ (j : Nat), i = .int .i64 (j : Int) ∧ j + gn = l1 ∧ Hid (Below w.heap.size w wr) ∧ Hid (∀ i, i < j → opGood l i))
    case atStart => exact ⟨0, rfl, by omega, Lib.hid (Below.refl _ _), Lib.hid (fun i hi => by omega)⟩
    case round =>
      obtain ⟨j, rfl, hog, HBW, HS⟩ := hrel
      rcases Nat.lt_or_ge j l1 with hlt | hge
      · have hdj : decide (j < l1) = true := decide_eq_true hlt
        have hdi : decide ((j : Int) < (l1 : Int)) = true := decide_eq_true (by omega)
        obtain ⟨xo, bo, oo, hxo, hO⟩ := (HI.out.below HBW.out).get hlt
        have HXO := Lib.hid hxo
        have eA := hO.a
        subst eA
        have y0 := hO.c0
        have y1 := hO.c1
        clear hxo hO
        go_upto_region 6 with fail
        have HB2 := Lib.hid (HBW.out.trans ((below_new wr (.cells #[.int .i64 xo.c, .int .i64 xo.b] 53)).mono HBW.out.size))
        have HK := Lib.hid (Bk.new wr #[.int .i64 xo.c, .int .i64 xo.b] 53)
        clear y0 y1
        obtain ⟨g, hg⟩ : ∃ g, g = wr.heap.size := ⟨_, rfl⟩
        rw [← hg] at HK ⊢
        clear hg
        generalize wr.alloc (.cells #[.int .i64 xo.c, .int .i64 xo.b] 53) = wk at *
        have y0 : wk.cell? ⟨g, 0, none⟩ = some (.int .i64 xo.c) := HK.out.c 0 _ rfl
        by_cases t0 : 0 ≤ xo.c ∧ xo.c < 64
        · have HGJ := Lib.hid (show opGood l j from fun z hz => by
            rw [HXO.out] at hz
            injection hz with hz
            subst hz
            omega)
          have HT := Lib.hid t0
          clear t0
          go_wp2_with fail
          refine (among_yes _ _ _ HT.out.1 HT.out.2).mono ?_
          rintro e w4 ⟨rfl, rfl⟩
          go_wp2_with fail
          go_roundg (gk - 1)
          case measure => omega
          case rel => exact ⟨j + 1, by go_num, by omega, HB2, Lib.hid (fun i hi => by
            rcases Nat.lt_or_ge i j with h | h
            · exact HS.out i h
            · obtain rfl : i = j := by omega
              exact HGJ.out)⟩
        · have HNO : Hid (o = false) := Lib.hid (by
            rw [← HO.out]
            exact ops_no (fun h => t0 (by have := h _ HXO.out; omega)))
          have HT := Lib.hid t0
          clear t0
          go_wp2_with fail
          refine (among_no _ _ _ HT.out).mono ?_
          rintro e w4 ⟨rfl, rfl⟩
          go_wp2_with fail
          go_ret
          exact ⟨by rw [HNO.out]; rfl, HB2.out⟩
      · obtain rfl : j = l1 := by omega
        clear hge
        have HE : Hid (o = true) := Lib.hid (by
          rw [← HO.out]
          refine ops_yes (by have := HLN.out; omega) (fun i => ?_)
          rcases Nat.lt_or_ge i j with h | h
          · exact HS.out i h
          · intro y hy
            have := (List.getElem?_eq_some_iff.1 hy).1
            have := HLN.out
            omega)
        go_wp2_with fail
        go_ret
        exact ⟨by rw [HE.out]; rfl, HBW.out⟩

inductive SaneWay (x : Nt) (n m : Nat) : Prop
  | neg (h : x.seq < 0)
  | much (h0 : ¬ x.seq < 0) (h : 1099511627776 < x.seq)
  | commit (h0 : ¬ x.seq < 0) (h1 : ¬ 1099511627776 < x.seq) (h : x.kind = 1)
  | mark (h0 : ¬ x.seq < 0) (h1 : ¬ 1099511627776 < x.seq) (h : x.kind = 2)
  | none (h0 : ¬ x.seq < 0) (h1 : ¬ 1099511627776 < x.seq) (h : x.kind ≠ 1) (h' : x.kind ≠ 2)
theorem sane_way (x : Nt) (n m : Nat) : SaneWay x n m := by
  by_cases h0 : x.seq < 0
  · exact .neg h0
  by_cases h1 : 1099511627776 < x.seq
  · exact .much h0 h1
  by_cases h2 : x.kind = 1
  · exact .commit h0 h1 h2
  by_cases h3 : x.kind = 2
  · exact .mark h0 h1 h3
  exact .none h0 h1 h2 h3

set_option maxHeartbeats 4000000 in
theorem psane_any (x : Nt) (r : Nr) (w : World) (hx : NtAt w x r) (hsm : SmallN x) : Calls Try.prog 18 #[ntV x r] w fun e w' => e = .returned (.bool (sane x)) ∧ Below w.heap.size w w' := by
  obtain ⟨A1, k1, c1, B1, l1, d1, e1⟩ := r
  obtain ⟨HX, HB, HN⟩ := nt_boxed w x _ hx 32
  clear hx
  unfold ntV
  obtain ⟨C, hC⟩ : ∃ C, C = ntC x ⟨A1, k1, c1, B1, l1, d1, e1⟩ := ⟨_, rfl⟩
  rw [← hC] at HX HB HN ⊢
  clear hC
  obtain ⟨n1, n2, n3, n4⟩ := HN.out.n_
  simp only at n1 n2 n3 n4
  have hk1 : k1 ≤ 1000 := by have := hsm.1; omega
  have hl1 : l1 ≤ 1000 := by have := hsm.2.1; omega
  have HLN := Lib.hid (And.intro n1 n3)
  have HIM := Lib.hid HN.out.im
  have HOP := Lib.hid HN.out.op
  clear hsm n1 n3
  obtain ⟨o, ho⟩ : ∃ o, sane x = o := ⟨_, rfl⟩
  rw [ho]
  have HO := Lib.hid ho
  clear ho
  rcases sane_way x k1 l1 with h | ⟨h0, h⟩ | ⟨h0, h1, h⟩ | ⟨h0, h1, h⟩ | ⟨h0, h1, h, h'⟩
  · obtain ⟨q1, q2⟩ := gt_yes h
    have HE : Hid (o = false) := Lib.hid (by rw [← HO.out]; exact sane_seq (.inl h))
    clear h
    go_enter Try.func18, Try.ntmps18
    go_upto_region 1 with fail
    generalize w.alloc (.cells C 32) = w0 at *
    have a1 := HX.out.c1
    go_wp2_with fail
    go_ret
    exact ⟨by rw [HE.out]; rfl, HB.out⟩
  · obtain ⟨q1, q2⟩ := gt_no h0
    obtain ⟨q3, q4⟩ := gt_yes h
    have HE : Hid (o = false) := Lib.hid (by rw [← HO.out]; exact sane_seq (.inr h))
    clear h0 h
    go_enter Try.func18, Try.ntmps18
    go_upto_region 1 with fail
    generalize w.alloc (.cells C 32) = w0 at *
    have a1 := HX.out.c1
    go_wp2_with fail
    go_ret
    exact ⟨by rw [HE.out]; rfl, HB.out⟩
  · obtain ⟨q1, q2⟩ := gt_no h0
    obtain ⟨q3, q4⟩ := gt_no h1
    obtain ⟨p1, p2⟩ := ne_yes h
    have HE : Hid (o = (imsOk x.im && opsOk x.op)) := Lib.hid (by rw [← HO.out]; exact sane_commit h (by omega) (by omega))
    clear h0 h1 h
    go_enter Try.func18, Try.ntmps18
    go_upto_region 1 with fail
    generalize w.alloc (.cells C 32) = w0 at *
    have a0 := HX.out.c0
    have a1 := HX.out.c1
    have a2 := HX.out.c2
    simp only at a2
    go_wp2_with fail
    refine (mayims_any A1 k1 c1 x.im e1 w0 HIM.out hk1).mono ?_
    rintro e w1 ⟨rfl, hb1⟩
    have HB1 := Lib.hid (HB.out.trans (hb1.mono HB.out.size))
    have HX1 := Lib.hid (HX.out.below hb1)
    have HOP1 := Lib.hid (HOP.out.below hb1)
    clear hb1 a0 a1 a2
    have a3 := HX1.out.c3
    simp only at a3
    obtain ⟨u, hu⟩ : ∃ u, u = imsOk x.im := ⟨_, rfl⟩
    rw [← hu] at HE ⊢
    clear hu
    cases u
    · go_wp2_with fail
      go_ret
      exact ⟨by rw [HE.out]; rfl, HB1.out⟩
    · go_wp2_with fail
      refine (mayops_any B1 l1 d1 x.op w1 HOP1.out hl1).mono ?_
      rintro e w2 ⟨rfl, hb2⟩
      have HB2 := Lib.hid (HB1.out.trans (hb2.mono HB1.out.size))
      obtain ⟨u, hu⟩ : ∃ u, u = opsOk x.op := ⟨_, rfl⟩
      rw [← hu] at HE ⊢
      clear hu hb2 a3
      go_wp2_with fail
      go_ret
      exact ⟨by rw [HE.out]; rfl, HB2.out⟩
  · obtain ⟨q1, q2⟩ := gt_no h0
    obtain ⟨q3, q4⟩ := gt_no h1
    obtain ⟨p1, p2⟩ := ne_yes h
    obtain ⟨p3, p4⟩ := ne_no (show x.kind ≠ 1 by omega)
    have HE : Hid (o = (decide (k1 = 0) && decide (l1 = 0))) := Lib.hid (by rw [← HO.out, ← HLN.out.1, ← HLN.out.2]; exact sane_mark h (by omega) (by omega))
    clear h0 h1 h
    by_cases t1 : k1 = 0
    · subst t1
      by_cases t2 : l1 = 0
      · subst t2
        go_enter Try.func18, Try.ntmps18
        go_upto_region 1 with fail
        generalize w.alloc (.cells C 32) = w0 at *
        have a0 := HX.out.c0
        have a1 := HX.out.c1
        have a2 := HX.out.c2
        have a3 := HX.out.c3
        simp only at a2 a3
        go_wp2_with fail
        go_ret
        exact ⟨by rw [HE.out]; rfl, HB.out⟩
      · obtain ⟨f1, f2⟩ := ne_non t2
        obtain ⟨f3, f4⟩ := ne_no (show (l1 : Int) ≠ 0 by omega)
        have HE2 : Hid (o = false) := Lib.hid (by rw [HE.out]; simp [t2])
        clear t2
        go_enter Try.func18, Try.ntmps18
        go_upto_region 1 with fail
        generalize w.alloc (.cells C 32) = w0 at *
        have a0 := HX.out.c0
        have a1 := HX.out.c1
        have a2 := HX.out.c2
        have a3 := HX.out.c3
        simp only at a2 a3
        go_wp2_with fail
        go_ret
        exact ⟨by rw [HE2.out]; rfl, HB.out⟩
    · obtain ⟨f1, f2⟩ := ne_non t1
      obtain ⟨f3, f4⟩ := ne_no (show (k1 : Int) ≠ 0 by omega)
      have HE2 : Hid (o = false) := Lib.hid (by rw [HE.out]; simp [t1])
      clear t1
      go_enter Try.func18, Try.ntmps18
      go_upto_region 1 with fail
      generalize w.alloc (.cells C 32) = w0 at *
      have a0 := HX.out.c0
      have a1 := HX.out.c1
      have a2 := HX.out.c2
      simp only at a2
      go_wp2_with fail
      go_ret
      exact ⟨by rw [HE2.out]; rfl, HB.out⟩
  · obtain ⟨q1, q2⟩ := gt_no h0
    obtain ⟨q3, q4⟩ := gt_no h1
    obtain ⟨p1, p2⟩ := ne_no h
    obtain ⟨p3, p4⟩ := ne_no h'
    have HE : Hid (o = false) := Lib.hid (by rw [← HO.out]; exact sane_kind h h')
    clear h0 h1 h h'
    go_enter Try.func18, Try.ntmps18
    go_upto_region 1 with fail
    generalize w.alloc (.cells C 32) = w0 at *
    have a0 := HX.out.c0
    have a1 := HX.out.c1
    go_wp2_with fail
    go_ret
    exact ⟨by rw [HE.out]; rfl, HB.out⟩
end Go.Proofs.Ytjpnihmijnpjcaa
