/-
  May a note be? Its images, its ops.
-/
import Derived.Test.YtjpnihmijnpjcaaNc
namespace Go.Proofs.Ytjpnihmijnpjcaa
set_option maxRecDepth 100000
set_option linter.unusedVariables false
set_option linter.unusedSimpArgs false
open Go.RowKit Wm Nn

theorem ne_non {a b : Nat} (h : a ≠ b) : (a == b) = false ∧ (a != b) = true := by simp [h]

theorem im_bad {x : Nt} {j : Nat} (h : ¬ imGood x.im j) : sane x = false := sane_no (fun hs => h (hs.2.1 j))
theorem op_bad {x : Nt} {j : Nat} (h : ¬ opGood x.op j) : sane x = false := sane_no (fun hs => h (hs.2.2 j))

set_option maxHeartbeats 4000000 in
theorem sane_body (x : Nt) (r : Nr) (w : World) (hx : NtAt w x r) (hsm : SmallN x) (hh : Head x) : Calls Try.prog 19 #[ntV x r] w fun e w' => e = .returned (.bool (sane x)) ∧ Below w.heap.size w w' := by
  obtain ⟨A1, k1, c1, B1, l1, d1, e1⟩ := r
  obtain ⟨HX, HB, HN⟩ := nt_boxed w x _ hx 25
  clear hx
  unfold ntV
  obtain ⟨C, hC⟩ : ∃ C, C = ntC x ⟨A1, k1, c1, B1, l1, d1, e1⟩ := ⟨_, rfl⟩
  rw [← hC] at HX HB HN ⊢
  clear hC
  obtain ⟨n1, n2, n3, n4⟩ := HN.out.n_
  simp only at n1 n2 n3 n4
  have hk1 : k1 ≤ 1000 := by have := hsm.1; omega
  have hl1 : l1 ≤ 1000 := by have := hsm.2.1; omega
  have HH := Lib.hid hh
  obtain ⟨g1, ⟨g2, g3⟩, g4, g5, g6⟩ := hh
  rw [n1] at g4 g6
  rw [n3] at g5 g6
  have HLN := Lib.hid (And.intro n1 n3)
  clear hsm n1 n3
  obtain ⟨o, ho⟩ : ∃ o, sane x = o := ⟨_, rfl⟩
  rw [ho]
  have HO := Lib.hid ho
  clear ho
  obtain ⟨q1, q2⟩ := gt_no (a := (0 : Int)) (b := x.seq) (by omega)
  obtain ⟨q3, q4⟩ := gt_no (a := x.seq) (b := 1099511627776) (by omega)
  obtain ⟨q5, q6⟩ := gtn_no (a := k1) (b := 256) (by omega)
  obtain ⟨q7, q8⟩ := gt_no (a := (k1 : Int)) (b := 256) (by omega)
  obtain ⟨q9, qa⟩ := gtn_no (a := l1) (b := 256) (by omega)
  obtain ⟨qb, qc⟩ := gt_no (a := (l1 : Int)) (b := 256) (by omega)
  have HG : Hid (x.kind = 2 → k1 + l1 = 0) := Lib.hid g6
  clear g2 g3 g4 g5 g6
  have HQ : Hid (∀ V : World, NtB V w.heap.size 25 x ⟨A1, k1, c1, B1, l1, d1, e1⟩ → Below w.heap.size w V → True) := Lib.hid (fun _ _ _ => trivial)
  rcases kind_two g1 with ⟨hk, ⟨p1, p2⟩, p3, p4⟩ | ⟨hk, ⟨p1, p2⟩, p3, p4⟩
  rotate_left
  · have hz := HG.out hk
    obtain ⟨qd, qe⟩ := gtn_no (a := k1 + l1) (b := 0) (by omega)
    obtain ⟨qf, qg⟩ := gt_no (a := (k1 : Int) + (l1 : Int)) (b := 0) (by omega)
    have hk0 : k1 = 0 := by omega
    have hl0 : l1 = 0 := by omega
    subst hk0 hl0
    have HE : Hid (San x) := Lib.hid ⟨HH.out, fun j y hy => by
      have := HLN.out.1
      have := (List.getElem?_eq_some_iff.1 hy).1
      omega, fun j y hy => by
      have := HLN.out.2
      have := (List.getElem?_eq_some_iff.1 hy).1
      omega⟩
    have HE2 : Hid (o = true) := Lib.hid (by rw [← HO.out]; exact sane_yes HE.out)
    clear hz hk g1
    go_enter Try.func19, Try.ntmps19
    go_upto_region 1 with fail
    generalize w.alloc (.cells C 25) = w0 at *
    have a0 := HX.out.c0
    have a1 := HX.out.c1
    have a2 := HX.out.c2
    have a3 := HX.out.c3
    simp only at a2 a3
    go_wp2_with fail
    go_loopg [3] 0 (fun gn i wr => i = .int .i64 ((0 : Nat) : Int) ∧ wr = w0)
    case atStart => exact ⟨rfl, rfl⟩
    case round =>
      obtain ⟨rfl, rfl⟩ := hrel
      go_wp2_with fail
      go_loopg [5] 0 (fun gn i wa => i = .int .i64 ((0 : Nat) : Int) ∧ wa = wr)
      case atStart => exact ⟨rfl, rfl⟩
      case round =>
        obtain ⟨rfl, hwa⟩ := hrel
        subst hwa
        go_wp2_with fail
        go_ret
        exact ⟨by rw [HE2.out]; rfl, HB.out⟩
  · clear hk g1
    go_enter Try.func19, Try.ntmps19
    go_upto_region 1 with fail
    generalize w.alloc (.cells C 25) = w0 at *
    have a0 := HX.out.c0
    have a1 := HX.out.c1
    have a2 := HX.out.c2
    have a3 := HX.out.c3
    simp only at a2 a3
    go_wp2_with fail
    clear a0 a1 a2 a3 q1 q2 q3 q4 q5 q6 q7 q8 q9 qa qb qc p1 p2 p3 p4
    go_loopg [3] k1 (fun gn i wr => ∃ (j : Nat), i = .int .i64 (j : Int) ∧ j + gn = k1 ∧ Hid (Below w0.heap.size w0 wr) ∧ Hid (∀ i, i < j → imGood x.im i))
    case atStart => exact ⟨0, rfl, by omega, Lib.hid (Below.refl _ _), Lib.hid (fun i hi => by omega)⟩
    case round =>
      obtain ⟨j, rfl, hog, HBW, HS⟩ := hrel
      have HB1 := Lib.hid (HB.out.trans (HBW.out.mono HB.out.size))
      have HX1 := Lib.hid (HX.out.below HBW.out)
      have a2 := HX1.out.c2
      simp only at a2
      rcases Nat.lt_or_ge j k1 with hlt | hge
      · have hdj : decide (j < k1) = true := decide_eq_true hlt
        have hdi : decide ((j : Int) < (k1 : Int)) = true := decide_eq_true (by omega)
        have him := HN.out.im
        obtain ⟨xi, ⟨ri, ra, rn, rc⟩, bx, ox, hxi, _, hX⟩ := (him.below HBW.out).get hlt
        have HXI := Lib.hid hxi
        have eA := hX.a
        simp only at eA
        subst eA
        have HP := Lib.hid (show ∀ i, j = i + 1 → ∃ y, x.im[i]? = some y ∧ bx < wr.heap.size ∧ wr.cell? ⟨bx, ox + i * 2, none⟩ = some (.int .i64 y.k) from fun i hi => by
          obtain ⟨y, _, b2, o2, hy, _, hY⟩ := (him.below HBW.out).get (i := i) (by simp only; omega)
          have e := hY.a
          simp only at e
          injection e with e
          injection e with e1 e2
          subst e1; subst e2
          exact ⟨y, hy, hY.lt, hY.c0⟩)
        have y0 := hX.c0
        have y1 := hX.c1
        simp only at y0 y1
        have HL := Lib.hid hX.li.len
        simp only at HL
        have HBX := Lib.hid hX.lt
        clear him hxi hX
        go_upto_region 7 with fail
        have HX2 := Lib.hid (HX1.out.below (below_new wr (.cells #[.int .i64 xi.k, .slice ra rn rc] 51)))
        have HB2 := Lib.hid (HBW.out.trans ((below_new wr (.cells #[.int .i64 xi.k, .slice ra rn rc] 51)).mono HBW.out.size))
        have HBN := Lib.hid (below_new wr (.cells #[.int .i64 xi.k, .slice ra rn rc] 51))
        have HK := Lib.hid (Bk.new wr #[.int .i64 xi.k, .slice ra rn rc] 51)
        clear a2 y0 y1
        obtain ⟨g, hg⟩ : ∃ g, g = wr.heap.size := ⟨_, rfl⟩
        rw [← hg] at HK ⊢
        clear hg
        have HPK := Lib.hid (fun (i : Nat) (hi : j = i + 1) => by
          obtain ⟨y, hy, hb, hc⟩ := HP.out i hi
          exact (⟨y, hy, (HBN.out.cell (p := ⟨bx, ox + i * 2, none⟩) hb).trans hc⟩ : ∃ y, x.im[i]? = some y ∧ (wr.alloc (.cells #[.int .i64 xi.k, .slice ra rn rc] 51)).cell? ⟨bx, ox + i * 2, none⟩ = some (.int .i64 y.k)))
        clear HP HBN HBX HX1 HB1
        have HBK := Lib.hid (HB.out.trans (HB2.out.mono HB.out.size))
        generalize wr.alloc (.cells #[.int .i64 xi.k, .slice ra rn rc] 51) = wk at *
        have y0 : wk.cell? ⟨g, 0, none⟩ = some (.int .i64 xi.k) := HK.out.c 0 _ rfl
        have y1 : wk.cell? ⟨g, 1, none⟩ = some (.slice ra rn rc) := HK.out.c 1 _ rfl
        have a2 := HX2.out.c2
        simp only at a2
        have HNOP := Lib.hid (fun (h : ¬ imGood x.im j) => show o = false by rw [← HO.out]; exact im_bad h)
        by_cases t0 : xi.k < 0
        · obtain ⟨f1, f2⟩ := gt_yes t0
          have HNO := Lib.hid (HNOP.out (fun h => by have := (h _ HXI.out).1; omega))
          clear t0
          go_quiet (fail)
          go_wp2_with fail
          go_ret
          exact ⟨by rw [HNO.out]; rfl, below_drewN HBK.out _⟩
        obtain ⟨f1, f2⟩ := gt_no t0
        by_cases t1 : 255 < xi.k
        · obtain ⟨f3, f4⟩ := gt_yes t1
          have HNO := Lib.hid (HNOP.out (fun h => by have := (h _ HXI.out).1; omega))
          clear t1 t0
          go_quiet (fail)
          go_wp2_with fail
          go_ret
          exact ⟨by rw [HNO.out]; rfl, below_drewN HBK.out _⟩
        obtain ⟨f3, f4⟩ := gt_no t1
        by_cases t2 : rn = 32
        · subst t2
          cases j with
          | zero =>
            have HGJ := Lib.hid (show imGood x.im 0 from fun y hy => by
              rw [HXI.out] at hy
              injection hy with hy
              subst hy
              exact ⟨by omega, HL.out, fun i y h => by omega⟩)
            have e0 : decide (((0 : Nat) : Int) > 0) = false := by decide
            have e1 : decide ((0 : Int) < ((0 : Nat) : Int)) = false := by decide
            clear t0 t1
            go_quiet (fail)
            go_wp2_with fail
            go_roundg (gk - 1)
            case measure => omega
            case rel => exact ⟨0 + 1, rfl, by omega, Lib.hid (below_drewN HB2.out _), Lib.hid (fun i hi => by
              obtain rfl : i = 0 := by omega
              exact HGJ.out)⟩
          | succ i =>
            obtain ⟨y, hy, r0⟩ := HPK.out i rfl
            have HYI := Lib.hid hy
            clear hy
            have e0 : decide (((i + 1 : Nat) : Int) > 0) = true := decide_eq_true (by omega)
            have e1 : decide ((0 : Int) < ((i + 1 : Nat) : Int)) = true := decide_eq_true (by omega)
            have ew : IntKind.i64.wrap (((i + 1 : Nat) : Int) - 1) = (i : Int) := by rw [IntKind.wrap_i64]; omega
            have ei : (i : Int) < (k1 : Int) := by omega
            have ei2 : i < k1 := by omega
            by_cases t3 : y.k < xi.k
            · have HGJ := Lib.hid (show imGood x.im (i + 1) from fun z hz => by
                rw [HXI.out] at hz
                injection hz with hz
                subst hz
                exact ⟨by omega, HL.out, fun i2 y2 h h2 => by
                  obtain rfl : i2 = i := by omega
                  rw [HYI.out] at h2
                  injection h2 with h2
                  subst h2
                  exact t3⟩)
              have f5 : decide (y.k ≥ xi.k) = false := decide_eq_false (by omega)
              have f6 : decide (xi.k ≤ y.k) = false := decide_eq_false (by omega)
              clear t0 t1 t3
              go_quiet (fail)
              go_wp2_with fail
              go_roundg (gk - 1)
              case measure => omega
              case rel => exact ⟨(i + 1) + 1, rfl, by omega, Lib.hid (below_drewN HB2.out _), Lib.hid (fun i2 hi => by
                rcases Nat.lt_or_ge i2 (i + 1) with h | h
                · exact HS.out i2 h
                · obtain rfl : i2 = i + 1 := by omega
                  exact HGJ.out)⟩
            · have f5 : decide (y.k ≥ xi.k) = true := decide_eq_true (by omega)
              have f6 : decide (xi.k ≤ y.k) = true := decide_eq_true (by omega)
              have HNO := Lib.hid (HNOP.out (fun h => t3 ((h _ HXI.out).2.2 i y rfl HYI.out)))
              clear t0 t1 t3
              go_quiet (fail)
              go_wp2_with fail
              go_ret
              exact ⟨by rw [HNO.out]; rfl, below_drewN HBK.out _⟩
        · obtain ⟨f5, f6⟩ := ne_non t2
          obtain ⟨f7, f8⟩ := ne_no (show (rn : Int) ≠ 32 by omega)
          have HNO := Lib.hid (HNOP.out (fun h => by have := (h _ HXI.out).2.1; have := HL.out; omega))
          clear t0 t1 t2
          go_quiet (fail)
          go_wp2_with fail
          go_ret
          exact ⟨by rw [HNO.out]; rfl, below_drewN HBK.out _⟩
      · obtain rfl : j = k1 := by omega
        clear hge
        have HIM : Hid (∀ i, imGood x.im i) := Lib.hid (fun i => by
          rcases Nat.lt_or_ge i j with h | h
          · exact HS.out i h
          · intro y hy
            have := (List.getElem?_eq_some_iff.1 hy).1
            have := HLN.out.1
            omega)
        obtain ⟨wa, hwa⟩ : ∃ wa, wa = wr := ⟨_, rfl⟩
        subst hwa
        clear HS HG HQ
        go_wp2_with fail
        clear a2
        go_loopg [5] l1 (fun gn i wr => ∃ (j : Nat), i = .int .i64 (j : Int) ∧ j + gn = l1 ∧ wr = wa ∧ Hid (∀ i, i < j → opGood x.op i))
        case atStart => exact ⟨0, rfl, by omega, rfl, Lib.hid (fun i hi => by omega)⟩
        case round =>
          obtain ⟨u, rfl, hog2, hww, HSO⟩ := hrel
          subst hww
          have a3 := HX1.out.c3
          simp only at a3
          rcases Nat.lt_or_ge u l1 with hlt | hge
          · have hdj : decide (u < l1) = true := decide_eq_true hlt
            have hdi : decide ((u : Int) < (l1 : Int)) = true := decide_eq_true (by omega)
            obtain ⟨xo, bo, oo, hxo, hO⟩ := (HN.out.op.below HBW.out).get hlt
            have HXO := Lib.hid hxo
            have eA := hO.a
            simp only at eA
            subst eA
            have y0 := hO.c0
            clear hxo hO
            have HNOP := Lib.hid (fun (h : ¬ opGood x.op u) => show o = false by rw [← HO.out]; exact op_bad h)
            by_cases t0 : xo.c < 0
            · obtain ⟨f1, f2⟩ := gt_yes t0
              have HNO := Lib.hid (HNOP.out (fun h => by have := h _ HXO.out; omega))
              clear t0
              go_wp2_with fail
              go_ret
              exact ⟨by rw [HNO.out]; rfl, HB1.out⟩
            obtain ⟨f1, f2⟩ := gt_no t0
            by_cases t1 : 63 < xo.c
            · obtain ⟨f3, f4⟩ := gt_yes t1
              have HNO := Lib.hid (HNOP.out (fun h => by have := h _ HXO.out; omega))
              clear t0 t1
              go_wp2_with fail
              go_ret
              exact ⟨by rw [HNO.out]; rfl, HB1.out⟩
            obtain ⟨f3, f4⟩ := gt_no t1
            have HGJ := Lib.hid (show opGood x.op u from fun z hz => by
              rw [HXO.out] at hz
              injection hz with hz
              subst hz
              omega)
            clear t0 t1
            go_wp2_with fail
            go_roundg (gk - 1)
            case measure => omega
            case rel => exact ⟨u + 1, by go_num, by omega, rfl, Lib.hid (fun i hi => by
              rcases Nat.lt_or_ge i u with h | h
              · exact HSO.out i h
              · obtain rfl : i = u := by omega
                exact HGJ.out)⟩
          · obtain rfl : u = l1 := by omega
            clear hge
            have HE2 : Hid (o = true) := Lib.hid (by
              rw [← HO.out]
              exact sane_yes ⟨HH.out, HIM.out, fun i => by
                rcases Nat.lt_or_ge i u with h | h
                · exact HSO.out i h
                · intro y hy
                  have := (List.getElem?_eq_some_iff.1 hy).1
                  have := HLN.out.2
                  omega⟩)
            go_wp2_with fail
            go_ret
            exact ⟨by rw [HE2.out]; rfl, HB1.out⟩

theorem sane_any (x : Nt) (r : Nr) (w : World) (hx : NtAt w x r) (hsm : SmallN x) : Calls Try.prog 19 #[ntV x r] w fun e w' => e = .returned (.bool (sane x)) ∧ Below w.heap.size w w' := by
  by_cases hh : Head x
  · exact sane_body x r w hx hsm hh
  · exact sane_head_no x r w hx hsm hh

end Go.Proofs.Ytjpnihmijnpjcaa
