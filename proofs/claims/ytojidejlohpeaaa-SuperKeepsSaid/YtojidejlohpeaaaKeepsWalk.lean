/-
  SuperKeeps: the walk: whatever is kept, what is loaded is the last one that was saved, or the one that was being saved.
-/
import Derived.Test.YtojidejlohpeaaaKeeps8
namespace Go.Proofs.Ytojidejlohpeaaa
set_option maxRecDepth 100000
open Go.RowKit Crc Wm Sup

/-- the device, the last one and the one that is being saved, each in a block of its own -/
structure Kw (w W : World) (p L M g q : Nat) (D : Dv) (s t : Sup) : Prop where
  dr : Dr w W p L M D
  la : SupAt W g 29 s
  nw : SupAt W q 29 t
  ag : ¬ DS p L M g
  aq : ¬ DS p L M q
  ne : g < q
  lo : w.heap.size ≤ g
section
variable {w W V : World} {p L M g q : Nat} {D D' : Dv} {s t s' t' : Sup}
theorem Kw.below (h : Kw w W p L M g q D s t) (hb : Below W.heap.size W V) : Kw w V p L M g q D s t := ⟨h.dr.below hb, h.la.below hb, h.nw.below hb, h.ag, h.aq, h.ne, h.lo⟩
theorem Kw.dev (h : Kw w W p L M g q D s t) (hd : Dr w V p L M D') (ht : Turn (DS p L M) W V) : Kw w V p L M g q D' s t :=
  ⟨hd, (ht.block g (lt_of_block h.la) h.ag).trans h.la, (ht.block q (lt_of_block h.nw) h.aq).trans h.nw, h.ag, h.aq, h.ne, h.lo⟩
theorem Kw.apart (h : Dr w W p L M D) {r : Nat} (hg : W.grownBy V (some r)) (hn : ¬ DS p L M r) (hl : w.heap.size ≤ r) : Dr w V p L M D :=
  ⟨h.dev.turn (S := (· = r)) (Turn.ofGrown hg) (fun e => hn (.inl e.symm)) (fun e => hn (.inr (.inl e.symm))) (fun e => hn (.inr (.inr e.symm))), h.bel.grown hg h.bel.size (fun k hk => by injection hk with hk; omega), h.lo⟩
theorem Kw.setL (h : Kw w W p L M g q D s t) (hg : W.grownBy V (some g)) (hs : SupAt V g 29 s') : Kw w V p L M g q D s' t :=
  ⟨Kw.apart h.dr hg h.ag h.lo, hs, h.nw.far hg (by have := h.ne; omega), h.ag, h.aq, h.ne, h.lo⟩
theorem Kw.setN (h : Kw w W p L M g q D s t) (hg : W.grownBy V (some q)) (hs : SupAt V q 29 t') : Kw w V p L M g q D s t' :=
  ⟨Kw.apart h.dr hg h.aq (by have h1 := h.lo; have h2 := h.ne; omega), h.la.far hg (by have := h.ne; omega), hs, h.ag, h.aq, h.ne, h.lo⟩
/-- a younger block turns -/
theorem Kw.young (h : Kw w W p L M g q D s t) {r : Nat} (hg : W.grownBy V (some r)) (hr : q < r) (hn : ¬ DS p L M r) : Kw w V p L M g q D s t :=
  ⟨Kw.apart h.dr hg hn (by have h1 := h.lo; have h2 := h.ne; omega), h.la.far hg (by have := h.ne; omega), h.nw.far hg (by omega), h.ag, h.aq, h.ne, h.lo⟩
end

/-- the head's cell, the version's cell -/
theorem SupAt.head {W : World} {g : Nat} {t : TypeId} {s : Sup} (h : SupAt W g t s) (x : Int) : SupAt (W.setCell ⟨g, 5, none⟩ (.int .i64 x)) g t (headTo_ s x) := by
  show (W.setCell ⟨g, 5, none⟩ (.int .i64 x)).heap[g]? = _
  rw [heap_setCell_same _ _ _ _ _ _ h]
  rfl
theorem SupAt.count {W : World} {g : Nat} {t : TypeId} {s : Sup} (h : SupAt W g t s) : SupAt (W.setCell ⟨g, 0, none⟩ (.int .i64 (s.V + 1))) g t s.next := by
  show (W.setCell ⟨g, 0, none⟩ (.int .i64 (s.V + 1))).heap[g]? = _
  rw [heap_setCell_same _ _ _ _ _ _ h]
  rfl

set_option maxHeartbeats 8000000 in
theorem keeps_walk (a K : Option Addr) (len kn ca ck : Nat) (f : Nat → Int) (kf : Nat → Bool) (z : Int) (w : World) (hI : Is w a len f) (hK : BoolsAt w K kn kf) :
    Calls Try.prog 6 #[.slice a len ca, .int .i64 z, .slice K kn ck] w fun e w' => e = .returned (.bool true) ∧ Below w.heap.size w w' := by
  have HI := Lib.hid hI
  have HK := Lib.hid hK
  clear hI hK
  by_cases hbig : 20 < len ∨ 20 < kn
  · rcases Nat.lt_or_ge 20 len with h1 | h1
    · have hd : decide ((20 : Int) < (len : Int)) = true := decide_eq_true (by omega)
      clear hbig
      go_enter Try.func6, Try.ntmps6
      go_wp2_with fail
      refine (awake_any w).mono ?_
      rintro e w1 ⟨rfl, hb1⟩
      have HB1 := Lib.hid hb1
      clear hb1
      go_wp2_with fail
      go_ret
      exact ⟨rfl, HB1.out⟩
    · have hd : decide ((20 : Int) < (len : Int)) = false := decide_eq_false (by omega)
      have hd2 : decide ((20 : Int) < (kn : Int)) = true := decide_eq_true (by omega)
      clear hbig
      go_enter Try.func6, Try.ntmps6
      go_wp2_with fail
      refine (awake_any w).mono ?_
      rintro e w1 ⟨rfl, hb1⟩
      have HB1 := Lib.hid hb1
      clear hb1
      go_wp2_with fail
      go_ret
      exact ⟨rfl, HB1.out⟩
  have hl20 : len ≤ 20 := by omega
  have hk20 : kn ≤ 20 := by omega
  clear hbig
  have hd : decide ((20 : Int) < (len : Int)) = false := decide_eq_false (by omega)
  have hd2 : decide ((20 : Int) < (kn : Int)) = false := decide_eq_false (by omega)
  obtain ⟨b, hb, hz⟩ := low z 31 5 (by decide) (by omega)
  obtain ⟨s1, s2, s3, s4, s5, s6, s7, _⟩ := fresh_save (n := 4) (by omega) one_may (by decide)
  have hsp : (Dv.fresh 4).spent = 0 := rfl
  have HSP : Hid ((Dv.fresh 4).spent ≤ 999999) := Lib.hid (by rw [hsp]; omega)
  have HS := Lib.hid (show _ ∧ _ ∧ _ from ⟨s1, s2, s5⟩)
  have HAL := Lib.hid (Dv.alive_first (b : Int))
  clear s1 s2 s3 s4 s5 s6 s7 hsp
  go_enter Try.func6, Try.ntmps6
  go_wp2_with fail
  refine (awake_any w).mono ?_
  rintro e w1 ⟨rfl, hb1⟩
  have HB1 := Lib.hid hb1
  clear hb1
  go_wp2_with fail
  refine (newdr (w := w) HB1.out 4 (by omega) (by omega)).mono ?_
  rintro e w2 ⟨p, L, M, rfl, hd2', _, _, _, _⟩
  have HD2 := Lib.hid hd2'
  clear hd2' HB1
  go_wp2_with fail
  refine (HD2.out.save HSP.out one).mono ?_
  rintro e w3 ⟨rfl, hd3, _⟩
  rw [HS.out.1, HS.out.2.1]
  have HD3 := Lib.hid hd3
  clear hd3 HD2 HSP
  go_upto_region 6 with (refine wpList_store_sup tyP (zero_new w3 _) rfl (.tmp 10) (.tmp 37) rfl rfl one.next rfl ?_; intro w4 hs4 hg4; have HD4 := Lib.hid (HD3.out.below (box_below hg4)); have HL4 := Lib.hid hs4; have HG4 := Lib.hid (show ¬ DS p L M w3.heap.size ∧ w.heap.size ≤ w3.heap.size from ⟨HD3.out.notNew, HD3.out.bel.size⟩); clear hs4 hg4 HD3)
  have HV6 : Hid (one.next.V ≤ 1 + ((0 : Nat) : Int)) := Lib.hid (by show (0 : Int) + 1 ≤ 1 + ((0 : Nat) : Int); omega)
  generalize w3.heap.size = g at *
  generalize one.next = s0 at *
  go_wp2_with (first
    | (refine wpList_load_sup tyP HL4.out rfl (.tmp 10) rfl rfl ?_)
    | (refine wpList_store_sup tyP (zero_new w4 _) rfl (.tmp 12) (.tmp 39) rfl rfl s0 rfl ?_; intro w5 hs5 hg5; have HK5 : Hid (Kw w w5 p L M g w4.heap.size ((Dv.fresh 4).svD one) s0 s0) := Lib.hid ⟨HD4.out.below (box_below hg5), HL4.out.below (box_below hg5), hs5, HG4.out.1, HD4.out.notNew, lt_of_block HL4.out, HG4.out.2⟩; clear hs5 hg5 HD4 HL4 HG4))
  generalize w4.heap.size = q at *
  refine (budget_any HK5.out.dr.dev (b : Int) (by omega)).mono ?_
  rintro e w6 ⟨rfl, hd6, ht6⟩
  have HK6 := Lib.hid (HK5.out.dev (HK5.out.dr.turn hd6 ht6) ht6)
  have HSP6 : Hid ((((Dv.fresh 4).svD one).budget (b : Int)).spent ≤ 2 + 2 * 0) := Lib.hid (by show ((Dv.fresh 4).svD one).spent ≤ 2; rw [HS.out.2.2]; omega)
  clear hd6 ht6 HK5 HS
  generalize ((Dv.fresh 4).svD one).budget (b : Int) = D0 at *
  go_wp2_with fail
  go_loopg [13] len (fun gn u wr => ∃ (i : Nat) (D : Dv) (s t : Sup), u = .int .i64 (i : Int) ∧ i + gn = len ∧ Hid (D.spent ≤ 2 + 2 * i) ∧ Hid (s.V ≤ 1 + (i : Int)) ∧ Hid ((D.Alive s ∧ t = s) ∨ (D.gone = true ∧ D.Fin s t)) ∧ Hid (Kw w wr p L M g q D s t))
  case atStart => exact ⟨0, D0, s0, s0, rfl, by omega, HSP6, HV6, Lib.hid (.inl ⟨HAL.out, rfl⟩), HK6⟩
  case round =>
    obtain ⟨i, D, s, t, rfl, hi, HSP, HV, HST, HW⟩ := hrel
    clear HSP6 HV6 HAL HK6
    have HSP1 : Hid (D.spent ≤ 1000000) := Lib.hid (by have := HSP.out; omega)
    rcases Nat.lt_or_ge i len with hlt | hge
    · have hdi : decide ((i : Int) < (len : Int)) = true := decide_eq_true (by omega)
      rcases HST.out with ⟨hal, hts⟩ | ⟨hgone, hfin⟩
      · subst hts
        have HA := Lib.hid hal
        clear hal HST
        obtain ⟨h, hh, hfh⟩ := low (f i) 65535 16 (by decide) (by omega)
        have hV0 : 0 ≤ t.V := HA.out.holds.may.1.1
        go_wp2_with fail
        refine (gone_any HW.out.dr.dev).mono ?_
        rintro e w' ⟨rfl, hw⟩
        replace hw := hw.symm
        subst hw
        rw [HA.out.up]
        have HN7 := Lib.hid (show ¬ DS p L M wr.heap.size ∧ q < wr.heap.size from ⟨HW.out.dr.notNew, lt_of_block HW.out.nw⟩)
        go_upto_region 12 with (first
          | (refine wpList_load_sup tyP HW.out.la rfl (.tmp 10) rfl rfl ?_)
          | (refine wpList_store_sup tyP (zero_new wr _) rfl (.tmp 14) (.tmp 55) rfl rfl t rfl ?_; intro w7 hs7 hg7; have HW7 := Lib.hid (HW.out.below (box_below hg7)); have HX7 := Lib.hid hs7; clear hs7 hg7 HW))
        generalize wr.heap.size = r at *
        obtain ⟨bb, oo, rfl, hci⟩ := HI.out.get HW7.out.dr.bel hlt
        have c5 : w7.cell? ⟨r, 5, none⟩ = some (.int .i64 t.H) := HX7.out.cell (i := 5) (by omega)
        have f5 : w7.frozen? ⟨r, 5, none⟩ = false := frozen_of_row _ _ _ _ _ HX7.out
        have HW8 := Lib.hid (HW7.out.young (setCell_grown w7 r 5 (.int .i64 (h : Int))) HN7.out.2 HN7.out.1)
        have HX8 := Lib.hid (HX7.out.head (h : Int))
        clear HW7 HX7
        go_upto_region 13 with fail
        generalize w7.setCell ⟨r, 5, none⟩ (.int .i64 (h : Int)) = w8 at *
        obtain ⟨nx, hnx⟩ : ∃ nx, nx = headTo_ t (h : Int) := ⟨_, rfl⟩
        have hnv : nx.V = t.V := by rw [hnx]; rfl
        have HNM : Hid nx.May := Lib.hid (by rw [hnx]; exact headTo_may HA.out.holds.may (by omega))
        rw [← hnx] at HX8
        have hvb : 0 ≤ nx.V ∧ nx.V ≤ 1000 := by rw [hnv]; have := HV.out; omega
        have HSTEP := Lib.hid (HA.out.step HNM.out hnv (by omega))
        have HNV := Lib.hid hnv
        clear hci c5 f5 hnx hnv hfh
        go_upto_region 14 with (first
          | (refine wpList_load_sup tyP HX8.out rfl (.tmp 14) rfl rfl ?_)
          | (refine wpList_store_sup tyP HW8.out.nw rfl (.tmp 12) (.tmp 62) rfl rfl nx rfl ?_; intro w9 hs9 hg9; have HW9 := Lib.hid (HW8.out.setN hg9 hs9); have HX9 := Lib.hid (HX8.out.far hg9 (by have := HN7.out.2; omega)); clear hs9 hg9 HW8 HX8))
        have c0 : w9.cell? ⟨q, 0, none⟩ = some (.int .i64 nx.V) := HW9.out.nw.cell (i := 0) (by omega)
        have f0 : w9.frozen? ⟨q, 0, none⟩ = false := frozen_of_row _ _ _ _ _ HW9.out.nw
        have HW10 := Lib.hid (HW9.out.setN (setCell_grown w9 q 0 (.int .i64 (nx.V + 1))) HW9.out.nw.count)
        have HX10 := Lib.hid (HX9.out.far (setCell_grown w9 q 0 (.int .i64 (nx.V + 1))) (by have := HN7.out.2; omega))
        clear HW9 HX9
        go_upto_region 15 with fail
        generalize w9.setCell ⟨q, 0, none⟩ (.int .i64 (nx.V + 1)) = w10 at *
        clear c0 f0
        go_wp2_with (refine wpList_load_sup tyP HX10.out rfl (.tmp 14) rfl rfl ?_)
        refine (HW10.out.dr.save (by have := HSP.out; omega) nx).mono ?_
        rintro e w11 ⟨rfl, hd11, ht11⟩
        have HW11 := Lib.hid (HW10.out.dev hd11 ht11)
        have HSP2 : Hid ((D.svD nx).spent ≤ 2 + 2 * (i + 1)) := Lib.hid (by have h1 := D.svD_spent nx; have h2 := HSP.out; omega)
        clear hd11 ht11 HW10 HX10 HSP HSP1 HN7
        obtain ⟨y, hy⟩ : ∃ y, y = nx.next := ⟨_, rfl⟩
        have HYV : Hid (y.V = t.V + 1) := Lib.hid (by rw [hy]; show nx.V + 1 = _; rw [HNV.out])
        rw [← hy] at HW11 HSTEP
        clear hy
        have HQ := Lib.hid (fun V => run_sup_neq y y V)
        have HG := Lib.hid (fun (V : World) => run_sup_guard .neq (.tmp 75) (.tmp 76) y y V)
        rcases HSTEP.out with ⟨e0, e1, hal2⟩ | ⟨e0, hgn, hfin⟩
        · rw [e0, e1]
          have HA2 := Lib.hid hal2
          clear e0 e1 hal2 HSTEP HA HNM
          go_wp2_with (first
            | (refine wpList_load_sup tyP HX12.out rfl (.tmp 15) rfl rfl ?_)
            | (refine wpList_load_sup tyP HW12.out.nw rfl (.tmp 12) rfl rfl ?_)
            | (refine wpList_store_sup tyP (zero_new w11 _) rfl (.tmp 15) (.tmp 71) rfl rfl y rfl ?_; intro w12 hs12 hg12; have HW12 := Lib.hid (HW11.out.below (box_below hg12)); have HX12 := Lib.hid hs12; have hq := (HQ.out w12).trans (by rw [supEq_self]; rfl : (_ : Result Value) = .ok (.bool false) w12); have hgd := HG.out w12; clear hs12 hg12 HW11)
            | (refine wpList_store_sup tyP HW12.out.la rfl (.tmp 10) (.tmp 78) rfl rfl y rfl ?_; intro w13 hs13 hg13; have HW13 := Lib.hid (HW12.out.setL hg13 hs13); clear hs13 hg13 hq hgd))
          go_roundg (gk - 1)
          case measure => omega
          case rel => exact ⟨i + 1, _, y, y, by go_num, by omega, HSP2, Lib.hid (by have h1 := HYV.out; have h2 := HV.out; omega), Lib.hid (.inl ⟨HA2.out, rfl⟩), HW13⟩
        · have e2 : (D.svE nx == 0) = false := beq_eq_false_iff_ne.2 e0
          have HF := Lib.hid (show _ ∧ _ from ⟨hgn, hfin⟩)
          obtain ⟨z2, hz2⟩ : ∃ z2, z2 = D.svS nx := ⟨_, rfl⟩
          rw [← hz2]
          clear e0 hgn hfin HSTEP HA HNM hz2
          go_wp2_with (refine wpList_store_sup tyP (zero_new w11 _) rfl (.tmp 15) (.tmp 71) rfl rfl z2 rfl ?_; intro w12 hs12 hg12; have HW12 := Lib.hid (HW11.out.below (box_below hg12)); clear hs12 hg12 HW11)
          go_roundg (gk - 1)
          case measure => omega
          case rel => exact ⟨i + 1, _, t, y, by go_num, by omega, HSP2, Lib.hid (by have h2 := HV.out; omega), Lib.hid (.inr ⟨HF.out.1, HF.out.2⟩), HW12⟩
      · have HF := Lib.hid hfin
        clear hfin HST HSP HV
        go_wp2_with fail
        refine (gone_any HW.out.dr.dev).mono ?_
        rintro e w' ⟨rfl, hw⟩
        replace hw := hw.symm
        subst hw
        rw [hgone]
        clear hgone
        go_wp2_with fail
        refine (crash_any HW.out.dr.dev (by have := HSP1.out; omega) ck (HW.out.dr.bools HK.out)).mono ?_
        rintro e y1 ⟨rfl, hdy, hty⟩
        have HY1 := Lib.hid (HW.out.dev (HW.out.dr.turn hdy hty) hty)
        clear hdy hty
        go_wp2_with fail
        refine HY1.out.dr.load.mono ?_
        rintro e y2 ⟨rfl, hby⟩
        have HY2 := Lib.hid (HY1.out.below hby)
        obtain ⟨hl1, hl2⟩ := HF.out.load (kp kn kf)
        rw [hl1]
        clear hby HY1 hl1
        generalize (D.crash (kp kn kf)).ldS = x at *
        by_cases hxs : x = s
        · subst hxs
          go_wp2_with (refine wpList_store_sup tyP (zero_new y2 _) rfl (.tmp 17) (.tmp 85) rfl rfl x rfl ?_; intro y3 hs3 hg3; have HY3 := Lib.hid (HY2.out.below (box_below hg3)); have HBE := Lib.hid HY3.out.dr.bel; obtain ⟨x0, x1, x2, x3, x4, x5, x6⟩ := SupAt.seven hs3; obtain ⟨g0, g1, g2, g3, g4, g5, g6⟩ := HY3.out.la.seven; obtain ⟨q0, q1, q2, q3, q4, q5, q6⟩ := HY3.out.nw.seven; have hq : (binOp .eql 29 (.agg #[.int .i64 x.V, .int .i64 x.E, .int .i64 x.B, .int .i64 x.C, .int .i64 x.L, .int .i64 x.H, .int .i64 x.A]) (.agg #[.int .i64 x.V, .int .i64 x.E, .int .i64 x.B, .int .i64 x.C, .int .i64 x.L, .int .i64 x.H, .int .i64 x.A])).run Try.prog y3 = .ok (.bool true) y3 := (run_sup_eql x x y3).trans (by rw [supEq_self]); clear hs3 hg3 HY2 HY3)
          go_ret
          exact ⟨rfl, HBE.out⟩
        · have hxt : x = t := by rcases hl2 with h | h; exact absurd h hxs; exact h
          have hne : supEq x s = false := by
            cases he : supEq x s
            · rfl
            · exact absurd (supEq_iff.1 he) hxs
          clear hl2 hxs
          subst hxt
          go_wp2_with (refine wpList_store_sup tyP (zero_new y2 _) rfl (.tmp 17) (.tmp 85) rfl rfl x rfl ?_; intro y3 hs3 hg3; have HY3 := Lib.hid (HY2.out.below (box_below hg3)); have HBE := Lib.hid HY3.out.dr.bel; obtain ⟨x0, x1, x2, x3, x4, x5, x6⟩ := SupAt.seven hs3; obtain ⟨g0, g1, g2, g3, g4, g5, g6⟩ := HY3.out.la.seven; obtain ⟨q0, q1, q2, q3, q4, q5, q6⟩ := HY3.out.nw.seven; have hq1 : (binOp .eql 29 (.agg #[.int .i64 x.V, .int .i64 x.E, .int .i64 x.B, .int .i64 x.C, .int .i64 x.L, .int .i64 x.H, .int .i64 x.A]) (.agg #[.int .i64 s.V, .int .i64 s.E, .int .i64 s.B, .int .i64 s.C, .int .i64 s.L, .int .i64 s.H, .int .i64 s.A])).run Try.prog y3 = .ok (.bool false) y3 := (run_sup_eql x s y3).trans (by rw [hne]); have hq2 : (binOp .eql 29 (.agg #[.int .i64 x.V, .int .i64 x.E, .int .i64 x.B, .int .i64 x.C, .int .i64 x.L, .int .i64 x.H, .int .i64 x.A]) (.agg #[.int .i64 x.V, .int .i64 x.E, .int .i64 x.B, .int .i64 x.C, .int .i64 x.L, .int .i64 x.H, .int .i64 x.A])).run Try.prog y3 = .ok (.bool true) y3 := (run_sup_eql x x y3).trans (by rw [supEq_self]); clear hne; clear hs3 hg3 HY2 HY3)
          all_goals
            go_ret
            exact ⟨rfl, HBE.out⟩
    · obtain rfl : i = len := by omega
      have hdi : decide ((i : Int) < (i : Int)) = false := decide_eq_false (by omega)
      have HF : Hid (D.Fin s t) := Lib.hid (by
        rcases HST.out with ⟨hal, hts⟩ | ⟨_, hfin⟩
        · rw [hts]; exact hal.fin
        · exact hfin)
      clear HST HSP HV
      go_wp2_with fail
      refine (crash_any HW.out.dr.dev (by have := HSP1.out; omega) ck (HW.out.dr.bools HK.out)).mono ?_
      rintro e y1 ⟨rfl, hdy, hty⟩
      have HY1 := Lib.hid (HW.out.dev (HW.out.dr.turn hdy hty) hty)
      clear hdy hty
      go_wp2_with fail
      refine HY1.out.dr.load.mono ?_
      rintro e y2 ⟨rfl, hby⟩
      have HY2 := Lib.hid (HY1.out.below hby)
      obtain ⟨hl1, hl2⟩ := HF.out.load (kp kn kf)
      rw [hl1]
      clear hby HY1 hl1
      generalize (D.crash (kp kn kf)).ldS = x at *
      by_cases hxs : x = s
      · subst hxs
        go_wp2_with (refine wpList_store_sup tyP (zero_new y2 _) rfl (.tmp 17) (.tmp 85) rfl rfl x rfl ?_; intro y3 hs3 hg3; have HY3 := Lib.hid (HY2.out.below (box_below hg3)); have HBE := Lib.hid HY3.out.dr.bel; obtain ⟨x0, x1, x2, x3, x4, x5, x6⟩ := SupAt.seven hs3; obtain ⟨g0, g1, g2, g3, g4, g5, g6⟩ := HY3.out.la.seven; obtain ⟨q0, q1, q2, q3, q4, q5, q6⟩ := HY3.out.nw.seven; have hq : (binOp .eql 29 (.agg #[.int .i64 x.V, .int .i64 x.E, .int .i64 x.B, .int .i64 x.C, .int .i64 x.L, .int .i64 x.H, .int .i64 x.A]) (.agg #[.int .i64 x.V, .int .i64 x.E, .int .i64 x.B, .int .i64 x.C, .int .i64 x.L, .int .i64 x.H, .int .i64 x.A])).run Try.prog y3 = .ok (.bool true) y3 := (run_sup_eql x x y3).trans (by rw [supEq_self]); clear hs3 hg3 HY2 HY3)
        go_ret
        exact ⟨rfl, HBE.out⟩
      · have hxt : x = t := by rcases hl2 with h | h; exact absurd h hxs; exact h
        have hne : supEq x s = false := by
          cases he : supEq x s
          · rfl
          · exact absurd (supEq_iff.1 he) hxs
        clear hl2 hxs
        subst hxt
        go_wp2_with (refine wpList_store_sup tyP (zero_new y2 _) rfl (.tmp 17) (.tmp 85) rfl rfl x rfl ?_; intro y3 hs3 hg3; have HY3 := Lib.hid (HY2.out.below (box_below hg3)); have HBE := Lib.hid HY3.out.dr.bel; obtain ⟨x0, x1, x2, x3, x4, x5, x6⟩ := SupAt.seven hs3; obtain ⟨g0, g1, g2, g3, g4, g5, g6⟩ := HY3.out.la.seven; obtain ⟨q0, q1, q2, q3, q4, q5, q6⟩ := HY3.out.nw.seven; have hq1 : (binOp .eql 29 (.agg #[.int .i64 x.V, .int .i64 x.E, .int .i64 x.B, .int .i64 x.C, .int .i64 x.L, .int .i64 x.H, .int .i64 x.A]) (.agg #[.int .i64 s.V, .int .i64 s.E, .int .i64 s.B, .int .i64 s.C, .int .i64 s.L, .int .i64 s.H, .int .i64 s.A])).run Try.prog y3 = .ok (.bool false) y3 := (run_sup_eql x s y3).trans (by rw [hne]); have hq2 : (binOp .eql 29 (.agg #[.int .i64 x.V, .int .i64 x.E, .int .i64 x.B, .int .i64 x.C, .int .i64 x.L, .int .i64 x.H, .int .i64 x.A]) (.agg #[.int .i64 x.V, .int .i64 x.E, .int .i64 x.B, .int .i64 x.C, .int .i64 x.L, .int .i64 x.H, .int .i64 x.A])).run Try.prog y3 = .ok (.bool true) y3 := (run_sup_eql x x y3).trans (by rw [supEq_self]); clear hne; clear hs3 hg3 HY2 HY3)
        all_goals
          go_ret
          exact ⟨rfl, HBE.out⟩

end Go.Proofs.Ytojidejlohpeaaa
