/-
  TreeStays' walk.
-/
import Derived.Test.YtohnfjneghbceaaStays
import Derived.Test.YtohnfjneghbceaaSince
namespace Go.Proofs.Ytohnfjneghbceaa
set_option maxRecDepth 100000
set_option linter.unusedVariables false
open Go.RowKit Go.Shelf

theorem Acts.below' {w w0 : World} {a : Option Addr} {len : Nat} {F G : Nat → Int} (h : Acts w a len F G) (hb0 : Below w.heap.size w w0) : Acts w0 a len F G := by
  rcases h with h | ⟨b, o, e, hl, hc⟩
  · exact .inl h
  · exact .inr ⟨b, o, e, Nat.lt_of_lt_of_le hl hb0.size, fun i hi => ⟨(hb0.cell (p := ⟨b, o + i * 2, none⟩) hl).trans (hc i hi).1, (hb0.cell (p := ⟨b, o + i * 2 + 1, none⟩) hl).trans (hc i hi).2⟩⟩

/-- both trees, the one that was and the one that is -/
structure Pair (W : World) (g h : Nat) (A : Option Addr) (N k : Nat) (c : Int) (T : Tr) (A' : Option Addr) (N' k' : Nat) (c' : Int) (T' : Tr) : Prop where
  t : TB W g A N k c
  n : TB W h A' N' k' c'
  x : TxAt W A T.l
  y : TxAt W A' T'.l
  len : T'.l.length = N'
  c : T'.c = c'
  cb : c' ≤ 200
  good : Good T'
  stays : Stays T T'
theorem Pair.below {W V : World} {g h : Nat} {A : Option Addr} {N k : Nat} {c : Int} {T : Tr} {A' : Option Addr} {N' k' : Nat} {c' : Int} {T' : Tr} (p : Pair W g h A N k c T A' N' k' c' T') (hb : Below W.heap.size W V) : Pair V g h A N k c T A' N' k' c' T' :=
  ⟨p.t.below hb, p.n.below hb, p.x.below hb, p.y.below hb, p.len, p.c, p.cb, p.good, p.stays⟩

set_option maxHeartbeats 16000000 in
theorem stays_walk (a : Option Addr) (len cap : Nat) (F G : Nat → Int) (u v : Int) (w : World) (hacts : Acts w a len F G) :
    Calls Try.prog 4 #[.slice a len cap, .int .i64 u, .int .i64 v] w fun e w' => e = .returned (.bool true) ∧ Below w.heap.size w w' := by
  by_cases hlen : len ≤ 120
  · go_enter Try.func4, Try.ntmps4
    go_wp2_with fail
    refine (awake_any w).mono ?_
    rintro e w0 ⟨rfl, hb0⟩
    have HB0 := Lib.hid hb0
    have HAC := Lib.hid (hacts.below' hb0)
    clear hb0 hacts
    have hl1 : ¬ (120 : Int) < (len : Int) := by omega
    go_wp2_with fail
    refine (grown_any a len cap F G (by omega) w0 HAC.out).mono ?_
    rintro e w1 ⟨A, k, N, c, T, rfl, hN, hc, hcb, hG, hT, hb1⟩
    have HN := Lib.hid hN
    have HC := Lib.hid hc
    have HG := Lib.hid hG
    have HB1 := Lib.hid (HB0.out.trans (hb1.mono HB0.out.size))
    have HT := Lib.hid hT
    have hn64 : N ≤ 64 := by have := hG.n; omega
    clear hN hc hG hT hb1 HB0 HAC
    obtain ⟨g, hg⟩ : ∃ g, g = w1.heap.size := ⟨_, rfl⟩
    go_upto_region 5 with (first | (refine wpList_store_tree rfl (.tmp 8) (.tmp 26) rfl rfl rfl (TB.new w1 none 0 0 0) ?_; intro w2 hb2 hg2; have HT2 := Lib.hid hb2; have HG2 := Lib.hid hg2; clear hb2 hg2) | fail)
    rw [← hg] at HT2 HG2 ⊢
    have t2 : Below w1.heap.size w1 w2 := (below_new w1 _).grown HG2.out (by simp) (fun k e => by injection e with e; omega)
    have HB2 := Lib.hid (HB1.out.trans (t2.mono HB1.out.size))
    have HX2 := Lib.hid (HT.out.below t2)
    clear t2 HG2 HB1 HT hg
    obtain ⟨h, hh⟩ : ∃ h, h = w2.heap.size := ⟨_, rfl⟩
    have c0 := HT2.out.c0
    have c1 := HT2.out.c1
    go_upto_region 6 with (first | (refine wpList_store_tree rfl (.tmp 9) (.tmp 27) rfl rfl rfl (TB.new w2 none 0 0 0) ?_; intro w3 hb3 hg3; have HU3 := Lib.hid hb3; have HG3 := Lib.hid hg3; clear hb3 hg3) | fail)
    rw [← hh] at HU3 HG3 ⊢
    have t3 : Below w2.heap.size w2 w3 := (below_new w2 _).grown HG3.out (by simp) (fun k e => by injection e with e; omega)
    have HB3 := Lib.hid (HB2.out.trans (t3.mono HB2.out.size))
    have HP3 := Lib.hid (show Pair w3 g h A N k c T A N k c T from ⟨HT2.out.below t3, HU3.out, HX2.out.below t3, HX2.out.below t3, HN.out, HC.out, by omega, HG.out, Stays.refl T⟩)
    have HNE := Lib.hid (show g ≠ h from by rw [hh]; have := HT2.out.lt; omega)
    have HHL := Lib.hid (show w.heap.size ≤ h from by rw [hh]; exact HB2.out.size)
    clear t3 HG3 HB2 HT2 HX2 HU3 hh c0 c1
    obtain ⟨q, hq, hlow⟩ := low u 3 2 (by decide) (by omega)
    have hq4 : q < 4 := hq
    clear hq
    go_upto_block 0 with fail
    clear hlow
    go_cut [] from 10 to 119 (fun wc => ∃ (A' : Option Addr) (N' k' : Nat) (c' : Int) (T' : Tr), Hid (Pair wc g h A N k c T A' N' k' c' T') ∧ Hid (Below w.heap.size w wc))
    case first =>
      have hpair := HP3.out.t.c0
      have c0 := HP3.out.t.c0
      have c1 := HP3.out.t.c1
      have hqq : q = 0 ∨ q = 1 ∨ q = 2 ∨ q = 3 := by omega
      clear hpair hq4
      rcases hqq with rfl | rfl | rfl | rfl
      · go_wp2_with fail
        refine (begin_any A T N k c v HN.out HG.out HC.out (by omega) w3 HP3.out.x).mono ?_
        rintro e w4 ⟨hb4, ⟨hm, A2, k2, nn, hnn, rfl, htx⟩ | ⟨E, hE, _, rfl⟩⟩
        · have HP4 := Lib.hid (HP3.out.below hb4)
          have HB4 := Lib.hid (HB3.out.trans (hb4.mono HB3.out.size))
          have HX4 := Lib.hid htx
          have HG2 := Lib.hid (HG.out.begun hm)
          have HST := Lib.hid (stays_begun T v)
          obtain ⟨c2, hc2⟩ : ∃ c2, c2 = (T.begun v).c := ⟨_, rfl⟩
          obtain ⟨n2, hn2⟩ : ∃ n2, n2 = (T.begun v).l.length := ⟨_, rfl⟩
          have HCC := Lib.hid (show c2 = c + 1 by rw [hc2, ← HC.out]; rfl)
          rw [show nn = n2 from by rw [hnn, hn2, len_begun]]
          rw [show T.l.length = N from HN.out]
          rw [← hc2]
          have HC2 := Lib.hid hc2
          have HN2 := Lib.hid hn2
          have hin : n2 = N + 1 := by rw [hn2, len_begun, HN.out]
          have htN : (T.begun v).tx N = ⟨v, 1, T.c + 1, 0⟩ := by rw [← HN.out]; exact tx_begun_new
          have HTN := Lib.hid htN
          have HIN := Lib.hid hin
          clear hb4 htx c0 c1 hc2 hn2 htN hin
          obtain ⟨br, ebr, hbr, q0, q1, _, _⟩ := HX4.out.get (i := N) (by rw [len_begun, HN.out]; omega)
          rw [HTN.out] at q0 q1
          subst ebr
          simp only at q0 q1
          have hlt2 : N < n2 := by have := HIN.out; omega
          have hle2 : ¬ n2 ≤ N := by omega
          have hlt2i : ¬ (n2 : Int) ≤ (N : Int) := by omega
          go_wp2_with (first | (refine wpList_store_tree rfl (.tmp 10) (.tmp 37) rfl rfl rfl (TB.new w4 none 0 0 0) ?_; intro w5 hb5 hg5; have k0 := hb5.c0; have k1 := hb5.c1; have HB5 := Lib.hid hb5; have HG5 := Lib.hid hg5; have hu5 := (HP4.out.n.below (below_new w4 (.cells #[.slice none 0 0, .int .i64 0] 26))).far hg5 (by intro e; injection e with e; have := HP4.out.n.lt; omega); have HU5 := Lib.hid hu5; clear hu5; have t0 := (HP4.out.t.below ((below_new w4 _).grown hg5 (by simp) (fun k e => by injection e with e; omega))).c0; have r0 := (((below_new w4 (.cells #[.slice none 0 0, .int .i64 0] 26)).grown hg5 (by simp) (fun k e => by injection e with e; omega)).cell (p := ⟨br, N * 4, none⟩) hbr).trans q0; have r1 := (((below_new w4 (.cells #[.slice none 0 0, .int .i64 0] 26)).grown hg5 (by simp) (fun k e => by injection e with e; omega)).cell (p := ⟨br, N * 4 + 1, none⟩) hbr).trans q1; clear q0 q1; clear hb5 hg5) | (refine wpList_store_tree rfl (.tmp 9) (.tmp 73) rfl rfl rfl HU5.out ?_; intro w6 hb6 hg6; have HU6 := Lib.hid hb6; have HG6 := Lib.hid hg6; clear hb6 hg6) | fail)
          have t5 : Below w4.heap.size w4 w5 := (below_new w4 _).grown HG5.out (by simp) (fun k e => by injection e with e; omega)
          have hp6 : Pair w6 g h A N k c T (some ⟨br, 0, none⟩) n2 k2 c2 (T.begun v) := ⟨(HP4.out.t.below t5).far HG6.out (fun e => by injection e with e; exact HNE.out e), HU6.out, (HP4.out.x.below t5).box HU5.out HG6.out, (HX4.out.below t5).box HU5.out HG6.out, HN2.out.symm, HC2.out.symm, by have := HCC.out; omega, HG2.out, HST.out⟩
          have hb6 : Below w.heap.size w w6 := (HB4.out.trans (t5.mono HB4.out.size)).grown HG6.out (Nat.le_trans HB4.out.size t5.size) (fun k e => by injection e with e; have := HHL.out; omega)
          go_meet
          case rel => exact ⟨_, _, _, _, _, hp6, hb6⟩
        · have HP4 := Lib.hid (HP3.out.below hb4)
          have HB4 := Lib.hid (HB3.out.trans (hb4.mono HB3.out.size))
          have hEb : (E == 0) = false := by simpa using hE
          clear hb4 c0 c1 hE
          go_wp2_with (first | (refine wpList_store_tree rfl (.tmp 10) (.tmp 37) rfl rfl rfl (TB.new w4 none 0 0 0) ?_; intro w5 hb5 hg5; have k0 := hb5.c0; have k1 := hb5.c1; have HB5 := Lib.hid hb5; have HG5 := Lib.hid hg5; have hu5 := (HP4.out.n.below (below_new w4 (.cells #[.slice none 0 0, .int .i64 0] 26))).far hg5 (by intro e; injection e with e; have := HP4.out.n.lt; omega); have HU5 := Lib.hid hu5; clear hu5; clear hb5 hg5) | (refine wpList_store_tree rfl (.tmp 9) (.tmp 73) rfl rfl rfl HU5.out ?_; intro w6 hb6 hg6; have HU6 := Lib.hid hb6; have HG6 := Lib.hid hg6; clear hb6 hg6) | fail)
          have t5 : Below w4.heap.size w4 w5 := (below_new w4 _).grown HG5.out (by simp) (fun k e => by injection e with e; omega)
          go_meet
          case rel => exact ⟨A, N, k, c, T, HP4.out.below t5, HB4.out.trans (t5.mono HB4.out.size)⟩
      · go_wp2_with fail
        refine (begin_any A T N k c v HN.out HG.out HC.out (by omega) w3 HP3.out.x).mono ?_
        rintro e w4 ⟨hb4, ⟨hm, A2, k2, nn, hnn, rfl, htx⟩ | ⟨E, hE, _, rfl⟩⟩
        · have HP4 := Lib.hid (HP3.out.below hb4)
          have HB4 := Lib.hid (HB3.out.trans (hb4.mono HB3.out.size))
          have HX4 := Lib.hid htx
          have HG2 := Lib.hid (HG.out.begun hm)
          have HST := Lib.hid (stays_begun T v)
          obtain ⟨c2, hc2⟩ : ∃ c2, c2 = (T.begun v).c := ⟨_, rfl⟩
          obtain ⟨n2, hn2⟩ : ∃ n2, n2 = (T.begun v).l.length := ⟨_, rfl⟩
          have HCC := Lib.hid (show c2 = c + 1 by rw [hc2, ← HC.out]; rfl)
          rw [show nn = n2 from by rw [hnn, hn2, len_begun]]
          rw [show T.l.length = N from HN.out]
          rw [← hc2]
          have HC2 := Lib.hid hc2
          have HN2 := Lib.hid hn2
          have hin : n2 = N + 1 := by rw [hn2, len_begun, HN.out]
          have htN : (T.begun v).tx N = ⟨v, 1, T.c + 1, 0⟩ := by rw [← HN.out]; exact tx_begun_new
          have HTN := Lib.hid htN
          have HIN := Lib.hid hin
          clear hb4 htx c0 c1 hc2 hn2 htN hin
          obtain ⟨br, ebr, hbr, q0, q1, _, _⟩ := HX4.out.get (i := N) (by rw [len_begun, HN.out]; omega)
          rw [HTN.out] at q0 q1
          subst ebr
          simp only at q0 q1
          have hlt2 : N < n2 := by have := HIN.out; omega
          have hle2 : ¬ n2 ≤ N := by omega
          have hlt2i : ¬ (n2 : Int) ≤ (N : Int) := by omega
          go_wp2_with (first | (refine wpList_store_tree rfl (.tmp 10) (.tmp 37) rfl rfl rfl (TB.new w4 none 0 0 0) ?_; intro w5 hb5 hg5; have k0 := hb5.c0; have k1 := hb5.c1; have HB5 := Lib.hid hb5; have HG5 := Lib.hid hg5; have hu5 := (HP4.out.n.below (below_new w4 (.cells #[.slice none 0 0, .int .i64 0] 26))).far hg5 (by intro e; injection e with e; have := HP4.out.n.lt; omega); have HU5 := Lib.hid hu5; clear hu5; have t0 := (HP4.out.t.below ((below_new w4 _).grown hg5 (by simp) (fun k e => by injection e with e; omega))).c0; have r0 := (((below_new w4 (.cells #[.slice none 0 0, .int .i64 0] 26)).grown hg5 (by simp) (fun k e => by injection e with e; omega)).cell (p := ⟨br, N * 4, none⟩) hbr).trans q0; have r1 := (((below_new w4 (.cells #[.slice none 0 0, .int .i64 0] 26)).grown hg5 (by simp) (fun k e => by injection e with e; omega)).cell (p := ⟨br, N * 4 + 1, none⟩) hbr).trans q1; clear q0 q1; clear hb5 hg5) | (refine wpList_store_tree rfl (.tmp 9) (.tmp 73) rfl rfl rfl HU5.out ?_; intro w6 hb6 hg6; have HU6 := Lib.hid hb6; have HG6 := Lib.hid hg6; clear hb6 hg6) | fail)
          have t5 : Below w4.heap.size w4 w5 := (below_new w4 _).grown HG5.out (by simp) (fun k e => by injection e with e; omega)
          have hp6 : Pair w6 g h A N k c T (some ⟨br, 0, none⟩) n2 k2 c2 (T.begun v) := ⟨(HP4.out.t.below t5).far HG6.out (fun e => by injection e with e; exact HNE.out e), HU6.out, (HP4.out.x.below t5).box HU5.out HG6.out, (HX4.out.below t5).box HU5.out HG6.out, HN2.out.symm, HC2.out.symm, by have := HCC.out; omega, HG2.out, HST.out⟩
          have hb6 : Below w.heap.size w w6 := (HB4.out.trans (t5.mono HB4.out.size)).grown HG6.out (Nat.le_trans HB4.out.size t5.size) (fun k e => by injection e with e; have := HHL.out; omega)
          go_meet
          case rel => exact ⟨_, _, _, _, _, hp6, hb6⟩
        · have HP4 := Lib.hid (HP3.out.below hb4)
          have HB4 := Lib.hid (HB3.out.trans (hb4.mono HB3.out.size))
          have hEb : (E == 0) = false := by simpa using hE
          clear hb4 c0 c1 hE
          go_wp2_with (first | (refine wpList_store_tree rfl (.tmp 10) (.tmp 37) rfl rfl rfl (TB.new w4 none 0 0 0) ?_; intro w5 hb5 hg5; have k0 := hb5.c0; have k1 := hb5.c1; have HB5 := Lib.hid hb5; have HG5 := Lib.hid hg5; have hu5 := (HP4.out.n.below (below_new w4 (.cells #[.slice none 0 0, .int .i64 0] 26))).far hg5 (by intro e; injection e with e; have := HP4.out.n.lt; omega); have HU5 := Lib.hid hu5; clear hu5; clear hb5 hg5) | (refine wpList_store_tree rfl (.tmp 9) (.tmp 73) rfl rfl rfl HU5.out ?_; intro w6 hb6 hg6; have HU6 := Lib.hid hb6; have HG6 := Lib.hid hg6; clear hb6 hg6) | fail)
          have t5 : Below w4.heap.size w4 w5 := (below_new w4 _).grown HG5.out (by simp) (fun k e => by injection e with e; omega)
          go_meet
          case rel => exact ⟨A, N, k, c, T, HP4.out.below t5, HB4.out.trans (t5.mono HB4.out.size)⟩
      · go_wp2_with fail
        refine (commit_any A T N k c v HN.out HG.out HC.out (by omega) w3 HP3.out.x).mono ?_
        rintro e w4 ⟨hb4, ⟨ci, rfl, hm, A2, k2, nn, hnn, rfl, htx⟩ | ⟨E, hE, _, rfl⟩⟩
        · have HP4 := Lib.hid (HP3.out.below hb4)
          have HB4 := Lib.hid (HB3.out.trans (hb4.mono HB3.out.size))
          have HX4 := Lib.hid htx
          have HG2 := Lib.hid (HG.out.done hm)
          have HST := Lib.hid (stays_done hm)
          obtain ⟨c2, hc2⟩ : ∃ c2, c2 = (T.done ci).c := ⟨_, rfl⟩
          obtain ⟨n2, hn2⟩ : ∃ n2, n2 = (T.done ci).l.length := ⟨_, rfl⟩
          have HCC := Lib.hid (show c2 = c + 1 by rw [hc2, ← HC.out]; rfl)
          rw [show nn = n2 from by rw [hnn, hn2]; unfold Tr.done; rw [len_turned]]
          rw [← hc2]
          have HC2 := Lib.hid hc2
          have HN2 := Lib.hid hn2
          clear hb4 htx c0 c1 hc2 hn2
          go_wp2_with (first | (refine wpList_store_tree rfl (.tmp 13) (.tmp 80) rfl rfl rfl (TB.new w4 none 0 0 0) ?_; intro w5 hb5 hg5; have k0 := hb5.c0; have k1 := hb5.c1; have HB5 := Lib.hid hb5; have HG5 := Lib.hid hg5; have hu5 := (HP4.out.n.below (below_new w4 (.cells #[.slice none 0 0, .int .i64 0] 26))).far hg5 (by intro e; injection e with e; have := HP4.out.n.lt; omega); have HU5 := Lib.hid hu5; clear hu5; clear hb5 hg5) | (refine wpList_store_tree rfl (.tmp 9) (.tmp 84) rfl rfl rfl HU5.out ?_; intro w6 hb6 hg6; have HU6 := Lib.hid hb6; have HG6 := Lib.hid hg6; clear hb6 hg6) | fail)
          have t5 : Below w4.heap.size w4 w5 := (below_new w4 _).grown HG5.out (by simp) (fun k e => by injection e with e; omega)
          have hp6 : Pair w6 g h A N k c T A2 n2 k2 c2 (T.done ci) := ⟨(HP4.out.t.below t5).far HG6.out (fun e => by injection e with e; exact HNE.out e), HU6.out, (HP4.out.x.below t5).box HU5.out HG6.out, (HX4.out.below t5).box HU5.out HG6.out, HN2.out.symm, HC2.out.symm, by have := HCC.out; omega, HG2.out, HST.out⟩
          have hb6 : Below w.heap.size w w6 := (HB4.out.trans (t5.mono HB4.out.size)).grown HG6.out (Nat.le_trans HB4.out.size t5.size) (fun k e => by injection e with e; have := HHL.out; omega)
          go_meet
          case rel => exact ⟨_, _, _, _, _, hp6, hb6⟩
        · have HP4 := Lib.hid (HP3.out.below hb4)
          have HB4 := Lib.hid (HB3.out.trans (hb4.mono HB3.out.size))
          have hEb : (E == 0) = false := by simpa using hE
          clear hb4 c0 c1 hE
          go_wp2_with (first | (refine wpList_store_tree rfl (.tmp 13) (.tmp 80) rfl rfl rfl (TB.new w4 none 0 0 0) ?_; intro w5 hb5 hg5; have k0 := hb5.c0; have k1 := hb5.c1; have HB5 := Lib.hid hb5; have HG5 := Lib.hid hg5; have hu5 := (HP4.out.n.below (below_new w4 (.cells #[.slice none 0 0, .int .i64 0] 26))).far hg5 (by intro e; injection e with e; have := HP4.out.n.lt; omega); have HU5 := Lib.hid hu5; clear hu5; clear hb5 hg5) | (refine wpList_store_tree rfl (.tmp 9) (.tmp 84) rfl rfl rfl HU5.out ?_; intro w6 hb6 hg6; have HU6 := Lib.hid hb6; have HG6 := Lib.hid hg6; clear hb6 hg6) | fail)
          have t5 : Below w4.heap.size w4 w5 := (below_new w4 _).grown HG5.out (by simp) (fun k e => by injection e with e; omega)
          go_meet
          case rel => exact ⟨A, N, k, c, T, HP4.out.below t5, HB4.out.trans (t5.mono HB4.out.size)⟩
      · go_wp2_with fail
        refine (abort_any A T N k c v HN.out HG.out HC.out (by omega) w3 HP3.out.x).mono ?_
        rintro e w4 ⟨hb4, ⟨ci, rfl, hci, hcs, A2, k2, nn, B2, kb2, m2, hnn, hm2, rfl, htx, hids⟩ | ⟨E, hE, _, rfl⟩⟩
        · have HP4 := Lib.hid (HP3.out.below hb4)
          have HB4 := Lib.hid (HB3.out.trans (hb4.mono HB3.out.size))
          have HX4 := Lib.hid htx
          have HG2 := Lib.hid (HG.out.undone (id := ci))
          have HST := Lib.hid (stays_undone hcs)
          obtain ⟨c2, hc2⟩ : ∃ c2, c2 = (T.undone ci).c := ⟨_, rfl⟩
          obtain ⟨n2, hn2⟩ : ∃ n2, n2 = (T.undone ci).l.length := ⟨_, rfl⟩
          have HCC := Lib.hid (show c2 = c + 1 by rw [hc2, ← HC.out]; rfl)
          rw [show nn = n2 from by rw [hnn, hn2]; unfold Tr.undone; rw [len_turned]]
          rw [← hc2]
          have HC2 := Lib.hid hc2
          have HN2 := Lib.hid hn2
          clear hb4 htx c0 c1 hc2 hn2
          rw [HN.out] at hids hm2
          have HM2 := Lib.hid hm2
          have HID := Lib.hid hids
          have HCI := Lib.hid hci
          have hm64 : m2 ≤ 64 := by rw [hm2]; have := gone_len T ci N; omega
          clear hids hm2 hci hcs hnn
          go_wp2_with (first | (refine wpList_store_tree rfl (.tmp 15) (.tmp 91) rfl rfl rfl (TB.new w4 none 0 0 0) ?_; intro w5 hb5 hg5; have k0 := hb5.c0; have k1 := hb5.c1; have HB5 := Lib.hid hb5; have HG5 := Lib.hid hg5; have hu5 := (HP4.out.n.below (below_new w4 (.cells #[.slice none 0 0, .int .i64 0] 26))).far hg5 (by intro e; injection e with e; have := HP4.out.n.lt; omega); have HU5 := Lib.hid hu5; clear hu5; clear hb5 hg5) | (refine wpList_store_tree rfl (.tmp 9) (.tmp 96) rfl rfl rfl HU5.out ?_; intro w6 hb6 hg6; have HU6 := Lib.hid hb6; have HG6 := Lib.hid hg6; clear hb6 hg6) | fail)
          have t5 : Below w4.heap.size w4 w5 := (below_new w4 _).grown HG5.out (by simp) (fun k e => by injection e with e; omega)
          have hp6 : Pair w6 g h A N k c T A2 n2 k2 c2 (T.undone ci) := ⟨(HP4.out.t.below t5).far HG6.out (fun e => by injection e with e; exact HNE.out e), HU6.out, (HP4.out.x.below t5).box HU5.out HG6.out, (HX4.out.below t5).box HU5.out HG6.out, HN2.out.symm, HC2.out.symm, by have := HCC.out; omega, HG2.out, HST.out⟩
          have hb6 : Below w.heap.size w w6 := (HB4.out.trans (t5.mono HB4.out.size)).grown HG6.out (Nat.le_trans HB4.out.size t5.size) (fun k e => by injection e with e; have := HHL.out; omega)
          have HP6 := Lib.hid hp6
          have HB6 := Lib.hid hb6
          have HX6 := Lib.hid ((HX4.out.below t5).box HU5.out HG6.out)
          have HU15 := Lib.hid (HB5.out.far HG6.out (fun e => by injection e with e; have := HP4.out.n.lt; omega))
          have HI6 := Lib.hid (show IdAt w6 B2 (T.gone ci N) from (HID.out.below t5).box HU5.out HG6.out)
          clear hp6 hb6 t5 k0 k1 HB5 HG5 HG6 HU5 HU6 HP4 HX4 HID HB4
          have HS9 := Lib.hid (show Since w6 w6 from Below.refl _ _)
          go_loopw [18] (fun jv wr => ∃ j : Nat, jv = .int .i64 (j : Int) ∧ j ≤ m2 ∧ Hid (Since w6 wr)) (fun jv _ => m2 - (intOf jv).toNat)
          case atStart => exact ⟨0, rfl, Nat.zero_le _, HS9.out⟩
          case round =>
            obtain ⟨j, rfl, hj, hsw⟩ := hrel
            clear HS9
            rcases Nat.lt_or_ge j m2 with hlt | hge
            · go_upto_region 25 with fail
              obtain ⟨wz, hwz⟩ : ∃ wz, wz = wr := ⟨_, rfl⟩
              subst hwz
              obtain ⟨x, hx⟩ : ∃ x, (T.gone ci N)[j]? = some x := ⟨_, List.getElem?_eq_getElem (by rw [← HM2.out]; exact hlt)⟩
              obtain ⟨bi, ebi, hbi, ck⟩ := (HI6.out.below hsw.out).get2 hx
              have hxg := gone_mem (T := T) (List.mem_of_getElem? hx)
              subst ebi
              have ck0 := fun (V : World) (hV : Since wz V) => (hV.cell (p := ⟨bi, j, none⟩) hbi).trans ck
              have t0 := fun (V : World) (hV : Since wz V) => (HP6.out.t.below (since_trans hsw.out hV)).c0
              have t1 := fun (V : World) (hV : Since wz V) => (HP6.out.t.below (since_trans hsw.out hV)).c1
              have u0 := fun (V : World) (hV : Since wz V) => (HU15.out.below (since_trans hsw.out hV)).c0
              have u1 := fun (V : World) (hV : Since wz V) => (HU15.out.below (since_trans hsw.out hV)).c1
              have hw := fun (V : World) (hV : Since wz V) => within_any A T N k c x ci HN.out HG.out V (HP6.out.x.below (since_trans hsw.out hV))
              rw [stands_nat (by rw [HN.out]; exact hxg.1), decide_eq_true hxg.2.1] at hw
              have hlo := fun (V : World) (hV : Since wz V) => lost_any A2 (T.undone ci) n2 k2 c2 x HN2.out.symm HG2.out V (HX6.out.below (since_trans hsw.out hV))
              rw [lost_undone (by rw [HN.out]; exact hxg.1) hxg.2.1] at hlo
              have HW := Lib.hid hw
              have HLO := Lib.hid hlo
              clear hw hlo ck hx hxg
              refine wp_region_since (by kernel_rfl) ?_
              have hS : Since wz (World.drew wz) := (Below.refl _ _).drew
              refine wpAnyH_take (i := 0) (oi := ⟨some 103, _, _, _, _, _⟩) (v := ?_) rfl (by kernel_rfl) (by kernel_rfl) (by kernel_rfl) (fun _ _ _ h => h) (Or.inl ⟨by rfl, ?_⟩) hS ?_
              rotate_left
              · intro W hW; go_simp; with_reducible rfl
              try simp only [Act.put, List.setIfInBounds_toArray, List.set_cons_zero, List.set_cons_succ]
              refine wpAnyH_take (i := 1) (oi := ⟨some 104, _, _, _, _, _⟩) (v := ?_) rfl (by kernel_rfl) (by kernel_rfl) (by kernel_rfl) (fun _ _ _ h => h) (Or.inl ⟨by rfl, ?_⟩) hS ?_
              rotate_left
              · intro W hW; go_simp; with_reducible rfl
              try simp only [Act.put, List.setIfInBounds_toArray, List.set_cons_zero, List.set_cons_succ]
              refine wpAnyH_take (i := 2) (oi := ⟨some 105, _, _, _, _, _⟩) (v := ?_) rfl (by kernel_rfl) (by kernel_rfl) (by kernel_rfl) (fun _ _ _ h => h) (Or.inl ⟨by rfl, ?_⟩) hS ?_
              rotate_left
              · intro W hW; go_simp; with_reducible rfl
              try simp only [Act.put, List.setIfInBounds_toArray, List.set_cons_zero, List.set_cons_succ]
              refine wpAnyH_take (i := 3) (oi := ⟨some 106, _, _, _, _, _⟩) (v := ?_) rfl (by kernel_rfl) (by kernel_rfl) (by kernel_rfl) (fun _ _ _ h => h) (Or.inl ⟨by rfl, ?_⟩) hS ?_
              rotate_left
              · intro W hW; go_simp; with_reducible rfl
              try simp only [Act.put, List.setIfInBounds_toArray, List.set_cons_zero, List.set_cons_succ]
              refine wpAnyH_take (i := 4) (oi := ⟨some 107, _, _, _, _, _⟩) (v := ?_) rfl (by kernel_rfl) (by kernel_rfl) (by kernel_rfl) (fun _ _ _ h => h) (Or.inl ⟨by rfl, ?_⟩) hS ?_
              rotate_left
              · intro W hW; go_simp; with_reducible rfl
              try simp only [Act.put, List.setIfInBounds_toArray, List.set_cons_zero, List.set_cons_succ]
              refine wpAnyH_take (i := 5) (oi := ⟨some 108, _, _, _, _, _⟩) (v := ?_) rfl (by kernel_rfl) (by kernel_rfl) (by kernel_rfl) (fun _ _ _ h => h) (Or.inl ⟨by rfl, ?_⟩) hS ?_
              rotate_left
              · intro W hW; go_simp; with_reducible rfl
              try simp only [Act.put, List.setIfInBounds_toArray, List.set_cons_zero, List.set_cons_succ]
              refine wpAnyH_ready (rs := [6]) (by kernel_rfl) (by simp) ?_
              refine AllReadyH.cons (o := ⟨some 109, _, _, _, _, _⟩) rfl (fun Kr hKr => ?_) AllReadyH.nil
              -- operation 6: a call
              go_simp
              refine (HW.out _ hS).mono ?_
              rintro e V0 ⟨rfl, hx⟩
              show Kr _ _
              refine hKr.out _ _ ?_ (fun _ => ?_)
              · exact since_trans hS hx
              clear hKr Kr
              replace hS : Since wz V0 := since_trans hS hx
              try simp only [Act.put, List.setIfInBounds_toArray, List.set_cons_zero, List.set_cons_succ]
              refine wpAnyH_take (i := 7) (oi := ⟨some 110, _, _, _, _, _⟩) (v := ?_) rfl (by kernel_rfl) (by kernel_rfl) (by kernel_rfl) (fun _ _ _ h => h) (Or.inl ⟨by rfl, ?_⟩) hS ?_
              rotate_left
              · intro W hW; go_simp; with_reducible rfl
              try simp only [Act.put, List.setIfInBounds_toArray, List.set_cons_zero, List.set_cons_succ]
              refine wpAnyH_take (i := 8) (oi := ⟨some 111, _, _, _, _, _⟩) (v := ?_) rfl (by kernel_rfl) (by kernel_rfl) (by kernel_rfl) (fun _ _ _ h => h) (Or.inl ⟨by rfl, ?_⟩) hS ?_
              rotate_left
              · intro W hW; go_simp; with_reducible rfl
              try simp only [Act.put, List.setIfInBounds_toArray, List.set_cons_zero, List.set_cons_succ]
              refine wpAnyH_take (i := 9) (oi := ⟨some 112, _, _, _, _, _⟩) (v := ?_) rfl (by kernel_rfl) (by kernel_rfl) (by kernel_rfl) (fun _ _ _ h => h) (Or.inl ⟨by rfl, ?_⟩) hS ?_
              rotate_left
              · intro W hW; go_simp; with_reducible rfl
              try simp only [Act.put, List.setIfInBounds_toArray, List.set_cons_zero, List.set_cons_succ]
              refine wpAnyH_take (i := 10) (oi := ⟨some 113, _, _, _, _, _⟩) (v := ?_) rfl (by kernel_rfl) (by kernel_rfl) (by kernel_rfl) (fun _ _ _ h => h) (Or.inl ⟨by rfl, ?_⟩) hS ?_
              rotate_left
              · intro W hW; go_simp; with_reducible rfl
              try simp only [Act.put, List.setIfInBounds_toArray, List.set_cons_zero, List.set_cons_succ]
              refine wpAnyH_take (i := 11) (oi := ⟨some 114, _, _, _, _, _⟩) (v := ?_) rfl (by kernel_rfl) (by kernel_rfl) (by kernel_rfl) (fun _ _ _ h => h) (Or.inl ⟨by rfl, ?_⟩) hS ?_
              rotate_left
              · intro W hW; go_simp; with_reducible rfl
              try simp only [Act.put, List.setIfInBounds_toArray, List.set_cons_zero, List.set_cons_succ]
              refine wpAnyH_take (i := 12) (oi := ⟨some 115, _, _, _, _, _⟩) (v := ?_) rfl (by kernel_rfl) (by kernel_rfl) (by kernel_rfl) (fun _ _ _ h => h) (Or.inl ⟨by rfl, ?_⟩) hS ?_
              rotate_left
              · intro W hW; go_simp; with_reducible rfl
              try simp only [Act.put, List.setIfInBounds_toArray, List.set_cons_zero, List.set_cons_succ]
              refine wpAnyH_take (i := 13) (oi := ⟨some 116, _, _, _, _, _⟩) (v := ?_) rfl (by kernel_rfl) (by kernel_rfl) (by kernel_rfl) (fun _ _ _ h => h) (Or.inl ⟨by rfl, ?_⟩) hS ?_
              rotate_left
              · intro W hW; go_simp; with_reducible rfl
              try simp only [Act.put, List.setIfInBounds_toArray, List.set_cons_zero, List.set_cons_succ]
              refine wpAnyH_ready (rs := [14]) (by kernel_rfl) (by simp) ?_
              refine AllReadyH.cons (o := ⟨some 117, _, _, _, _, _⟩) rfl (fun Kr hKr => ?_) AllReadyH.nil
              -- operation 14: a call
              go_simp
              refine (HLO.out _ hS).mono ?_
              rintro e V1 ⟨rfl, hx⟩
              show Kr _ _
              refine hKr.out _ _ ?_ (fun _ => ?_)
              · exact since_trans hS hx
              clear hKr Kr
              replace hS : Since wz V1 := since_trans hS hx
              try simp only [Act.put, List.setIfInBounds_toArray, List.set_cons_zero, List.set_cons_succ]
              refine wpAnyH_take (i := 15) (oi := ⟨some 118, _, _, _, _, _⟩) (v := ?_) rfl (by kernel_rfl) (by kernel_rfl) (by kernel_rfl) (fun _ _ _ h => h) (Or.inl ⟨by rfl, ?_⟩) hS ?_
              rotate_left
              · intro W hW; go_simp; with_reducible rfl
              try simp only [Act.put, List.setIfInBounds_toArray, List.set_cons_zero, List.set_cons_succ]
              refine wpAnyH_take (i := 16) (oi := ⟨some 119, _, _, _, _, _⟩) (v := ?_) rfl (by kernel_rfl) (by kernel_rfl) (by kernel_rfl) (fun _ _ _ h => h) (Or.inl ⟨by rfl, ?_⟩) hS ?_
              rotate_left
              · intro W hW; go_simp; with_reducible rfl
              try simp only [Act.put, List.setIfInBounds_toArray, List.set_cons_zero, List.set_cons_succ]
              refine wpAnyH_done (by kernel_rfl) ?_ _
              have HSV := Lib.hid (since_trans hsw.out hS)
              clear hS t0 t1 u0 u1 ck0
              go_wp2_with fail
              go_roundw
              case rel => exact ⟨j + 1, by simp, by omega, HSV.out⟩
              case measure => simp [intOf]; omega
            · obtain rfl : j = m2 := by omega
              go_wp2_with fail
              go_meet
              case rel => exact ⟨_, _, _, _, _, HP6.out.below hsw.out, HB6.out.trans (hsw.out.mono HB6.out.size)⟩
        · have HP4 := Lib.hid (HP3.out.below hb4)
          have HB4 := Lib.hid (HB3.out.trans (hb4.mono HB3.out.size))
          have hEb : (E == 0) = false := by simpa using hE
          clear hb4 c0 c1 hE
          go_wp2_with (first | (refine wpList_store_tree rfl (.tmp 15) (.tmp 91) rfl rfl rfl (TB.new w4 none 0 0 0) ?_; intro w5 hb5 hg5; have k0 := hb5.c0; have k1 := hb5.c1; have HB5 := Lib.hid hb5; have HG5 := Lib.hid hg5; have hu5 := (HP4.out.n.below (below_new w4 (.cells #[.slice none 0 0, .int .i64 0] 26))).far hg5 (by intro e; injection e with e; have := HP4.out.n.lt; omega); have HU5 := Lib.hid hu5; clear hu5; clear hb5 hg5) | (refine wpList_store_tree rfl (.tmp 9) (.tmp 96) rfl rfl rfl HU5.out ?_; intro w6 hb6 hg6; have HU6 := Lib.hid hb6; have HG6 := Lib.hid hg6; clear hb6 hg6) | fail)
          have t5 : Below w4.heap.size w4 w5 := (below_new w4 _).grown HG5.out (by simp) (fun k e => by injection e with e; omega)
          go_meet
          case rel => exact ⟨A, N, k, c, T, HP4.out.below t5, HB4.out.trans (t5.mono HB4.out.size)⟩
    case rest =>
      obtain ⟨A', N', k', c', T', HP, HBR⟩ := hcut
      clear HP3 HB3
      go_wp2_with fail
      go_loopw [19] (fun jv wr => ∃ j : Nat, jv = .int .i64 (j : Int) ∧ j ≤ N ∧ Hid (Pair wr g h A N k c T A' N' k' c' T') ∧ Hid (Below w.heap.size w wr)) (fun jv _ => N - (intOf jv).toNat)
      case atStart => exact ⟨0, rfl, Nat.zero_le _, HP.out, HBR.out⟩
      case round =>
        obtain ⟨j, rfl, hj, HPR, HBB⟩ := hrel
        clear HP HBR
        have c0 := HPR.out.t.c0
        rcases Nat.lt_or_ge j N with hlt | hge
        · have hjl : j < T.l.length := by rw [HN.out]; exact hlt
          have hjl' : j < T'.l.length := Nat.lt_of_lt_of_le hjl HPR.out.stays.len
          go_upto_region 30 with fail
          clear c0
          obtain ⟨wz, hwz⟩ : ∃ wz, wz = wr := ⟨_, rfl⟩
          subst hwz
          have k0 := fun (V : World) (hV : Since wz V) => (HPR.out.t.below hV).c0
          have k1 := fun (V : World) (hV : Since wz V) => (HPR.out.t.below hV).c1
          have n0 := fun (V : World) (hV : Since wz V) => (HPR.out.n.below hV).c0
          have n1 := fun (V : World) (hV : Since wz V) => (HPR.out.n.below hV).c1
          have hf := fun (V : World) (hV : Since wz V) => fixed_any A T N k c j HN.out HG.out V (HPR.out.x.below hV)
          have hl := fun (V : World) (hV : Since wz V) => lost_any A T N k c j HN.out HG.out V (HPR.out.x.below hV)
          have ht := fun (V : World) (hV : Since wz V) => top_any A T N k c j HN.out HG.out V (HPR.out.x.below hV)
          have hf' := fun (V : World) (hV : Since wz V) => fixed_any A' T' N' k' c' j HPR.out.len HPR.out.good V (HPR.out.y.below hV)
          have hl' := fun (V : World) (hV : Since wz V) => lost_any A' T' N' k' c' j HPR.out.len HPR.out.good V (HPR.out.y.below hV)
          have ht' := fun (V : World) (hV : Since wz V) => top_any A' T' N' k' c' j HPR.out.len HPR.out.good V (HPR.out.y.below hV)
          rw [HPR.out.stays.top j hjl] at ht'
          have hsf := HPR.out.stays.fixed j hjl
          have hsl := HPR.out.stays.lost j hjl
          obtain ⟨tt, htt⟩ : ∃ tt, tt = T.top (j : Int) := ⟨_, rfl⟩
          rw [← htt] at ht ht'
          have HTP := Lib.hid ht
          have HTP' := Lib.hid ht'
          clear ht ht' htt
          obtain ⟨f1, hf1⟩ : ∃ f1, f1 = T.fixed (j : Int) := ⟨_, rfl⟩
          obtain ⟨l1, hl1⟩ : ∃ l1, l1 = T.lost (j : Int) := ⟨_, rfl⟩
          rw [← hf1] at hf hsf
          rw [← hl1] at hl hsl
          clear hf1 hl1
          cases f1 with
          | false =>
            cases l1 with
            | false =>
              have HF := Lib.hid hf
              have HF' := Lib.hid hf'
              have HL := Lib.hid hl
              have HL' := Lib.hid hl'
              clear hf hf' hl hl' hsf hsl
              refine wp_region_since (by kernel_rfl) ?_
              have hS : Since wz (World.drew wz) := (Below.refl _ _).drew
              refine wpAnyH_take (i := 0) (oi := ⟨some 127, _, _, _, _, _⟩) (v := ?_) rfl (by kernel_rfl) (by kernel_rfl) (by kernel_rfl) (fun _ _ _ h => h) (Or.inl ⟨by rfl, ?_⟩) hS ?_
              rotate_left
              · intro W hW; go_simp; with_reducible rfl
              try simp only [Act.put, List.setIfInBounds_toArray, List.set_cons_zero, List.set_cons_succ]
              refine wpAnyH_take (i := 1) (oi := ⟨some 128, _, _, _, _, _⟩) (v := ?_) rfl (by kernel_rfl) (by kernel_rfl) (by kernel_rfl) (fun _ _ _ h => h) (Or.inl ⟨by rfl, ?_⟩) hS ?_
              rotate_left
              · intro W hW; go_simp; with_reducible rfl
              try simp only [Act.put, List.setIfInBounds_toArray, List.set_cons_zero, List.set_cons_succ]
              refine wpAnyH_ready (rs := [2]) (by kernel_rfl) (by simp) ?_
              refine AllReadyH.cons (o := ⟨some 129, _, _, _, _, _⟩) rfl (fun Kr hKr => ?_) AllReadyH.nil
              -- operation 2: a call
              go_simp
              refine (HF.out _ hS).mono ?_
              rintro e V0 ⟨rfl, hx⟩
              show Kr _ _
              refine hKr.out _ _ ?_ (fun _ => ?_)
              · exact since_trans hS hx
              clear hKr Kr
              replace hS : Since wz V0 := since_trans hS hx
              try simp only [Act.put, List.setIfInBounds_toArray, List.set_cons_zero, List.set_cons_succ]
              refine wpAnyH_take (i := 3) (oi := ⟨some 130, _, _, _, _, _⟩) (v := ?_) rfl (by kernel_rfl) (by kernel_rfl) (by kernel_rfl) (fun _ _ _ h => h) (Or.inl ⟨by rfl, ?_⟩) hS ?_
              rotate_left
              · intro W hW; go_simp; with_reducible rfl
              try simp only [Act.put, List.setIfInBounds_toArray, List.set_cons_zero, List.set_cons_succ]
              refine wpAnyH_take (i := 4) (oi := ⟨some 131, _, _, _, _, _⟩) (v := undef) rfl (by kernel_rfl) (by kernel_rfl) (by kernel_rfl) (fun _ _ _ h => h) (Or.inr ⟨by rfl, rfl⟩) hS ?_
              try simp only [Act.put, List.setIfInBounds_toArray, List.set_cons_zero, List.set_cons_succ]
              refine wpAnyH_take (i := 5) (oi := ⟨some 132, _, _, _, _, _⟩) (v := undef) rfl (by kernel_rfl) (by kernel_rfl) (by kernel_rfl) (fun _ _ _ h => h) (Or.inr ⟨by rfl, rfl⟩) hS ?_
              try simp only [Act.put, List.setIfInBounds_toArray, List.set_cons_zero, List.set_cons_succ]
              refine wpAnyH_take (i := 6) (oi := ⟨some 133, _, _, _, _, _⟩) (v := undef) rfl (by kernel_rfl) (by kernel_rfl) (by kernel_rfl) (fun _ _ _ h => h) (Or.inr ⟨by rfl, rfl⟩) hS ?_
              try simp only [Act.put, List.setIfInBounds_toArray, List.set_cons_zero, List.set_cons_succ]
              refine wpAnyH_take (i := 7) (oi := ⟨some 134, _, _, _, _, _⟩) (v := undef) rfl (by kernel_rfl) (by kernel_rfl) (by kernel_rfl) (fun _ _ _ h => h) (Or.inr ⟨by rfl, rfl⟩) hS ?_
              try simp only [Act.put, List.setIfInBounds_toArray, List.set_cons_zero, List.set_cons_succ]
              refine wpAnyH_take (i := 8) (oi := ⟨some 135, _, _, _, _, _⟩) (v := ?_) rfl (by kernel_rfl) (by kernel_rfl) (by kernel_rfl) (fun _ _ _ h => h) (Or.inl ⟨by rfl, ?_⟩) hS ?_
              rotate_left
              · intro W hW; go_simp; with_reducible rfl
              try simp only [Act.put, List.setIfInBounds_toArray, List.set_cons_zero, List.set_cons_succ]
              refine wpAnyH_take (i := 9) (oi := ⟨some 136, _, _, _, _, _⟩) (v := ?_) rfl (by kernel_rfl) (by kernel_rfl) (by kernel_rfl) (fun _ _ _ h => h) (Or.inl ⟨by rfl, ?_⟩) hS ?_
              rotate_left
              · intro W hW; go_simp; with_reducible rfl
              try simp only [Act.put, List.setIfInBounds_toArray, List.set_cons_zero, List.set_cons_succ]
              refine wpAnyH_take (i := 10) (oi := ⟨some 137, _, _, _, _, _⟩) (v := ?_) rfl (by kernel_rfl) (by kernel_rfl) (by kernel_rfl) (fun _ _ _ h => h) (Or.inl ⟨by rfl, ?_⟩) hS ?_
              rotate_left
              · intro W hW; go_simp; with_reducible rfl
              try simp only [Act.put, List.setIfInBounds_toArray, List.set_cons_zero, List.set_cons_succ]
              refine wpAnyH_take (i := 11) (oi := ⟨some 138, _, _, _, _, _⟩) (v := ?_) rfl (by kernel_rfl) (by kernel_rfl) (by kernel_rfl) (fun _ _ _ h => h) (Or.inl ⟨by rfl, ?_⟩) hS ?_
              rotate_left
              · intro W hW; go_simp; with_reducible rfl
              try simp only [Act.put, List.setIfInBounds_toArray, List.set_cons_zero, List.set_cons_succ]
              refine wpAnyH_ready (rs := [12]) (by kernel_rfl) (by simp) ?_
              refine AllReadyH.cons (o := ⟨some 139, _, _, _, _, _⟩) rfl (fun Kr hKr => ?_) AllReadyH.nil
              -- operation 12: a call
              go_simp
              refine (HL.out _ hS).mono ?_
              rintro e V1 ⟨rfl, hx⟩
              show Kr _ _
              refine hKr.out _ _ ?_ (fun _ => ?_)
              · exact since_trans hS hx
              clear hKr Kr
              replace hS : Since wz V1 := since_trans hS hx
              try simp only [Act.put, List.setIfInBounds_toArray, List.set_cons_zero, List.set_cons_succ]
              refine wpAnyH_take (i := 13) (oi := ⟨some 140, _, _, _, _, _⟩) (v := ?_) rfl (by kernel_rfl) (by kernel_rfl) (by kernel_rfl) (fun _ _ _ h => h) (Or.inl ⟨by rfl, ?_⟩) hS ?_
              rotate_left
              · intro W hW; go_simp; with_reducible rfl
              try simp only [Act.put, List.setIfInBounds_toArray, List.set_cons_zero, List.set_cons_succ]
              refine wpAnyH_take (i := 14) (oi := ⟨some 141, _, _, _, _, _⟩) (v := undef) rfl (by kernel_rfl) (by kernel_rfl) (by kernel_rfl) (fun _ _ _ h => h) (Or.inr ⟨by rfl, rfl⟩) hS ?_
              try simp only [Act.put, List.setIfInBounds_toArray, List.set_cons_zero, List.set_cons_succ]
              refine wpAnyH_take (i := 15) (oi := ⟨some 142, _, _, _, _, _⟩) (v := undef) rfl (by kernel_rfl) (by kernel_rfl) (by kernel_rfl) (fun _ _ _ h => h) (Or.inr ⟨by rfl, rfl⟩) hS ?_
              try simp only [Act.put, List.setIfInBounds_toArray, List.set_cons_zero, List.set_cons_succ]
              refine wpAnyH_take (i := 16) (oi := ⟨some 143, _, _, _, _, _⟩) (v := undef) rfl (by kernel_rfl) (by kernel_rfl) (by kernel_rfl) (fun _ _ _ h => h) (Or.inr ⟨by rfl, rfl⟩) hS ?_
              try simp only [Act.put, List.setIfInBounds_toArray, List.set_cons_zero, List.set_cons_succ]
              refine wpAnyH_take (i := 17) (oi := ⟨some 144, _, _, _, _, _⟩) (v := undef) rfl (by kernel_rfl) (by kernel_rfl) (by kernel_rfl) (fun _ _ _ h => h) (Or.inr ⟨by rfl, rfl⟩) hS ?_
              try simp only [Act.put, List.setIfInBounds_toArray, List.set_cons_zero, List.set_cons_succ]
              refine wpAnyH_take (i := 18) (oi := ⟨some 145, _, _, _, _, _⟩) (v := ?_) rfl (by kernel_rfl) (by kernel_rfl) (by kernel_rfl) (fun _ _ _ h => h) (Or.inl ⟨by rfl, ?_⟩) hS ?_
              rotate_left
              · intro W hW; go_simp; with_reducible rfl
              try simp only [Act.put, List.setIfInBounds_toArray, List.set_cons_zero, List.set_cons_succ]
              refine wpAnyH_take (i := 19) (oi := ⟨some 146, _, _, _, _, _⟩) (v := ?_) rfl (by kernel_rfl) (by kernel_rfl) (by kernel_rfl) (fun _ _ _ h => h) (Or.inl ⟨by rfl, ?_⟩) hS ?_
              rotate_left
              · intro W hW; go_simp; with_reducible rfl
              try simp only [Act.put, List.setIfInBounds_toArray, List.set_cons_zero, List.set_cons_succ]
              refine wpAnyH_take (i := 20) (oi := ⟨some 147, _, _, _, _, _⟩) (v := ?_) rfl (by kernel_rfl) (by kernel_rfl) (by kernel_rfl) (fun _ _ _ h => h) (Or.inl ⟨by rfl, ?_⟩) hS ?_
              rotate_left
              · intro W hW; go_simp; with_reducible rfl
              try simp only [Act.put, List.setIfInBounds_toArray, List.set_cons_zero, List.set_cons_succ]
              refine wpAnyH_take (i := 21) (oi := ⟨some 148, _, _, _, _, _⟩) (v := ?_) rfl (by kernel_rfl) (by kernel_rfl) (by kernel_rfl) (fun _ _ _ h => h) (Or.inl ⟨by rfl, ?_⟩) hS ?_
              rotate_left
              · intro W hW; go_simp; with_reducible rfl
              try simp only [Act.put, List.setIfInBounds_toArray, List.set_cons_zero, List.set_cons_succ]
              refine wpAnyH_take (i := 22) (oi := ⟨some 149, _, _, _, _, _⟩) (v := ?_) rfl (by kernel_rfl) (by kernel_rfl) (by kernel_rfl) (fun _ _ _ h => h) (Or.inl ⟨by rfl, ?_⟩) hS ?_
              rotate_left
              · intro W hW; go_simp; with_reducible rfl
              try simp only [Act.put, List.setIfInBounds_toArray, List.set_cons_zero, List.set_cons_succ]
              refine wpAnyH_take (i := 24) (oi := ⟨some 151, _, _, _, _, _⟩) (v := ?_) rfl (by kernel_rfl) (by kernel_rfl) (by kernel_rfl) (fun _ _ _ h => h) (Or.inl ⟨by rfl, ?_⟩) hS ?_
              rotate_left
              · intro W hW; go_simp; with_reducible rfl
              try simp only [Act.put, List.setIfInBounds_toArray, List.set_cons_zero, List.set_cons_succ]
              refine wpAnyH_take (i := 25) (oi := ⟨some 152, _, _, _, _, _⟩) (v := ?_) rfl (by kernel_rfl) (by kernel_rfl) (by kernel_rfl) (fun _ _ _ h => h) (Or.inl ⟨by rfl, ?_⟩) hS ?_
              rotate_left
              · intro W hW; go_simp; with_reducible rfl
              try simp only [Act.put, List.setIfInBounds_toArray, List.set_cons_zero, List.set_cons_succ]
              refine wpAnyH_ready (rs := [23]) (by kernel_rfl) (by simp) ?_
              refine AllReadyH.cons (o := ⟨some 150, _, _, _, _, _⟩) rfl (fun Kr hKr => ?_) AllReadyH.nil
              -- operation 23: a call
              go_simp
              refine (HTP.out _ hS).mono ?_
              rintro e V2 ⟨rfl, hx⟩
              show Kr _ _
              refine hKr.out _ _ ?_ (fun _ => ?_)
              · exact since_trans hS hx
              clear hKr Kr
              replace hS : Since wz V2 := since_trans hS hx
              try simp only [Act.put, List.setIfInBounds_toArray, List.set_cons_zero, List.set_cons_succ]
              refine wpAnyH_ready (rs := [26]) (by kernel_rfl) (by simp) ?_
              refine AllReadyH.cons (o := ⟨some 153, _, _, _, _, _⟩) rfl (fun Kr hKr => ?_) AllReadyH.nil
              -- operation 26: a call
              go_simp
              refine (HTP'.out _ hS).mono ?_
              rintro e V3 ⟨rfl, hx⟩
              show Kr _ _
              refine hKr.out _ _ ?_ (fun _ => ?_)
              · exact since_trans hS hx
              clear hKr Kr
              replace hS : Since wz V3 := since_trans hS hx
              try simp only [Act.put, List.setIfInBounds_toArray, List.set_cons_zero, List.set_cons_succ]
              refine wpAnyH_take (i := 27) (oi := ⟨some 154, _, _, _, _, _⟩) (v := ?_) rfl (by kernel_rfl) (by kernel_rfl) (by kernel_rfl) (fun _ _ _ h => h) (Or.inl ⟨by rfl, ?_⟩) hS ?_
              rotate_left
              · intro W hW; go_simp; with_reducible rfl
              try simp only [Act.put, List.setIfInBounds_toArray, List.set_cons_zero, List.set_cons_succ]
              refine wpAnyH_take (i := 28) (oi := ⟨some 155, _, _, _, _, _⟩) (v := ?_) rfl (by kernel_rfl) (by kernel_rfl) (by kernel_rfl) (fun _ _ _ h => h) (Or.inl ⟨by rfl, ?_⟩) hS ?_
              rotate_left
              · intro W hW; go_simp; with_reducible rfl
              try simp only [Act.put, List.setIfInBounds_toArray, List.set_cons_zero, List.set_cons_succ]
              refine wpAnyH_done (by kernel_rfl) ?_ _
              have HBV := Lib.hid (HBB.out.trans (hS.mono HBB.out.size))
              have HPV := Lib.hid (HPR.out.below hS)
              clear hS k0 k1 n0 n1
              go_wp2_with fail
              go_roundw
              case rel => exact ⟨j + 1, by simp, by omega, HPV.out, HBV.out⟩
              case measure => simp [intOf]; omega
            | true =>
              rw [hsl rfl] at hl'
              have HF := Lib.hid hf
              have HF' := Lib.hid hf'
              have HL := Lib.hid hl
              have HL' := Lib.hid hl'
              clear hf hf' hl hl' hsf hsl
              refine wp_region_since (by kernel_rfl) ?_
              have hS : Since wz (World.drew wz) := (Below.refl _ _).drew
              refine wpAnyH_take (i := 0) (oi := ⟨some 127, _, _, _, _, _⟩) (v := ?_) rfl (by kernel_rfl) (by kernel_rfl) (by kernel_rfl) (fun _ _ _ h => h) (Or.inl ⟨by rfl, ?_⟩) hS ?_
              rotate_left
              · intro W hW; go_simp; with_reducible rfl
              try simp only [Act.put, List.setIfInBounds_toArray, List.set_cons_zero, List.set_cons_succ]
              refine wpAnyH_take (i := 1) (oi := ⟨some 128, _, _, _, _, _⟩) (v := ?_) rfl (by kernel_rfl) (by kernel_rfl) (by kernel_rfl) (fun _ _ _ h => h) (Or.inl ⟨by rfl, ?_⟩) hS ?_
              rotate_left
              · intro W hW; go_simp; with_reducible rfl
              try simp only [Act.put, List.setIfInBounds_toArray, List.set_cons_zero, List.set_cons_succ]
              refine wpAnyH_ready (rs := [2]) (by kernel_rfl) (by simp) ?_
              refine AllReadyH.cons (o := ⟨some 129, _, _, _, _, _⟩) rfl (fun Kr hKr => ?_) AllReadyH.nil
              -- operation 2: a call
              go_simp
              refine (HF.out _ hS).mono ?_
              rintro e V0 ⟨rfl, hx⟩
              show Kr _ _
              refine hKr.out _ _ ?_ (fun _ => ?_)
              · exact since_trans hS hx
              clear hKr Kr
              replace hS : Since wz V0 := since_trans hS hx
              try simp only [Act.put, List.setIfInBounds_toArray, List.set_cons_zero, List.set_cons_succ]
              refine wpAnyH_take (i := 3) (oi := ⟨some 130, _, _, _, _, _⟩) (v := ?_) rfl (by kernel_rfl) (by kernel_rfl) (by kernel_rfl) (fun _ _ _ h => h) (Or.inl ⟨by rfl, ?_⟩) hS ?_
              rotate_left
              · intro W hW; go_simp; with_reducible rfl
              try simp only [Act.put, List.setIfInBounds_toArray, List.set_cons_zero, List.set_cons_succ]
              refine wpAnyH_take (i := 4) (oi := ⟨some 131, _, _, _, _, _⟩) (v := undef) rfl (by kernel_rfl) (by kernel_rfl) (by kernel_rfl) (fun _ _ _ h => h) (Or.inr ⟨by rfl, rfl⟩) hS ?_
              try simp only [Act.put, List.setIfInBounds_toArray, List.set_cons_zero, List.set_cons_succ]
              refine wpAnyH_take (i := 5) (oi := ⟨some 132, _, _, _, _, _⟩) (v := undef) rfl (by kernel_rfl) (by kernel_rfl) (by kernel_rfl) (fun _ _ _ h => h) (Or.inr ⟨by rfl, rfl⟩) hS ?_
              try simp only [Act.put, List.setIfInBounds_toArray, List.set_cons_zero, List.set_cons_succ]
              refine wpAnyH_take (i := 6) (oi := ⟨some 133, _, _, _, _, _⟩) (v := undef) rfl (by kernel_rfl) (by kernel_rfl) (by kernel_rfl) (fun _ _ _ h => h) (Or.inr ⟨by rfl, rfl⟩) hS ?_
              try simp only [Act.put, List.setIfInBounds_toArray, List.set_cons_zero, List.set_cons_succ]
              refine wpAnyH_take (i := 7) (oi := ⟨some 134, _, _, _, _, _⟩) (v := undef) rfl (by kernel_rfl) (by kernel_rfl) (by kernel_rfl) (fun _ _ _ h => h) (Or.inr ⟨by rfl, rfl⟩) hS ?_
              try simp only [Act.put, List.setIfInBounds_toArray, List.set_cons_zero, List.set_cons_succ]
              refine wpAnyH_take (i := 8) (oi := ⟨some 135, _, _, _, _, _⟩) (v := ?_) rfl (by kernel_rfl) (by kernel_rfl) (by kernel_rfl) (fun _ _ _ h => h) (Or.inl ⟨by rfl, ?_⟩) hS ?_
              rotate_left
              · intro W hW; go_simp; with_reducible rfl
              try simp only [Act.put, List.setIfInBounds_toArray, List.set_cons_zero, List.set_cons_succ]
              refine wpAnyH_take (i := 9) (oi := ⟨some 136, _, _, _, _, _⟩) (v := ?_) rfl (by kernel_rfl) (by kernel_rfl) (by kernel_rfl) (fun _ _ _ h => h) (Or.inl ⟨by rfl, ?_⟩) hS ?_
              rotate_left
              · intro W hW; go_simp; with_reducible rfl
              try simp only [Act.put, List.setIfInBounds_toArray, List.set_cons_zero, List.set_cons_succ]
              refine wpAnyH_take (i := 10) (oi := ⟨some 137, _, _, _, _, _⟩) (v := ?_) rfl (by kernel_rfl) (by kernel_rfl) (by kernel_rfl) (fun _ _ _ h => h) (Or.inl ⟨by rfl, ?_⟩) hS ?_
              rotate_left
              · intro W hW; go_simp; with_reducible rfl
              try simp only [Act.put, List.setIfInBounds_toArray, List.set_cons_zero, List.set_cons_succ]
              refine wpAnyH_take (i := 11) (oi := ⟨some 138, _, _, _, _, _⟩) (v := ?_) rfl (by kernel_rfl) (by kernel_rfl) (by kernel_rfl) (fun _ _ _ h => h) (Or.inl ⟨by rfl, ?_⟩) hS ?_
              rotate_left
              · intro W hW; go_simp; with_reducible rfl
              try simp only [Act.put, List.setIfInBounds_toArray, List.set_cons_zero, List.set_cons_succ]
              refine wpAnyH_ready (rs := [12]) (by kernel_rfl) (by simp) ?_
              refine AllReadyH.cons (o := ⟨some 139, _, _, _, _, _⟩) rfl (fun Kr hKr => ?_) AllReadyH.nil
              -- operation 12: a call
              go_simp
              refine (HL.out _ hS).mono ?_
              rintro e V1 ⟨rfl, hx⟩
              show Kr _ _
              refine hKr.out _ _ ?_ (fun _ => ?_)
              · exact since_trans hS hx
              clear hKr Kr
              replace hS : Since wz V1 := since_trans hS hx
              try simp only [Act.put, List.setIfInBounds_toArray, List.set_cons_zero, List.set_cons_succ]
              refine wpAnyH_take (i := 13) (oi := ⟨some 140, _, _, _, _, _⟩) (v := ?_) rfl (by kernel_rfl) (by kernel_rfl) (by kernel_rfl) (fun _ _ _ h => h) (Or.inl ⟨by rfl, ?_⟩) hS ?_
              rotate_left
              · intro W hW; go_simp; with_reducible rfl
              try simp only [Act.put, List.setIfInBounds_toArray, List.set_cons_zero, List.set_cons_succ]
              refine wpAnyH_take (i := 14) (oi := ⟨some 141, _, _, _, _, _⟩) (v := ?_) rfl (by kernel_rfl) (by kernel_rfl) (by kernel_rfl) (fun _ _ _ h => h) (Or.inl ⟨by rfl, ?_⟩) hS ?_
              rotate_left
              · intro W hW; go_simp; with_reducible rfl
              try simp only [Act.put, List.setIfInBounds_toArray, List.set_cons_zero, List.set_cons_succ]
              refine wpAnyH_take (i := 15) (oi := ⟨some 142, _, _, _, _, _⟩) (v := ?_) rfl (by kernel_rfl) (by kernel_rfl) (by kernel_rfl) (fun _ _ _ h => h) (Or.inl ⟨by rfl, ?_⟩) hS ?_
              rotate_left
              · intro W hW; go_simp; with_reducible rfl
              try simp only [Act.put, List.setIfInBounds_toArray, List.set_cons_zero, List.set_cons_succ]
              refine wpAnyH_ready (rs := [16]) (by kernel_rfl) (by simp) ?_
              refine AllReadyH.cons (o := ⟨some 143, _, _, _, _, _⟩) rfl (fun Kr hKr => ?_) AllReadyH.nil
              -- operation 16: a call
              go_simp
              refine (HL'.out _ hS).mono ?_
              rintro e V2 ⟨rfl, hx⟩
              show Kr _ _
              refine hKr.out _ _ ?_ (fun _ => ?_)
              · exact since_trans hS hx
              clear hKr Kr
              replace hS : Since wz V2 := since_trans hS hx
              try simp only [Act.put, List.setIfInBounds_toArray, List.set_cons_zero, List.set_cons_succ]
              refine wpAnyH_take (i := 17) (oi := ⟨some 144, _, _, _, _, _⟩) (v := ?_) rfl (by kernel_rfl) (by kernel_rfl) (by kernel_rfl) (fun _ _ _ h => h) (Or.inl ⟨by rfl, ?_⟩) hS ?_
              rotate_left
              · intro W hW; go_simp; with_reducible rfl
              try simp only [Act.put, List.setIfInBounds_toArray, List.set_cons_zero, List.set_cons_succ]
              refine wpAnyH_take (i := 18) (oi := ⟨some 145, _, _, _, _, _⟩) (v := ?_) rfl (by kernel_rfl) (by kernel_rfl) (by kernel_rfl) (fun _ _ _ h => h) (Or.inl ⟨by rfl, ?_⟩) hS ?_
              rotate_left
              · intro W hW; go_simp; with_reducible rfl
              try simp only [Act.put, List.setIfInBounds_toArray, List.set_cons_zero, List.set_cons_succ]
              refine wpAnyH_take (i := 19) (oi := ⟨some 146, _, _, _, _, _⟩) (v := ?_) rfl (by kernel_rfl) (by kernel_rfl) (by kernel_rfl) (fun _ _ _ h => h) (Or.inl ⟨by rfl, ?_⟩) hS ?_
              rotate_left
              · intro W hW; go_simp; with_reducible rfl
              try simp only [Act.put, List.setIfInBounds_toArray, List.set_cons_zero, List.set_cons_succ]
              refine wpAnyH_take (i := 20) (oi := ⟨some 147, _, _, _, _, _⟩) (v := ?_) rfl (by kernel_rfl) (by kernel_rfl) (by kernel_rfl) (fun _ _ _ h => h) (Or.inl ⟨by rfl, ?_⟩) hS ?_
              rotate_left
              · intro W hW; go_simp; with_reducible rfl
              try simp only [Act.put, List.setIfInBounds_toArray, List.set_cons_zero, List.set_cons_succ]
              refine wpAnyH_take (i := 21) (oi := ⟨some 148, _, _, _, _, _⟩) (v := ?_) rfl (by kernel_rfl) (by kernel_rfl) (by kernel_rfl) (fun _ _ _ h => h) (Or.inl ⟨by rfl, ?_⟩) hS ?_
              rotate_left
              · intro W hW; go_simp; with_reducible rfl
              try simp only [Act.put, List.setIfInBounds_toArray, List.set_cons_zero, List.set_cons_succ]
              refine wpAnyH_take (i := 22) (oi := ⟨some 149, _, _, _, _, _⟩) (v := ?_) rfl (by kernel_rfl) (by kernel_rfl) (by kernel_rfl) (fun _ _ _ h => h) (Or.inl ⟨by rfl, ?_⟩) hS ?_
              rotate_left
              · intro W hW; go_simp; with_reducible rfl
              try simp only [Act.put, List.setIfInBounds_toArray, List.set_cons_zero, List.set_cons_succ]
              refine wpAnyH_take (i := 24) (oi := ⟨some 151, _, _, _, _, _⟩) (v := ?_) rfl (by kernel_rfl) (by kernel_rfl) (by kernel_rfl) (fun _ _ _ h => h) (Or.inl ⟨by rfl, ?_⟩) hS ?_
              rotate_left
              · intro W hW; go_simp; with_reducible rfl
              try simp only [Act.put, List.setIfInBounds_toArray, List.set_cons_zero, List.set_cons_succ]
              refine wpAnyH_take (i := 25) (oi := ⟨some 152, _, _, _, _, _⟩) (v := ?_) rfl (by kernel_rfl) (by kernel_rfl) (by kernel_rfl) (fun _ _ _ h => h) (Or.inl ⟨by rfl, ?_⟩) hS ?_
              rotate_left
              · intro W hW; go_simp; with_reducible rfl
              try simp only [Act.put, List.setIfInBounds_toArray, List.set_cons_zero, List.set_cons_succ]
              refine wpAnyH_ready (rs := [23]) (by kernel_rfl) (by simp) ?_
              refine AllReadyH.cons (o := ⟨some 150, _, _, _, _, _⟩) rfl (fun Kr hKr => ?_) AllReadyH.nil
              -- operation 23: a call
              go_simp
              refine (HTP.out _ hS).mono ?_
              rintro e V3 ⟨rfl, hx⟩
              show Kr _ _
              refine hKr.out _ _ ?_ (fun _ => ?_)
              · exact since_trans hS hx
              clear hKr Kr
              replace hS : Since wz V3 := since_trans hS hx
              try simp only [Act.put, List.setIfInBounds_toArray, List.set_cons_zero, List.set_cons_succ]
              refine wpAnyH_ready (rs := [26]) (by kernel_rfl) (by simp) ?_
              refine AllReadyH.cons (o := ⟨some 153, _, _, _, _, _⟩) rfl (fun Kr hKr => ?_) AllReadyH.nil
              -- operation 26: a call
              go_simp
              refine (HTP'.out _ hS).mono ?_
              rintro e V4 ⟨rfl, hx⟩
              show Kr _ _
              refine hKr.out _ _ ?_ (fun _ => ?_)
              · exact since_trans hS hx
              clear hKr Kr
              replace hS : Since wz V4 := since_trans hS hx
              try simp only [Act.put, List.setIfInBounds_toArray, List.set_cons_zero, List.set_cons_succ]
              refine wpAnyH_take (i := 27) (oi := ⟨some 154, _, _, _, _, _⟩) (v := ?_) rfl (by kernel_rfl) (by kernel_rfl) (by kernel_rfl) (fun _ _ _ h => h) (Or.inl ⟨by rfl, ?_⟩) hS ?_
              rotate_left
              · intro W hW; go_simp; with_reducible rfl
              try simp only [Act.put, List.setIfInBounds_toArray, List.set_cons_zero, List.set_cons_succ]
              refine wpAnyH_take (i := 28) (oi := ⟨some 155, _, _, _, _, _⟩) (v := ?_) rfl (by kernel_rfl) (by kernel_rfl) (by kernel_rfl) (fun _ _ _ h => h) (Or.inl ⟨by rfl, ?_⟩) hS ?_
              rotate_left
              · intro W hW; go_simp; with_reducible rfl
              try simp only [Act.put, List.setIfInBounds_toArray, List.set_cons_zero, List.set_cons_succ]
              refine wpAnyH_done (by kernel_rfl) ?_ _
              have HBV := Lib.hid (HBB.out.trans (hS.mono HBB.out.size))
              have HPV := Lib.hid (HPR.out.below hS)
              clear hS k0 k1 n0 n1
              go_wp2_with fail
              go_roundw
              case rel => exact ⟨j + 1, by simp, by omega, HPV.out, HBV.out⟩
              case measure => simp [intOf]; omega
          | true =>
            rw [hsf rfl] at hf'
            cases l1 with
            | false =>
              have HF := Lib.hid hf
              have HF' := Lib.hid hf'
              have HL := Lib.hid hl
              have HL' := Lib.hid hl'
              clear hf hf' hl hl' hsf hsl
              refine wp_region_since (by kernel_rfl) ?_
              have hS : Since wz (World.drew wz) := (Below.refl _ _).drew
              refine wpAnyH_take (i := 0) (oi := ⟨some 127, _, _, _, _, _⟩) (v := ?_) rfl (by kernel_rfl) (by kernel_rfl) (by kernel_rfl) (fun _ _ _ h => h) (Or.inl ⟨by rfl, ?_⟩) hS ?_
              rotate_left
              · intro W hW; go_simp; with_reducible rfl
              try simp only [Act.put, List.setIfInBounds_toArray, List.set_cons_zero, List.set_cons_succ]
              refine wpAnyH_take (i := 1) (oi := ⟨some 128, _, _, _, _, _⟩) (v := ?_) rfl (by kernel_rfl) (by kernel_rfl) (by kernel_rfl) (fun _ _ _ h => h) (Or.inl ⟨by rfl, ?_⟩) hS ?_
              rotate_left
              · intro W hW; go_simp; with_reducible rfl
              try simp only [Act.put, List.setIfInBounds_toArray, List.set_cons_zero, List.set_cons_succ]
              refine wpAnyH_ready (rs := [2]) (by kernel_rfl) (by simp) ?_
              refine AllReadyH.cons (o := ⟨some 129, _, _, _, _, _⟩) rfl (fun Kr hKr => ?_) AllReadyH.nil
              -- operation 2: a call
              go_simp
              refine (HF.out _ hS).mono ?_
              rintro e V0 ⟨rfl, hx⟩
              show Kr _ _
              refine hKr.out _ _ ?_ (fun _ => ?_)
              · exact since_trans hS hx
              clear hKr Kr
              replace hS : Since wz V0 := since_trans hS hx
              try simp only [Act.put, List.setIfInBounds_toArray, List.set_cons_zero, List.set_cons_succ]
              refine wpAnyH_take (i := 3) (oi := ⟨some 130, _, _, _, _, _⟩) (v := ?_) rfl (by kernel_rfl) (by kernel_rfl) (by kernel_rfl) (fun _ _ _ h => h) (Or.inl ⟨by rfl, ?_⟩) hS ?_
              rotate_left
              · intro W hW; go_simp; with_reducible rfl
              try simp only [Act.put, List.setIfInBounds_toArray, List.set_cons_zero, List.set_cons_succ]
              refine wpAnyH_take (i := 4) (oi := ⟨some 131, _, _, _, _, _⟩) (v := ?_) rfl (by kernel_rfl) (by kernel_rfl) (by kernel_rfl) (fun _ _ _ h => h) (Or.inl ⟨by rfl, ?_⟩) hS ?_
              rotate_left
              · intro W hW; go_simp; with_reducible rfl
              try simp only [Act.put, List.setIfInBounds_toArray, List.set_cons_zero, List.set_cons_succ]
              refine wpAnyH_take (i := 5) (oi := ⟨some 132, _, _, _, _, _⟩) (v := ?_) rfl (by kernel_rfl) (by kernel_rfl) (by kernel_rfl) (fun _ _ _ h => h) (Or.inl ⟨by rfl, ?_⟩) hS ?_
              rotate_left
              · intro W hW; go_simp; with_reducible rfl
              try simp only [Act.put, List.setIfInBounds_toArray, List.set_cons_zero, List.set_cons_succ]
              refine wpAnyH_ready (rs := [6]) (by kernel_rfl) (by simp) ?_
              refine AllReadyH.cons (o := ⟨some 133, _, _, _, _, _⟩) rfl (fun Kr hKr => ?_) AllReadyH.nil
              -- operation 6: a call
              go_simp
              refine (HF'.out _ hS).mono ?_
              rintro e V1 ⟨rfl, hx⟩
              show Kr _ _
              refine hKr.out _ _ ?_ (fun _ => ?_)
              · exact since_trans hS hx
              clear hKr Kr
              replace hS : Since wz V1 := since_trans hS hx
              try simp only [Act.put, List.setIfInBounds_toArray, List.set_cons_zero, List.set_cons_succ]
              refine wpAnyH_take (i := 7) (oi := ⟨some 134, _, _, _, _, _⟩) (v := ?_) rfl (by kernel_rfl) (by kernel_rfl) (by kernel_rfl) (fun _ _ _ h => h) (Or.inl ⟨by rfl, ?_⟩) hS ?_
              rotate_left
              · intro W hW; go_simp; with_reducible rfl
              try simp only [Act.put, List.setIfInBounds_toArray, List.set_cons_zero, List.set_cons_succ]
              refine wpAnyH_take (i := 8) (oi := ⟨some 135, _, _, _, _, _⟩) (v := ?_) rfl (by kernel_rfl) (by kernel_rfl) (by kernel_rfl) (fun _ _ _ h => h) (Or.inl ⟨by rfl, ?_⟩) hS ?_
              rotate_left
              · intro W hW; go_simp; with_reducible rfl
              try simp only [Act.put, List.setIfInBounds_toArray, List.set_cons_zero, List.set_cons_succ]
              refine wpAnyH_take (i := 9) (oi := ⟨some 136, _, _, _, _, _⟩) (v := ?_) rfl (by kernel_rfl) (by kernel_rfl) (by kernel_rfl) (fun _ _ _ h => h) (Or.inl ⟨by rfl, ?_⟩) hS ?_
              rotate_left
              · intro W hW; go_simp; with_reducible rfl
              try simp only [Act.put, List.setIfInBounds_toArray, List.set_cons_zero, List.set_cons_succ]
              refine wpAnyH_take (i := 10) (oi := ⟨some 137, _, _, _, _, _⟩) (v := ?_) rfl (by kernel_rfl) (by kernel_rfl) (by kernel_rfl) (fun _ _ _ h => h) (Or.inl ⟨by rfl, ?_⟩) hS ?_
              rotate_left
              · intro W hW; go_simp; with_reducible rfl
              try simp only [Act.put, List.setIfInBounds_toArray, List.set_cons_zero, List.set_cons_succ]
              refine wpAnyH_take (i := 11) (oi := ⟨some 138, _, _, _, _, _⟩) (v := ?_) rfl (by kernel_rfl) (by kernel_rfl) (by kernel_rfl) (fun _ _ _ h => h) (Or.inl ⟨by rfl, ?_⟩) hS ?_
              rotate_left
              · intro W hW; go_simp; with_reducible rfl
              try simp only [Act.put, List.setIfInBounds_toArray, List.set_cons_zero, List.set_cons_succ]
              refine wpAnyH_ready (rs := [12]) (by kernel_rfl) (by simp) ?_
              refine AllReadyH.cons (o := ⟨some 139, _, _, _, _, _⟩) rfl (fun Kr hKr => ?_) AllReadyH.nil
              -- operation 12: a call
              go_simp
              refine (HL.out _ hS).mono ?_
              rintro e V2 ⟨rfl, hx⟩
              show Kr _ _
              refine hKr.out _ _ ?_ (fun _ => ?_)
              · exact since_trans hS hx
              clear hKr Kr
              replace hS : Since wz V2 := since_trans hS hx
              try simp only [Act.put, List.setIfInBounds_toArray, List.set_cons_zero, List.set_cons_succ]
              refine wpAnyH_take (i := 13) (oi := ⟨some 140, _, _, _, _, _⟩) (v := ?_) rfl (by kernel_rfl) (by kernel_rfl) (by kernel_rfl) (fun _ _ _ h => h) (Or.inl ⟨by rfl, ?_⟩) hS ?_
              rotate_left
              · intro W hW; go_simp; with_reducible rfl
              try simp only [Act.put, List.setIfInBounds_toArray, List.set_cons_zero, List.set_cons_succ]
              refine wpAnyH_take (i := 14) (oi := ⟨some 141, _, _, _, _, _⟩) (v := undef) rfl (by kernel_rfl) (by kernel_rfl) (by kernel_rfl) (fun _ _ _ h => h) (Or.inr ⟨by rfl, rfl⟩) hS ?_
              try simp only [Act.put, List.setIfInBounds_toArray, List.set_cons_zero, List.set_cons_succ]
              refine wpAnyH_take (i := 15) (oi := ⟨some 142, _, _, _, _, _⟩) (v := undef) rfl (by kernel_rfl) (by kernel_rfl) (by kernel_rfl) (fun _ _ _ h => h) (Or.inr ⟨by rfl, rfl⟩) hS ?_
              try simp only [Act.put, List.setIfInBounds_toArray, List.set_cons_zero, List.set_cons_succ]
              refine wpAnyH_take (i := 16) (oi := ⟨some 143, _, _, _, _, _⟩) (v := undef) rfl (by kernel_rfl) (by kernel_rfl) (by kernel_rfl) (fun _ _ _ h => h) (Or.inr ⟨by rfl, rfl⟩) hS ?_
              try simp only [Act.put, List.setIfInBounds_toArray, List.set_cons_zero, List.set_cons_succ]
              refine wpAnyH_take (i := 17) (oi := ⟨some 144, _, _, _, _, _⟩) (v := undef) rfl (by kernel_rfl) (by kernel_rfl) (by kernel_rfl) (fun _ _ _ h => h) (Or.inr ⟨by rfl, rfl⟩) hS ?_
              try simp only [Act.put, List.setIfInBounds_toArray, List.set_cons_zero, List.set_cons_succ]
              refine wpAnyH_take (i := 18) (oi := ⟨some 145, _, _, _, _, _⟩) (v := ?_) rfl (by kernel_rfl) (by kernel_rfl) (by kernel_rfl) (fun _ _ _ h => h) (Or.inl ⟨by rfl, ?_⟩) hS ?_
              rotate_left
              · intro W hW; go_simp; with_reducible rfl
              try simp only [Act.put, List.setIfInBounds_toArray, List.set_cons_zero, List.set_cons_succ]
              refine wpAnyH_take (i := 19) (oi := ⟨some 146, _, _, _, _, _⟩) (v := ?_) rfl (by kernel_rfl) (by kernel_rfl) (by kernel_rfl) (fun _ _ _ h => h) (Or.inl ⟨by rfl, ?_⟩) hS ?_
              rotate_left
              · intro W hW; go_simp; with_reducible rfl
              try simp only [Act.put, List.setIfInBounds_toArray, List.set_cons_zero, List.set_cons_succ]
              refine wpAnyH_take (i := 20) (oi := ⟨some 147, _, _, _, _, _⟩) (v := ?_) rfl (by kernel_rfl) (by kernel_rfl) (by kernel_rfl) (fun _ _ _ h => h) (Or.inl ⟨by rfl, ?_⟩) hS ?_
              rotate_left
              · intro W hW; go_simp; with_reducible rfl
              try simp only [Act.put, List.setIfInBounds_toArray, List.set_cons_zero, List.set_cons_succ]
              refine wpAnyH_take (i := 21) (oi := ⟨some 148, _, _, _, _, _⟩) (v := ?_) rfl (by kernel_rfl) (by kernel_rfl) (by kernel_rfl) (fun _ _ _ h => h) (Or.inl ⟨by rfl, ?_⟩) hS ?_
              rotate_left
              · intro W hW; go_simp; with_reducible rfl
              try simp only [Act.put, List.setIfInBounds_toArray, List.set_cons_zero, List.set_cons_succ]
              refine wpAnyH_take (i := 22) (oi := ⟨some 149, _, _, _, _, _⟩) (v := ?_) rfl (by kernel_rfl) (by kernel_rfl) (by kernel_rfl) (fun _ _ _ h => h) (Or.inl ⟨by rfl, ?_⟩) hS ?_
              rotate_left
              · intro W hW; go_simp; with_reducible rfl
              try simp only [Act.put, List.setIfInBounds_toArray, List.set_cons_zero, List.set_cons_succ]
              refine wpAnyH_take (i := 24) (oi := ⟨some 151, _, _, _, _, _⟩) (v := ?_) rfl (by kernel_rfl) (by kernel_rfl) (by kernel_rfl) (fun _ _ _ h => h) (Or.inl ⟨by rfl, ?_⟩) hS ?_
              rotate_left
              · intro W hW; go_simp; with_reducible rfl
              try simp only [Act.put, List.setIfInBounds_toArray, List.set_cons_zero, List.set_cons_succ]
              refine wpAnyH_take (i := 25) (oi := ⟨some 152, _, _, _, _, _⟩) (v := ?_) rfl (by kernel_rfl) (by kernel_rfl) (by kernel_rfl) (fun _ _ _ h => h) (Or.inl ⟨by rfl, ?_⟩) hS ?_
              rotate_left
              · intro W hW; go_simp; with_reducible rfl
              try simp only [Act.put, List.setIfInBounds_toArray, List.set_cons_zero, List.set_cons_succ]
              refine wpAnyH_ready (rs := [23]) (by kernel_rfl) (by simp) ?_
              refine AllReadyH.cons (o := ⟨some 150, _, _, _, _, _⟩) rfl (fun Kr hKr => ?_) AllReadyH.nil
              -- operation 23: a call
              go_simp
              refine (HTP.out _ hS).mono ?_
              rintro e V3 ⟨rfl, hx⟩
              show Kr _ _
              refine hKr.out _ _ ?_ (fun _ => ?_)
              · exact since_trans hS hx
              clear hKr Kr
              replace hS : Since wz V3 := since_trans hS hx
              try simp only [Act.put, List.setIfInBounds_toArray, List.set_cons_zero, List.set_cons_succ]
              refine wpAnyH_ready (rs := [26]) (by kernel_rfl) (by simp) ?_
              refine AllReadyH.cons (o := ⟨some 153, _, _, _, _, _⟩) rfl (fun Kr hKr => ?_) AllReadyH.nil
              -- operation 26: a call
              go_simp
              refine (HTP'.out _ hS).mono ?_
              rintro e V4 ⟨rfl, hx⟩
              show Kr _ _
              refine hKr.out _ _ ?_ (fun _ => ?_)
              · exact since_trans hS hx
              clear hKr Kr
              replace hS : Since wz V4 := since_trans hS hx
              try simp only [Act.put, List.setIfInBounds_toArray, List.set_cons_zero, List.set_cons_succ]
              refine wpAnyH_take (i := 27) (oi := ⟨some 154, _, _, _, _, _⟩) (v := ?_) rfl (by kernel_rfl) (by kernel_rfl) (by kernel_rfl) (fun _ _ _ h => h) (Or.inl ⟨by rfl, ?_⟩) hS ?_
              rotate_left
              · intro W hW; go_simp; with_reducible rfl
              try simp only [Act.put, List.setIfInBounds_toArray, List.set_cons_zero, List.set_cons_succ]
              refine wpAnyH_take (i := 28) (oi := ⟨some 155, _, _, _, _, _⟩) (v := ?_) rfl (by kernel_rfl) (by kernel_rfl) (by kernel_rfl) (fun _ _ _ h => h) (Or.inl ⟨by rfl, ?_⟩) hS ?_
              rotate_left
              · intro W hW; go_simp; with_reducible rfl
              try simp only [Act.put, List.setIfInBounds_toArray, List.set_cons_zero, List.set_cons_succ]
              refine wpAnyH_done (by kernel_rfl) ?_ _
              have HBV := Lib.hid (HBB.out.trans (hS.mono HBB.out.size))
              have HPV := Lib.hid (HPR.out.below hS)
              clear hS k0 k1 n0 n1
              go_wp2_with fail
              go_roundw
              case rel => exact ⟨j + 1, by simp, by omega, HPV.out, HBV.out⟩
              case measure => simp [intOf]; omega
            | true =>
              rw [hsl rfl] at hl'
              have HF := Lib.hid hf
              have HF' := Lib.hid hf'
              have HL := Lib.hid hl
              have HL' := Lib.hid hl'
              clear hf hf' hl hl' hsf hsl
              refine wp_region_since (by kernel_rfl) ?_
              have hS : Since wz (World.drew wz) := (Below.refl _ _).drew
              refine wpAnyH_take (i := 0) (oi := ⟨some 127, _, _, _, _, _⟩) (v := ?_) rfl (by kernel_rfl) (by kernel_rfl) (by kernel_rfl) (fun _ _ _ h => h) (Or.inl ⟨by rfl, ?_⟩) hS ?_
              rotate_left
              · intro W hW; go_simp; with_reducible rfl
              try simp only [Act.put, List.setIfInBounds_toArray, List.set_cons_zero, List.set_cons_succ]
              refine wpAnyH_take (i := 1) (oi := ⟨some 128, _, _, _, _, _⟩) (v := ?_) rfl (by kernel_rfl) (by kernel_rfl) (by kernel_rfl) (fun _ _ _ h => h) (Or.inl ⟨by rfl, ?_⟩) hS ?_
              rotate_left
              · intro W hW; go_simp; with_reducible rfl
              try simp only [Act.put, List.setIfInBounds_toArray, List.set_cons_zero, List.set_cons_succ]
              refine wpAnyH_ready (rs := [2]) (by kernel_rfl) (by simp) ?_
              refine AllReadyH.cons (o := ⟨some 129, _, _, _, _, _⟩) rfl (fun Kr hKr => ?_) AllReadyH.nil
              -- operation 2: a call
              go_simp
              refine (HF.out _ hS).mono ?_
              rintro e V0 ⟨rfl, hx⟩
              show Kr _ _
              refine hKr.out _ _ ?_ (fun _ => ?_)
              · exact since_trans hS hx
              clear hKr Kr
              replace hS : Since wz V0 := since_trans hS hx
              try simp only [Act.put, List.setIfInBounds_toArray, List.set_cons_zero, List.set_cons_succ]
              refine wpAnyH_take (i := 3) (oi := ⟨some 130, _, _, _, _, _⟩) (v := ?_) rfl (by kernel_rfl) (by kernel_rfl) (by kernel_rfl) (fun _ _ _ h => h) (Or.inl ⟨by rfl, ?_⟩) hS ?_
              rotate_left
              · intro W hW; go_simp; with_reducible rfl
              try simp only [Act.put, List.setIfInBounds_toArray, List.set_cons_zero, List.set_cons_succ]
              refine wpAnyH_take (i := 4) (oi := ⟨some 131, _, _, _, _, _⟩) (v := ?_) rfl (by kernel_rfl) (by kernel_rfl) (by kernel_rfl) (fun _ _ _ h => h) (Or.inl ⟨by rfl, ?_⟩) hS ?_
              rotate_left
              · intro W hW; go_simp; with_reducible rfl
              try simp only [Act.put, List.setIfInBounds_toArray, List.set_cons_zero, List.set_cons_succ]
              refine wpAnyH_take (i := 5) (oi := ⟨some 132, _, _, _, _, _⟩) (v := ?_) rfl (by kernel_rfl) (by kernel_rfl) (by kernel_rfl) (fun _ _ _ h => h) (Or.inl ⟨by rfl, ?_⟩) hS ?_
              rotate_left
              · intro W hW; go_simp; with_reducible rfl
              try simp only [Act.put, List.setIfInBounds_toArray, List.set_cons_zero, List.set_cons_succ]
              refine wpAnyH_ready (rs := [6]) (by kernel_rfl) (by simp) ?_
              refine AllReadyH.cons (o := ⟨some 133, _, _, _, _, _⟩) rfl (fun Kr hKr => ?_) AllReadyH.nil
              -- operation 6: a call
              go_simp
              refine (HF'.out _ hS).mono ?_
              rintro e V1 ⟨rfl, hx⟩
              show Kr _ _
              refine hKr.out _ _ ?_ (fun _ => ?_)
              · exact since_trans hS hx
              clear hKr Kr
              replace hS : Since wz V1 := since_trans hS hx
              try simp only [Act.put, List.setIfInBounds_toArray, List.set_cons_zero, List.set_cons_succ]
              refine wpAnyH_take (i := 7) (oi := ⟨some 134, _, _, _, _, _⟩) (v := ?_) rfl (by kernel_rfl) (by kernel_rfl) (by kernel_rfl) (fun _ _ _ h => h) (Or.inl ⟨by rfl, ?_⟩) hS ?_
              rotate_left
              · intro W hW; go_simp; with_reducible rfl
              try simp only [Act.put, List.setIfInBounds_toArray, List.set_cons_zero, List.set_cons_succ]
              refine wpAnyH_take (i := 8) (oi := ⟨some 135, _, _, _, _, _⟩) (v := ?_) rfl (by kernel_rfl) (by kernel_rfl) (by kernel_rfl) (fun _ _ _ h => h) (Or.inl ⟨by rfl, ?_⟩) hS ?_
              rotate_left
              · intro W hW; go_simp; with_reducible rfl
              try simp only [Act.put, List.setIfInBounds_toArray, List.set_cons_zero, List.set_cons_succ]
              refine wpAnyH_take (i := 9) (oi := ⟨some 136, _, _, _, _, _⟩) (v := ?_) rfl (by kernel_rfl) (by kernel_rfl) (by kernel_rfl) (fun _ _ _ h => h) (Or.inl ⟨by rfl, ?_⟩) hS ?_
              rotate_left
              · intro W hW; go_simp; with_reducible rfl
              try simp only [Act.put, List.setIfInBounds_toArray, List.set_cons_zero, List.set_cons_succ]
              refine wpAnyH_take (i := 10) (oi := ⟨some 137, _, _, _, _, _⟩) (v := ?_) rfl (by kernel_rfl) (by kernel_rfl) (by kernel_rfl) (fun _ _ _ h => h) (Or.inl ⟨by rfl, ?_⟩) hS ?_
              rotate_left
              · intro W hW; go_simp; with_reducible rfl
              try simp only [Act.put, List.setIfInBounds_toArray, List.set_cons_zero, List.set_cons_succ]
              refine wpAnyH_take (i := 11) (oi := ⟨some 138, _, _, _, _, _⟩) (v := ?_) rfl (by kernel_rfl) (by kernel_rfl) (by kernel_rfl) (fun _ _ _ h => h) (Or.inl ⟨by rfl, ?_⟩) hS ?_
              rotate_left
              · intro W hW; go_simp; with_reducible rfl
              try simp only [Act.put, List.setIfInBounds_toArray, List.set_cons_zero, List.set_cons_succ]
              refine wpAnyH_ready (rs := [12]) (by kernel_rfl) (by simp) ?_
              refine AllReadyH.cons (o := ⟨some 139, _, _, _, _, _⟩) rfl (fun Kr hKr => ?_) AllReadyH.nil
              -- operation 12: a call
              go_simp
              refine (HL.out _ hS).mono ?_
              rintro e V2 ⟨rfl, hx⟩
              show Kr _ _
              refine hKr.out _ _ ?_ (fun _ => ?_)
              · exact since_trans hS hx
              clear hKr Kr
              replace hS : Since wz V2 := since_trans hS hx
              try simp only [Act.put, List.setIfInBounds_toArray, List.set_cons_zero, List.set_cons_succ]
              refine wpAnyH_take (i := 13) (oi := ⟨some 140, _, _, _, _, _⟩) (v := ?_) rfl (by kernel_rfl) (by kernel_rfl) (by kernel_rfl) (fun _ _ _ h => h) (Or.inl ⟨by rfl, ?_⟩) hS ?_
              rotate_left
              · intro W hW; go_simp; with_reducible rfl
              try simp only [Act.put, List.setIfInBounds_toArray, List.set_cons_zero, List.set_cons_succ]
              refine wpAnyH_take (i := 14) (oi := ⟨some 141, _, _, _, _, _⟩) (v := ?_) rfl (by kernel_rfl) (by kernel_rfl) (by kernel_rfl) (fun _ _ _ h => h) (Or.inl ⟨by rfl, ?_⟩) hS ?_
              rotate_left
              · intro W hW; go_simp; with_reducible rfl
              try simp only [Act.put, List.setIfInBounds_toArray, List.set_cons_zero, List.set_cons_succ]
              refine wpAnyH_take (i := 15) (oi := ⟨some 142, _, _, _, _, _⟩) (v := ?_) rfl (by kernel_rfl) (by kernel_rfl) (by kernel_rfl) (fun _ _ _ h => h) (Or.inl ⟨by rfl, ?_⟩) hS ?_
              rotate_left
              · intro W hW; go_simp; with_reducible rfl
              try simp only [Act.put, List.setIfInBounds_toArray, List.set_cons_zero, List.set_cons_succ]
              refine wpAnyH_ready (rs := [16]) (by kernel_rfl) (by simp) ?_
              refine AllReadyH.cons (o := ⟨some 143, _, _, _, _, _⟩) rfl (fun Kr hKr => ?_) AllReadyH.nil
              -- operation 16: a call
              go_simp
              refine (HL'.out _ hS).mono ?_
              rintro e V3 ⟨rfl, hx⟩
              show Kr _ _
              refine hKr.out _ _ ?_ (fun _ => ?_)
              · exact since_trans hS hx
              clear hKr Kr
              replace hS : Since wz V3 := since_trans hS hx
              try simp only [Act.put, List.setIfInBounds_toArray, List.set_cons_zero, List.set_cons_succ]
              refine wpAnyH_take (i := 17) (oi := ⟨some 144, _, _, _, _, _⟩) (v := ?_) rfl (by kernel_rfl) (by kernel_rfl) (by kernel_rfl) (fun _ _ _ h => h) (Or.inl ⟨by rfl, ?_⟩) hS ?_
              rotate_left
              · intro W hW; go_simp; with_reducible rfl
              try simp only [Act.put, List.setIfInBounds_toArray, List.set_cons_zero, List.set_cons_succ]
              refine wpAnyH_take (i := 18) (oi := ⟨some 145, _, _, _, _, _⟩) (v := ?_) rfl (by kernel_rfl) (by kernel_rfl) (by kernel_rfl) (fun _ _ _ h => h) (Or.inl ⟨by rfl, ?_⟩) hS ?_
              rotate_left
              · intro W hW; go_simp; with_reducible rfl
              try simp only [Act.put, List.setIfInBounds_toArray, List.set_cons_zero, List.set_cons_succ]
              refine wpAnyH_take (i := 19) (oi := ⟨some 146, _, _, _, _, _⟩) (v := ?_) rfl (by kernel_rfl) (by kernel_rfl) (by kernel_rfl) (fun _ _ _ h => h) (Or.inl ⟨by rfl, ?_⟩) hS ?_
              rotate_left
              · intro W hW; go_simp; with_reducible rfl
              try simp only [Act.put, List.setIfInBounds_toArray, List.set_cons_zero, List.set_cons_succ]
              refine wpAnyH_take (i := 20) (oi := ⟨some 147, _, _, _, _, _⟩) (v := ?_) rfl (by kernel_rfl) (by kernel_rfl) (by kernel_rfl) (fun _ _ _ h => h) (Or.inl ⟨by rfl, ?_⟩) hS ?_
              rotate_left
              · intro W hW; go_simp; with_reducible rfl
              try simp only [Act.put, List.setIfInBounds_toArray, List.set_cons_zero, List.set_cons_succ]
              refine wpAnyH_take (i := 21) (oi := ⟨some 148, _, _, _, _, _⟩) (v := ?_) rfl (by kernel_rfl) (by kernel_rfl) (by kernel_rfl) (fun _ _ _ h => h) (Or.inl ⟨by rfl, ?_⟩) hS ?_
              rotate_left
              · intro W hW; go_simp; with_reducible rfl
              try simp only [Act.put, List.setIfInBounds_toArray, List.set_cons_zero, List.set_cons_succ]
              refine wpAnyH_take (i := 22) (oi := ⟨some 149, _, _, _, _, _⟩) (v := ?_) rfl (by kernel_rfl) (by kernel_rfl) (by kernel_rfl) (fun _ _ _ h => h) (Or.inl ⟨by rfl, ?_⟩) hS ?_
              rotate_left
              · intro W hW; go_simp; with_reducible rfl
              try simp only [Act.put, List.setIfInBounds_toArray, List.set_cons_zero, List.set_cons_succ]
              refine wpAnyH_take (i := 24) (oi := ⟨some 151, _, _, _, _, _⟩) (v := ?_) rfl (by kernel_rfl) (by kernel_rfl) (by kernel_rfl) (fun _ _ _ h => h) (Or.inl ⟨by rfl, ?_⟩) hS ?_
              rotate_left
              · intro W hW; go_simp; with_reducible rfl
              try simp only [Act.put, List.setIfInBounds_toArray, List.set_cons_zero, List.set_cons_succ]
              refine wpAnyH_take (i := 25) (oi := ⟨some 152, _, _, _, _, _⟩) (v := ?_) rfl (by kernel_rfl) (by kernel_rfl) (by kernel_rfl) (fun _ _ _ h => h) (Or.inl ⟨by rfl, ?_⟩) hS ?_
              rotate_left
              · intro W hW; go_simp; with_reducible rfl
              try simp only [Act.put, List.setIfInBounds_toArray, List.set_cons_zero, List.set_cons_succ]
              refine wpAnyH_ready (rs := [23]) (by kernel_rfl) (by simp) ?_
              refine AllReadyH.cons (o := ⟨some 150, _, _, _, _, _⟩) rfl (fun Kr hKr => ?_) AllReadyH.nil
              -- operation 23: a call
              go_simp
              refine (HTP.out _ hS).mono ?_
              rintro e V4 ⟨rfl, hx⟩
              show Kr _ _
              refine hKr.out _ _ ?_ (fun _ => ?_)
              · exact since_trans hS hx
              clear hKr Kr
              replace hS : Since wz V4 := since_trans hS hx
              try simp only [Act.put, List.setIfInBounds_toArray, List.set_cons_zero, List.set_cons_succ]
              refine wpAnyH_ready (rs := [26]) (by kernel_rfl) (by simp) ?_
              refine AllReadyH.cons (o := ⟨some 153, _, _, _, _, _⟩) rfl (fun Kr hKr => ?_) AllReadyH.nil
              -- operation 26: a call
              go_simp
              refine (HTP'.out _ hS).mono ?_
              rintro e V5 ⟨rfl, hx⟩
              show Kr _ _
              refine hKr.out _ _ ?_ (fun _ => ?_)
              · exact since_trans hS hx
              clear hKr Kr
              replace hS : Since wz V5 := since_trans hS hx
              try simp only [Act.put, List.setIfInBounds_toArray, List.set_cons_zero, List.set_cons_succ]
              refine wpAnyH_take (i := 27) (oi := ⟨some 154, _, _, _, _, _⟩) (v := ?_) rfl (by kernel_rfl) (by kernel_rfl) (by kernel_rfl) (fun _ _ _ h => h) (Or.inl ⟨by rfl, ?_⟩) hS ?_
              rotate_left
              · intro W hW; go_simp; with_reducible rfl
              try simp only [Act.put, List.setIfInBounds_toArray, List.set_cons_zero, List.set_cons_succ]
              refine wpAnyH_take (i := 28) (oi := ⟨some 155, _, _, _, _, _⟩) (v := ?_) rfl (by kernel_rfl) (by kernel_rfl) (by kernel_rfl) (fun _ _ _ h => h) (Or.inl ⟨by rfl, ?_⟩) hS ?_
              rotate_left
              · intro W hW; go_simp; with_reducible rfl
              try simp only [Act.put, List.setIfInBounds_toArray, List.set_cons_zero, List.set_cons_succ]
              refine wpAnyH_done (by kernel_rfl) ?_ _
              have HBV := Lib.hid (HBB.out.trans (hS.mono HBB.out.size))
              have HPV := Lib.hid (HPR.out.below hS)
              clear hS k0 k1 n0 n1
              go_wp2_with fail
              go_roundw
              case rel => exact ⟨j + 1, by simp, by omega, HPV.out, HBV.out⟩
              case measure => simp [intOf]; omega
        · obtain rfl : j = N := by omega
          have n0 := HPR.out.n.c0
          have n1 := HPR.out.n.c1
          have hcb9 := HPR.out.cb
          go_wp2_with fail
          refine (sane_any A' T' N' k' c' HPR.out.len HPR.out.good HPR.out.c (by omega) wr HPR.out.y).mono ?_
          rintro e w4 ⟨rfl, hb4⟩
          have HB4 := Lib.hid (HBB.out.trans (hb4.mono HBB.out.size))
          clear hb4 c0 n0 n1 HBB HPR
          go_wp2
          go_ret
          exact ⟨rfl, HB4.out⟩
  · have hl1 : (120 : Int) < (len : Int) := by omega
    go_enter Try.func4, Try.ntmps4
    go_wp2_with fail
    refine (awake_any w).mono ?_
    rintro e w0 ⟨rfl, hb0⟩
    have HB0 := Lib.hid hb0
    clear hb0 hacts
    go_wp2
    go_ret
    exact ⟨rfl, HB0.out⟩

end Go.Proofs.Ytohnfjneghbceaa
