/-
  What a transaction sees of a counter.
-/
import Derived.Test.YtogngghfdcpeaaaKp
import Derived.Test.YtogngghfdcpeaaaKm
import Derived.Test.YtogngghfdcpeaaaRe
namespace Go.Proofs.Ytogngghfdcpeaaa
set_option maxRecDepth 100000
set_option linter.unusedVariables false
set_option linter.unusedSimpArgs false
open Go.RowKit

set_option maxHeartbeats 1000000 in
theorem wfold_any (A : Option Addr) (n c : Nat) (l : List Int) (hn : n ≤ 4096) (w : World) (hl : Ls w A n l) :
    Calls Try.prog 61 #[.slice A n c, wdV 0, .func (.func 62) #[] #[]] w fun e w' => e = .returned (wdV (sumI l)) ∧ Below w.heap.size w w' := by
  have HX := Lib.hid ((Bk.new w (wdC 0) 122).al (.cells wd0 122))
  have HY := Bk.new (w.alloc (.cells (wdC 0) 122)) wd0 122
  rw [size_al] at HY
  have HY := Lib.hid HY
  have HB := Lib.hid (below_two (below_new w (.cells (wdC 0) 122)) (below_new _ (.cells wd0 122)))
  have HL := Lib.hid hl
  have HF := Lib.hid (sum_ok hl.ok hl.len hn)
  clear hl
  go_enter Try.func61, Try.ntmps61
  go_wp2_with fail
  go_loopw [11] (fun u wr => ∃ j : Nat, u = .int .i64 (j : Int) ∧ j ≤ n ∧ Hid (Bk wr w.heap.size (wdC (sumI (l.take j))) 122) ∧ Hid (Bk wr (w.heap.size + 1) wd0 122) ∧ Hid (Below w.heap.size w wr)) (fun u _ => n - (intOf u).toNat)
  case atStart => exact ⟨0, rfl, Nat.zero_le _, HX, HY, HB⟩
  case round =>
    obtain ⟨j, rfl, hj, HXj, HYj, HBj⟩ := hrel
    have x0 := HXj.out.w0
    have x1 := HXj.out.w1
    rcases Nat.lt_or_ge j n with hlt | hge
    · obtain ⟨b, o, rfl, hb, hz, hget, hc⟩ := HL.out.get hlt
      have cz := (HBj.out.cell (p := ⟨b, o + j, none⟩) hb).trans hc
      have HS := Lib.hid (sumI_take_succ hget)
      generalize l.getD j 0 = z at *
      have hp := wplus_any (sumI (l.take j)) z (HF.out j) hz
      have hd : decide ((j : Int) < (n : Int)) = true := decide_eq_true (by omega)
      have hd2 : decide (j < n) = true := decide_eq_true hlt
      clear hc hget hz hb
      go_wp2_with fail
      refine (hp _).mono ?_
      rintro e w2 ⟨rfl, hb2⟩
      rw [← HS.out]
      have HX2 := Lib.hid (HXj.out.below hb2)
      have HY2 := Lib.hid (HYj.out.below hb2)
      have HB2 := Lib.hid (HBj.out.trans (hb2.mono HBj.out.size))
      clear hb2 HXj HYj HBj x0 x1 hp
      have x0 := HX2.out.w0
      have x1 := HX2.out.w1
      have f0 := HX2.out.fr 0
      have f1 := HX2.out.fr 1
      go_wp2_with fail
      refine ⟨⟨j + 1, rfl, hlt, Lib.hid (HX2.out.setw _), Lib.hid ((HY2.out.oth (by omega) _ _).oth (by omega) _ _), Lib.hid ((HB2.out.setCell (Nat.le_refl _) _).setCell (Nat.le_refl _) _)⟩, by simp [intOf]; omega⟩
    · obtain rfl : j = n := by omega
      have hd : decide ((j : Int) < (j : Int)) = false := decide_eq_false (by omega)
      have hd2 : decide (j < j) = false := decide_eq_false (by omega)
      have y0 : wr.cell? ⟨w.heap.size + 1, 0, none⟩ = some (.int .i64 0) := HYj.out.c 0 _ rfl
      have y1 : wr.cell? ⟨w.heap.size + 1, 1, none⟩ = some (.int .u64 0) := HYj.out.c 1 _ rfl
      have f0 := HYj.out.fr 0
      have f1 := HYj.out.fr 1
      have hlj : l.take j = l := List.take_of_length_le (by rw [HL.out.len]; exact Nat.le_refl _)
      rw [hlj] at x0 x1
      go_wp2_with fail
      exact bodyPost_ret (v := wdV (sumI l)) (by rw [results_cell_one rfl]; go_simp) rfl ⟨rfl, (HBj.out.setCell (Nat.le_succ _) _).setCell (Nat.le_succ _) _⟩
theorem sum_any (A : Option Addr) (n c : Nat) (l : List Int) (w : World) (hl : Ls w A n l) :
    Calls Try.prog 41 #[.slice A n c] w fun e w' => e = .returned (.tuple #[.int .i64 (sumV l), .int .i64 (sumE l)]) ∧ Below w.heap.size w w' := by
  have HN := Lib.hid hl.len
  rcases Nat.lt_or_ge 4096 n with hbig | hfew
  · have hd : decide ((4096 : Int) < (n : Int)) = true := decide_eq_true (by omega)
    have hd2 : decide (4096 < n) = true := decide_eq_true hbig
    have HV := Lib.hid (sumV_many (l := l) (by rw [hl.len]; exact hbig))
    have HE := Lib.hid (sumE_many (l := l) (by rw [hl.len]; exact hbig))
    clear hl
    rw [HV.out, HE.out]
    go_enter Try.func41, Try.ntmps41
    go_wp2_with fail
    go_ret2
    exact ⟨rfl, Below.refl _ _⟩
  · have hd : decide ((4096 : Int) < (n : Int)) = false := decide_eq_false (by omega)
    have hd2 : decide (4096 < n) = false := decide_eq_false (by omega)
    have HV := Lib.hid (sumV_few (l := l) (by rw [hl.len]; exact hfew))
    have HE := Lib.hid (sumE_few (l := l) (by rw [hl.len]; exact hfew))
    have h0 := wfold_any A n c l hfew w hl
    have h1 := narrow_any (sumI l)
    clear hl
    rw [HV.out, HE.out]
    generalize sumI l = s at *
    go_enter Try.func41, Try.ntmps41
    go_wp2_with fail
    refine h0.mono ?_
    rintro e w1 ⟨rfl, hb1⟩
    clear h0
    have HB1 := Lib.hid hb1
    clear hb1
    go_wp2_with fail
    refine (h1 _).mono ?_
    rintro e w2 ⟨rfl, hb2⟩
    have HB2 := Lib.hid (below_two HB1.out hb2)
    clear hb2 HB1 h1
    go_wp2_with fail
    go_ret2
    exact ⟨rfl, HB2.out⟩



/-! ### what is seen -/
theorem w64_add (a b : Int) : w64 (w64 a + b) = w64 (a + b) := by unfold w64; rw [IntKind.wrap_i64, IntKind.wrap_i64, IntKind.wrap_i64]; omega
theorem seeGo_all {st : Int → Bool} {k : Int} : ∀ (P : List Pd) (n : Int), okI n → (∀ p ∈ onL P k, st p.x = true) → seeGo st k P n = some (w64 (n + sumI (sumsOf P k)))
  | [], n, hn, _ => by
    show some n = _
    rw [show sumsOf [] k = [] from rfl, sumI_nil, Int.add_zero, w64_id hn]
  | p :: P, n, hn, h => by
    unfold seeGo
    by_cases hk : p.c = k
    · rw [if_pos hk, if_pos (h p (by unfold onL; rw [List.mem_filter]; exact ⟨by simp, by simpa using hk⟩)), seeGo_all P _ (w64_ok _) (fun q hq => h q (by unfold onL at hq ⊢; rw [List.mem_filter] at hq ⊢; exact ⟨by simp [hq.1], hq.2⟩))]
      have e : sumsOf (p :: P) k = [p.u, p.d] ++ sumsOf P k := by unfold sumsOf; rw [List.flatMap_cons, if_pos hk]
      rw [e, sumI_append, sumI_cons, sumI_cons, sumI_nil, w64_add, Int.add_assoc, w64_add]
      congr 2
      omega
    · rw [if_neg hk, seeGo_all P _ hn (fun q hq => h q (by unfold onL at hq ⊢; rw [List.mem_filter] at hq ⊢; exact ⟨by simp [hq.1], hq.2⟩))]
      have e : sumsOf (p :: P) k = sumsOf P k := by unfold sumsOf; rw [List.flatMap_cons, if_neg hk]; rfl
      rw [e]
theorem seeGo_not {st : Int → Bool} {k : Int} : ∀ (P : List Pd) (n : Int), (∃ p ∈ onL P k, st p.x = false) → seeGo st k P n = none
  | [], n, ⟨p, hp, _⟩ => by simp [onL] at hp
  | q :: P, n, ⟨p, hp, hs⟩ => by
    unfold seeGo
    unfold onL at hp
    rw [List.mem_filter] at hp
    by_cases hk : q.c = k
    · rw [if_pos hk]
      by_cases hq : st q.x = true
      · rw [if_pos hq]
        refine seeGo_not P _ ⟨p, ?_, hs⟩
        rcases List.mem_cons.1 hp.1 with e | e
        · subst e; rw [hq] at hs; cases hs
        · unfold onL; rw [List.mem_filter]; exact ⟨e, hp.2⟩
      · rw [if_neg hq]
    · rw [if_neg hk]
      refine seeGo_not P _ ⟨p, ?_, hs⟩
      rcases List.mem_cons.1 hp.1 with e | e
      · subst e; exact absurd (of_decide_eq_true hp.2) hk
      · unfold onL; rw [List.mem_filter]; exact ⟨e, hp.2⟩
theorem sum_ends (v : Int) (l : List Int) : loI v l ≤ v + sumI l ∧ v + sumI l ≤ hiI v l := by
  induction l with
  | nil => simp [loI, hiI, lows, highs, sumI_nil]
  | cons x l ih =>
    unfold loI hiI lows highs at *
    rw [sumI_cons]
    by_cases hx : x < 0
    · rw [List.filter_cons, if_pos (by simpa using hx), List.filter_cons, if_neg (by simpa using hx), sumI_cons]; omega
    · rw [List.filter_cons, if_neg (by simpa using hx), List.filter_cons, if_pos (by simpa using hx), sumI_cons]; omega
theorem San.total {t : Tb} (h : San t) {k : Nat} (hk : k < t.C.length) : okI ((t.C.getD k ctD).v + sumI (sumsOf t.P (k : Int))) := by
  have h1 := h.fit k hk
  unfold Tb.fits at h1
  rw [Bool.and_eq_true] at h1
  obtain ⟨_, ⟨h4, h5⟩, _⟩ := fits_less h1.2
  have h6 := sum_ends (t.C.getD k ctD).v (sumsOf t.P (k : Int) ++ [0])
  rw [sumI_append, sumI_cons, sumI_nil] at h6
  unfold okI at *
  omega
theorem see_wait {t : Tb} {T : Tr} {x : Int} {k : Nat} (h : t.may T x (k : Int) = 0) (hs : ∃ p ∈ onL t.P (k : Int), standsR T x p.x = false) : t.seeV T x (k : Int) = 0 ∧ t.seeE T x (k : Int) = 9 := by
  unfold Tb.seeV Tb.seeE
  rw [if_pos h, if_pos h, seeGo_not _ _ hs]
  exact ⟨rfl, rfl⟩
theorem see_ok {t : Tb} {T : Tr} {x : Int} {k : Nat} (h : t.may T x (k : Int) = 0) (hv : okI (t.C.getD k ctD).v) (ht : okI ((t.C.getD k ctD).v + sumI (sumsOf t.P (k : Int)))) (hs : ∀ p ∈ onL t.P (k : Int), standsR T x p.x = true) :
    t.seeV T x (k : Int) = (t.C.getD k ctD).v + sumI (sumsOf t.P (k : Int)) ∧ t.seeE T x (k : Int) = 0 := by
  unfold Tb.seeV Tb.seeE
  rw [if_pos h, if_pos h, Int.toNat_natCast, seeGo_all _ _ hv hs, Option.getD_some, w64_id ht]
  exact ⟨rfl, rfl⟩

theorem see1_any (g5 g6 : Nat) (D : Option Addr) (N d : Nat) (c x : Int) (T : Tr) (hN : N ≤ 1000) (y : Pd) (W : World) (h5 : Bk W g5 (trC D N d c) 38) (h6 : Bk W g6 #[.int .i64 x] 3) (hr : TrAto W D N T) :
    Calls Try.prog 39 #[.agg #[.int .i64 y.c, .int .i64 y.x, .int .i64 y.u, .int .i64 y.d], .pointer (some ⟨g5, 0, none⟩), .pointer (some ⟨g6, 0, none⟩)] W fun e w' => e = .returned (.bool (!standsR T x y.x)) ∧ Below W.heap.size W w' := by
  have HX := Lib.hid (Bk.new W (pdC y.c y.x y.u y.d) 75)
  have HB := Lib.hid (below_new W (.cells (pdC y.c y.x y.u y.d) 75))
  have HW := Lib.hid (pwithin_any D T N d c x y.x hr.len hN _ (hr.at_.below HB.out))
  have a0 := (h5.below HB.out).r_0
  have a1 := (h5.below HB.out).r_1
  have b0 := (h6.below HB.out).c 0 _ rfl
  have p1 := HX.out.p1
  generalize standsR T x y.x = q at *
  clear h5 h6 hr
  go_enter Try.func39, Try.ntmps39
  go_wp2_with fail
  refine HW.out.mono ?_
  rintro e w1 ⟨rfl, hv⟩
  have HV := Lib.hid (HB.out.trans (hv.mono HB.out.size))
  clear hv HW a0 a1 b0 p1
  go_wp2_with fail
  go_ret
  exact ⟨rfl, HV.out⟩

theorem contains_any (g5 g6 : Nat) (p : Pd → Bool) (A : Option Addr) (L : List Pd) (n k : Nat) (hN : L.length = n) (hn : n ≤ 100000) (W : World) (hL : RPo.At W A L)
    (hp : ∀ V, Below W.heap.size W V → ∀ y ∈ L, Calls Try.prog 39 #[.agg #[.int .i64 y.c, .int .i64 y.x, .int .i64 y.u, .int .i64 y.d], .pointer (some ⟨g5, 0, none⟩), .pointer (some ⟨g6, 0, none⟩)] V fun e w' => e = .returned (.bool (p y)) ∧ Below V.heap.size V w') :
    Calls Try.prog 38 #[.slice A n k, .func (.func 39) #[] #[.pointer (some ⟨g5, 0, none⟩), .pointer (some ⟨g6, 0, none⟩)]] W fun e w' => (∃ q, e = .returned (.bool q) ∧ (q = true → ∃ y ∈ L, p y = true) ∧ (q = false → ∀ y ∈ L, p y = false)) ∧ Below W.heap.size W w' := by
  have HI := Lib.hid (indexQ_any g5 g6 p A L n k W.heap.size hN (by omega) W hL (Nat.le_refl _) (fun V hV y hy => hp V (hV.below (fun q h => h) (Nat.le_refl _)) y hy))
  have hln : (n : Int) ≤ 100000 := by omega
  have HLN := Lib.hid (fun (i : Nat) (y : Pd) (h : L[i]? = some y) => (show i < n from by rw [← hN]; exact (List.getElem?_eq_some_iff.1 h).1))
  clear hp hL hN
  go_enter Try.func38, Try.ntmps38
  go_wp2_with fail
  refine HI.out.mono ?_
  rintro e w1 ⟨⟨rfl, hall⟩ | ⟨i, y, rfl, hy, hq, _⟩, hb⟩
  · have HA := Lib.hid hall
    have HB := Lib.hid hb
    clear hall hb HI
    go_wp2_with fail
    go_ret
    exact ⟨⟨false, rfl, (fun h => by cases h), (fun _ => HA.out)⟩, HB.out⟩
  · have HY := Lib.hid (⟨y, List.mem_of_getElem? hy, hq⟩ : ∃ y ∈ L, p y = true)
    have HB := Lib.hid hb
    have d1 : decide ((i : Int) ≥ 0) = true := decide_eq_true (by omega)
    have d2 : decide (0 ≤ (i : Int)) = true := decide_eq_true (by omega)
    clear hy hq hb HI
    go_wp2_with fail
    go_ret
    exact ⟨⟨true, rfl, (fun _ => HY.out), (fun h => by cases h)⟩, HB.out⟩

set_option maxHeartbeats 4000000 in
theorem psee_any (A B : Option Addr) (n a m b : Nat) (t : Tb) (D : Option Addr) (N d : Nat) (c : Int) (T : Tr) (x k : Int) (hm : m ≤ 1000) (hN : N ≤ 1000) (w : World) (ht : TbO w A n a B m b t) (hr : TrAto w D N T) :
    Calls Try.prog 11 #[tbV A n a B m b, trV D N d c, .int .i64 x, .int .i64 k] w fun e w' => e = .returned (.tuple #[.int .i64 (t.seeV T x k), .int .i64 (t.seeE T x k)]) ∧ Below w.heap.size w w' := by
  have HT := Lib.hid ht
  have HR := Lib.hid hr
  have hx0 := ((Bk.new w (tbC A n a B m b) 34).al (.cells (trC D N d c) 38)).al (.cells #[.int .i64 x] 3)
  have hy0 := Bk.new (w.alloc (.cells (tbC A n a B m b) 34)) (trC D N d c) 38
  rw [size_al] at hy0
  have hz0 := Bk.new ((w.alloc (.cells (tbC A n a B m b) 34)).alloc (.cells (trC D N d c) 38)) #[.int .i64 x] 3
  rw [size_al, size_al] at hz0
  have HX := Lib.hid hx0
  have HY := Lib.hid (hy0.al (.cells #[.int .i64 x] 3))
  have HZ := Lib.hid hz0
  have HB := Lib.hid (below_two (below_two (below_new w (.cells (tbC A n a B m b) 34)) (below_new _ (.cells (trC D N d c) 38))) (below_new _ (.cells #[.int .i64 x] 3)))
  have hmy := asked_any A B n a m b t D N d c T x k hm ht.mb ht.sb _ (HT.out.tb.below HB.out) (HR.out.below HB.out)
  have HMZ := Lib.hid (fun h => may_zero (t := t) (T := T) (x := x) (k := k) h)
  have HN0 := Lib.hid (show t.may T x k ≠ 0 → t.seeV T x k = 0 ∧ t.seeE T x k = t.may T x k from fun h => by unfold Tb.seeV Tb.seeE; rw [if_neg h, if_neg h]; exact ⟨rfl, rfl⟩)
  have x0 := HX.out.t0
  have x1 := HX.out.t1
  have y0 := HY.out.r_0
  have y1 := HY.out.r_1
  have z0 := HZ.out.c 0 _ rfl
  obtain ⟨mm, hmm⟩ : ∃ q, t.may T x k = q := ⟨_, rfl⟩
  rw [hmm] at hmy HN0 HMZ
  have HMM := Lib.hid hmm
  clear ht hr hx0 hy0 hz0 hmm
  go_enter Try.func11, Try.ntmps11
  go_wp2_with fail
  refine hmy.mono ?_
  rintro e w1 ⟨rfl, hb⟩
  replace HX := Lib.hid (HX.out.below hb)
  replace HY := Lib.hid (HY.out.below hb)
  replace HZ := Lib.hid (HZ.out.below hb)
  replace HB := Lib.hid (HB.out.trans (hb.mono HB.out.size))
  clear hb hmy x0 x1 y0 y1 z0
  rcases Classical.em (mm = 0) with h0 | h0
  · subst h0
    obtain ⟨hsn, ⟨hk0, hk1⟩, _, _⟩ := HMZ.out rfl
    obtain ⟨kn, rfl⟩ : ∃ kn : Nat, k = kn := ⟨k.toNat, by omega⟩
    have hkn : kn < n := by rw [HT.out.tb.cl] at hk1; omega
    have HS := Lib.hid (Tb.san hsn)
    have hn64 : n ≤ 64 := by have := HS.out.n; rw [HT.out.tb.cl] at this; exact this
    have HON := Lib.hid (on_any A B n a m b t.P (kn : Int) ⟨by omega, by omega⟩ HS.out.up (fun p hp => (HS.out.may p hp).x0) HT.out.tb.pl (by omega) HT.out.mb HT.out.sb w1 (HT.out.tb.atP.below HB.out))
    have HAO := Lib.hid (show (∀ x ∈ amt (onL t.P (kn : Int)), okI x) ∧ (onL t.P (kn : Int)).length ≤ 1000 from ⟨by rw [amt_on]; exact sumsOf_ok HT.out.tb.okP _, by
      have : (onL t.P (kn : Int)).length ≤ t.P.length := List.length_filter_le ..
      rw [HT.out.tb.pl] at this
      omega⟩)
    obtain ⟨b1, o1, hA, hbl, hget, q0, q1, q2⟩ := ct_cellso HT.out.tb.atC HT.out.tb.cl hkn
    subst hA
    have HBL := Lib.hid hbl
    have HV := Lib.hid (HT.out.tb.okC _ (List.mem_of_getElem? hget)).v
    have HTO := Lib.hid (HS.out.total (show kn < t.C.length by rw [HT.out.tb.cl]; exact hkn))
    have HWT := Lib.hid (fun h => see_wait (x := x) HMM.out h)
    have HSO := Lib.hid (fun h => see_ok (x := x) HMM.out HV.out HTO.out h)
    have HC2 := Lib.hid q2
    rw [← amt_on] at HTO HSO
    generalize (t.C.getD kn ctD).v = v at *
    have hd1 : decide (kn < n) = true := decide_eq_true hkn
    have hi1 : (kn : Int) < (n : Int) := by omega
    generalize onL t.P (kn : Int) = ol at *
    clear q0 q1 q2 hbl hget hk0 hk1 hsn HMZ HN0
    have x0 := HX.out.t0
    have x1 := HX.out.t1
    go_wp2_with fail
    refine HON.out.mono ?_
    rintro e w2 ⟨A3, n3, c3, rfl, hat3, hln3, hb2⟩
    have HL3 := Lib.hid hln3
    have HA2 := Lib.hid hat3
    have HB2 := Lib.hid (HB.out.trans (hb2.mono HB.out.size))
    have HX2 := Lib.hid (HX.out.below hb2)
    have HY2 := Lib.hid (HY.out.below hb2)
    have HZ2 := Lib.hid (HZ.out.below hb2)
    have hct := contains_any (w.heap.size + 1) (w.heap.size + 1 + 1) (fun y => !standsR T x y.x) A3 ol n3 c3 hln3 (by have := HAO.out.2; omega) w2 hat3 (fun V hV y hy => see1_any (w.heap.size + 1) (w.heap.size + 1 + 1) D N d c x T hN y V (HY2.out.below hV) (HZ2.out.below hV) (HR.out.below (HB2.out.trans (hV.mono HB2.out.size))))
    clear hat3 hln3 hb2 HON x0 x1 HX HY HZ HB
    go_wp2_with fail
    refine hct.mono ?_
    rintro e w4 ⟨⟨q, rfl, ht1, hf1⟩, hb4⟩
    have HB4 := Lib.hid (HB2.out.trans (hb4.mono HB2.out.size))
    have HX4 := Lib.hid (HX2.out.below hb4)
    have HA3 := Lib.hid (fun V (hV : Since w4 V) => (HA2.out.below hb4).below hV)
    have HT1 := Lib.hid ht1
    have HF1 := Lib.hid hf1
    clear hct ht1 hf1 hb4 HX2 HY2 HZ2 HB2 HA2
    cases q
    · have HSS := Lib.hid (HSO.out (fun p hp => by have := HF1.out rfl p hp; simpa using this))
      have HVV := Lib.hid HSS.out.1
      have HVE := Lib.hid HSS.out.2
      have HSM := Lib.hid (show sumV (amt ol ++ [v]) = v + sumI (amt ol) ∧ sumE (amt ol ++ [v]) = 0 from by
        have hl : (amt ol ++ [v]).length ≤ 4096 := by have := amt_len ol; have := HAO.out.2; rw [List.length_append, List.length_singleton]; omega
        have he : sumI (amt ol ++ [v]) = v + sumI (amt ol) := by rw [sumI_append, sumI_cons, sumI_nil]; omega
        have h0 : sumE (amt ol ++ [v]) = 0 := by unfold sumE; rw [if_neg (by omega), he, if_pos HTO.out]
        exact ⟨by unfold sumV; rw [if_pos h0, he], h0⟩)
      go_upto_region 7 with fail
      have X0 : ∀ V, Since w4 V → V.cell? ⟨w.heap.size, 0, none⟩ = some (.slice (some ⟨b1, o1, none⟩) n a) := fun V hV => (HX4.out.below hV).t0
      have C2 : ∀ V, Since w4 V → V.cell? ⟨b1, o1 + kn * 3 + 2, none⟩ = some (.int .i64 v) := fun V hV => ((HB4.out.trans (Below.mono hV HB4.out.size)).cell (p := ⟨b1, o1 + kn * 3 + 2, none⟩) HBL.out).trans HC2.out
      generalize v + sumI (amt ol) = tot at *
      refine wp_region_since (by kernel_rfl) ?_
      have hS : Since w4 (World.drew w4) := (Below.refl _ _).drew
      refine wpAnyH_take (i := 0) (oi := ⟨some 26, _, _, _, _, _⟩) (v := ?_) rfl (by kernel_rfl) (by kernel_rfl) (by kernel_rfl) (fun _ _ _ h => h) (Or.inl ⟨by rfl, ?_⟩) hS ?_
      rotate_left
      · intro W hW; go_simp; with_reducible rfl
      try simp only [Act.put, List.setIfInBounds_toArray, List.set_cons_zero, List.set_cons_succ]
      refine wpAnyH_take (i := 2) (oi := ⟨some 28, _, _, _, _, _⟩) (v := ?_) rfl (by kernel_rfl) (by kernel_rfl) (by kernel_rfl) (fun _ _ _ h => h) (Or.inl ⟨by rfl, ?_⟩) hS ?_
      rotate_left
      · intro W hW; go_simp; with_reducible rfl
      try simp only [Act.put, List.setIfInBounds_toArray, List.set_cons_zero, List.set_cons_succ]
      refine wpAnyH_take (i := 3) (oi := ⟨some 29, _, _, _, _, _⟩) (v := ?_) rfl (by kernel_rfl) (by kernel_rfl) (by kernel_rfl) (fun _ _ _ h => h) (Or.inl ⟨by rfl, ?_⟩) hS ?_
      rotate_left
      · intro W hW; go_simp; with_reducible rfl
      try simp only [Act.put, List.setIfInBounds_toArray, List.set_cons_zero, List.set_cons_succ]
      refine wpAnyH_take (i := 4) (oi := ⟨some 30, _, _, _, _, _⟩) (v := ?_) rfl (by kernel_rfl) (by kernel_rfl) (by kernel_rfl) (fun _ _ _ h => h) (Or.inl ⟨by rfl, ?_⟩) hS ?_
      rotate_left
      · intro W hW; go_simp; with_reducible rfl
      try simp only [Act.put, List.setIfInBounds_toArray, List.set_cons_zero, List.set_cons_succ]
      refine wpAnyH_take (i := 5) (oi := ⟨some 31, _, _, _, _, _⟩) (v := ?_) rfl (by kernel_rfl) (by kernel_rfl) (by kernel_rfl) (fun _ _ _ h => h) (Or.inl ⟨by rfl, ?_⟩) hS ?_
      rotate_left
      · intro W hW; go_simp; with_reducible rfl
      try simp only [Act.put, List.setIfInBounds_toArray, List.set_cons_zero, List.set_cons_succ]
      refine wpAnyH_take (i := 6) (oi := ⟨some 32, _, _, _, _, _⟩) (v := ?_) rfl (by kernel_rfl) (by kernel_rfl) (by kernel_rfl) (fun _ _ _ h => h) (Or.inl ⟨by rfl, ?_⟩) hS ?_
      rotate_left
      · intro W hW; go_simp; with_reducible rfl
      try simp only [Act.put, List.setIfInBounds_toArray, List.set_cons_zero, List.set_cons_succ]
      refine wpAnyH_take (i := 7) (oi := ⟨some 33, _, _, _, _, _⟩) (v := ?_) rfl (by kernel_rfl) (by kernel_rfl) (by kernel_rfl) (fun _ _ _ h => h) (Or.inl ⟨by rfl, ?_⟩) hS ?_
      rotate_left
      · intro W hW; go_simp; with_reducible rfl
      try simp only [Act.put, List.setIfInBounds_toArray, List.set_cons_zero, List.set_cons_succ]
      refine wpAnyH_ready (rs := [1, 8]) (by kernel_rfl) (by simp) ?_
      refine AllReadyH.cons (o := ⟨some 27, _, _, _, _, _⟩) rfl (fun Kr hKr => ?_) (AllReadyH.cons (o := ⟨some 34, _, _, _, _, _⟩) rfl (fun Kr hKr => ?_) AllReadyH.nil)
      · skip
        -- operation 1: a call
        go_simp
        refine (amounts_any A3 n3 c3 ol HL3.out (by have h1 := HL3.out; have h2 := HAO.out.2; omega) _ (HA3.out _ hS)).mono ?_
        rintro e V8 ⟨lv, rfl, hown, hx⟩
        have HO8 := Lib.hid (Rk.Own.le hown (b := w4.heap.size) hS.size)
        clear hown
        try replace HZ1 := Lib.hid (HZ1.out.below hx)
        show Kr _ _
        refine hKr.out _ _ ?_ (fun _ => ?_)
        · exact since_trans hS hx
        clear hKr Kr
        replace hS : Since w4 V8 := since_trans hS hx
        try simp only [Act.put, List.setIfInBounds_toArray, List.set_cons_zero, List.set_cons_succ]
        refine wpAnyH_ready (rs := [8]) (by kernel_rfl) (by simp) ?_
        refine AllReadyH.cons (o := ⟨some 34, _, _, _, _, _⟩) rfl (fun Kr hKr => ?_) AllReadyH.nil
        -- operation 8: a step
        try rw [if_pos (by kernel_rfl)]
        refine wp_build_one (n := v) _ rfl rfl ?_
        intro VA gb hgb hatz hx
        have HZ1 := Lib.hid hatz
        clear hatz
        try replace HO8 := Lib.hid (HO8.out.below hx)
        show Kr _ _
        refine hKr.out _ _ ?_ (fun _ => ?_)
        · exact since_trans hS hx
        clear hKr Kr
        replace hS : Since w4 VA := since_trans hS hx
        try simp only [Act.put, List.setIfInBounds_toArray, List.set_cons_zero, List.set_cons_succ]
        refine wpAnyH_ready (rs := [9]) (by kernel_rfl) (by simp) ?_
        refine AllReadyH.cons (o := ⟨some 35, _, _, _, _, _⟩) rfl (fun Kr hKr => ?_) AllReadyH.nil
        -- operation 9: a step
        try rw [if_pos (by kernel_rfl)]
        refine Rk.wp_append ri_ok (.tmp 27) (.tmp 34) rfl w4.heap.size lv (amt ol) [v] rfl HO8.out _ 1 1 rfl HZ1.out rfl (.inr ⟨_, _, rfl⟩) (by have := amt_len ol; have := HAO.out.2; rw [List.length_singleton]; omega) hS.size ?_
        intro v4 w5 hx1 hg1 ha1
        obtain ⟨A4, n4, c4, e4, en4, hl4⟩ := own_ls hx1 (ok_app HAO.out.1 HV.out)
        subst e4
        have HL4 := Lib.hid hl4
        have HG4 := Lib.hid hg1
        have HLV := Lib.hid (fun q e => (HO8.out.lt q e).1)
        clear hl4 en4 hx1 hg1 ha1
        show Kr _ _
        refine hKr.out _ _ ?_ (fun _ => ?_)
        · exact Below.grown hS HG4.out hS.size (fun q e => HLV.out q e)
        clear hKr Kr
        replace hS : Since w4 w5 := Below.grown hS HG4.out hS.size (fun q e => HLV.out q e)
        try simp only [Act.put, List.setIfInBounds_toArray, List.set_cons_zero, List.set_cons_succ]
        refine wpAnyH_ready (rs := [10]) (by kernel_rfl) (by simp) ?_
        refine AllReadyH.cons (o := ⟨some 36, _, _, _, _, _⟩) rfl (fun Kr hKr => ?_) AllReadyH.nil
        -- operation 10: a call
        go_simp
        refine (sum_any A4 n4 c4 _ _ HL4.out).mono ?_
        rintro e V9 ⟨he, hx⟩
        rw [HSM.out.1, HSM.out.2] at he
        subst he
        show Kr _ _
        refine hKr.out _ _ ?_ (fun _ => ?_)
        · exact since_trans hS hx
        clear hKr Kr
        replace hS : Since w4 V9 := since_trans hS hx
        try simp only [Act.put, List.setIfInBounds_toArray, List.set_cons_zero, List.set_cons_succ]
        refine wpAnyH_take (i := 11) (oi := ⟨some 37, _, _, _, _, _⟩) (v := ?_) rfl (by kernel_rfl) (by kernel_rfl) (by kernel_rfl) (fun _ _ _ h => h) (Or.inl ⟨by rfl, ?_⟩) hS ?_
        rotate_left
        · intro W hW; go_simp; with_reducible rfl
        try simp only [Act.put, List.setIfInBounds_toArray, List.set_cons_zero, List.set_cons_succ]
        refine wpAnyH_take (i := 12) (oi := ⟨some 38, _, _, _, _, _⟩) (v := ?_) rfl (by kernel_rfl) (by kernel_rfl) (by kernel_rfl) (fun _ _ _ h => h) (Or.inl ⟨by rfl, ?_⟩) hS ?_
        rotate_left
        · intro W hW; go_simp; with_reducible rfl
        try simp only [Act.put, List.setIfInBounds_toArray, List.set_cons_zero, List.set_cons_succ]
        refine wpAnyH_take (i := 13) (oi := ⟨some 8, _, _, _, _, _⟩) (v := ?_) rfl (by kernel_rfl) (by kernel_rfl) (by kernel_rfl) (fun _ _ _ h => h) (Or.inl ⟨by rfl, ?_⟩) hS ?_
        rotate_left
        · intro W hW; go_simp; with_reducible rfl
        try simp only [Act.put, List.setIfInBounds_toArray, List.set_cons_zero, List.set_cons_succ]
        refine wpAnyH_take (i := 14) (oi := ⟨some 9, _, _, _, _, _⟩) (v := ?_) rfl (by kernel_rfl) (by kernel_rfl) (by kernel_rfl) (fun _ _ _ h => h) (Or.inl ⟨by rfl, ?_⟩) hS ?_
        rotate_left
        · intro W hW; go_simp; with_reducible rfl
        try simp only [Act.put, List.setIfInBounds_toArray, List.set_cons_zero, List.set_cons_succ]
        refine wpAnyH_done (by kernel_rfl) ?_ _
        go_wp2_with fail
        go_ret2
        exact ⟨by rw [HVV.out, HVE.out]; rfl, HB4.out.trans (Below.mono hS HB4.out.size)⟩
      · skip
        -- operation 8: a step
        try rw [if_pos (by kernel_rfl)]
        refine wp_build_one (n := v) _ rfl rfl ?_
        intro VA gb hgb hatz hx
        have HZ1 := Lib.hid hatz
        clear hatz
        try replace HO8 := Lib.hid (HO8.out.below hx)
        show Kr _ _
        refine hKr.out _ _ ?_ (fun _ => ?_)
        · exact since_trans hS hx
        clear hKr Kr
        replace hS : Since w4 VA := since_trans hS hx
        try simp only [Act.put, List.setIfInBounds_toArray, List.set_cons_zero, List.set_cons_succ]
        refine wpAnyH_ready (rs := [1]) (by kernel_rfl) (by simp) ?_
        refine AllReadyH.cons (o := ⟨some 27, _, _, _, _, _⟩) rfl (fun Kr hKr => ?_) AllReadyH.nil
        -- operation 1: a call
        go_simp
        refine (amounts_any A3 n3 c3 ol HL3.out (by have h1 := HL3.out; have h2 := HAO.out.2; omega) _ (HA3.out _ hS)).mono ?_
        rintro e V8 ⟨lv, rfl, hown, hx⟩
        have HO8 := Lib.hid (Rk.Own.le hown (b := w4.heap.size) hS.size)
        clear hown
        try replace HZ1 := Lib.hid (HZ1.out.below hx)
        show Kr _ _
        refine hKr.out _ _ ?_ (fun _ => ?_)
        · exact since_trans hS hx
        clear hKr Kr
        replace hS : Since w4 V8 := since_trans hS hx
        try simp only [Act.put, List.setIfInBounds_toArray, List.set_cons_zero, List.set_cons_succ]
        refine wpAnyH_ready (rs := [9]) (by kernel_rfl) (by simp) ?_
        refine AllReadyH.cons (o := ⟨some 35, _, _, _, _, _⟩) rfl (fun Kr hKr => ?_) AllReadyH.nil
        -- operation 9: a step
        try rw [if_pos (by kernel_rfl)]
        refine Rk.wp_append ri_ok (.tmp 27) (.tmp 34) rfl w4.heap.size lv (amt ol) [v] rfl HO8.out _ 1 1 rfl HZ1.out rfl (.inr ⟨_, _, rfl⟩) (by have := amt_len ol; have := HAO.out.2; rw [List.length_singleton]; omega) hS.size ?_
        intro v4 w5 hx1 hg1 ha1
        obtain ⟨A4, n4, c4, e4, en4, hl4⟩ := own_ls hx1 (ok_app HAO.out.1 HV.out)
        subst e4
        have HL4 := Lib.hid hl4
        have HG4 := Lib.hid hg1
        have HLV := Lib.hid (fun q e => (HO8.out.lt q e).1)
        clear hl4 en4 hx1 hg1 ha1
        show Kr _ _
        refine hKr.out _ _ ?_ (fun _ => ?_)
        · exact Below.grown hS HG4.out hS.size (fun q e => HLV.out q e)
        clear hKr Kr
        replace hS : Since w4 w5 := Below.grown hS HG4.out hS.size (fun q e => HLV.out q e)
        try simp only [Act.put, List.setIfInBounds_toArray, List.set_cons_zero, List.set_cons_succ]
        refine wpAnyH_ready (rs := [10]) (by kernel_rfl) (by simp) ?_
        refine AllReadyH.cons (o := ⟨some 36, _, _, _, _, _⟩) rfl (fun Kr hKr => ?_) AllReadyH.nil
        -- operation 10: a call
        go_simp
        refine (sum_any A4 n4 c4 _ _ HL4.out).mono ?_
        rintro e V9 ⟨he, hx⟩
        rw [HSM.out.1, HSM.out.2] at he
        subst he
        show Kr _ _
        refine hKr.out _ _ ?_ (fun _ => ?_)
        · exact since_trans hS hx
        clear hKr Kr
        replace hS : Since w4 V9 := since_trans hS hx
        try simp only [Act.put, List.setIfInBounds_toArray, List.set_cons_zero, List.set_cons_succ]
        refine wpAnyH_take (i := 11) (oi := ⟨some 37, _, _, _, _, _⟩) (v := ?_) rfl (by kernel_rfl) (by kernel_rfl) (by kernel_rfl) (fun _ _ _ h => h) (Or.inl ⟨by rfl, ?_⟩) hS ?_
        rotate_left
        · intro W hW; go_simp; with_reducible rfl
        try simp only [Act.put, List.setIfInBounds_toArray, List.set_cons_zero, List.set_cons_succ]
        refine wpAnyH_take (i := 12) (oi := ⟨some 38, _, _, _, _, _⟩) (v := ?_) rfl (by kernel_rfl) (by kernel_rfl) (by kernel_rfl) (fun _ _ _ h => h) (Or.inl ⟨by rfl, ?_⟩) hS ?_
        rotate_left
        · intro W hW; go_simp; with_reducible rfl
        try simp only [Act.put, List.setIfInBounds_toArray, List.set_cons_zero, List.set_cons_succ]
        refine wpAnyH_take (i := 13) (oi := ⟨some 8, _, _, _, _, _⟩) (v := ?_) rfl (by kernel_rfl) (by kernel_rfl) (by kernel_rfl) (fun _ _ _ h => h) (Or.inl ⟨by rfl, ?_⟩) hS ?_
        rotate_left
        · intro W hW; go_simp; with_reducible rfl
        try simp only [Act.put, List.setIfInBounds_toArray, List.set_cons_zero, List.set_cons_succ]
        refine wpAnyH_take (i := 14) (oi := ⟨some 9, _, _, _, _, _⟩) (v := ?_) rfl (by kernel_rfl) (by kernel_rfl) (by kernel_rfl) (fun _ _ _ h => h) (Or.inl ⟨by rfl, ?_⟩) hS ?_
        rotate_left
        · intro W hW; go_simp; with_reducible rfl
        try simp only [Act.put, List.setIfInBounds_toArray, List.set_cons_zero, List.set_cons_succ]
        refine wpAnyH_done (by kernel_rfl) ?_ _
        go_wp2_with fail
        go_ret2
        exact ⟨by rw [HVV.out, HVE.out]; rfl, HB4.out.trans (Below.mono hS HB4.out.size)⟩
    · have HSS := Lib.hid (HWT.out (by
        obtain ⟨p, hp, h⟩ := HT1.out rfl
        exact ⟨p, hp, by simpa using h⟩))
      go_wp2_with fail
      go_ret2
      exact ⟨by rw [HSS.out.1, HSS.out.2]; rfl, HB4.out⟩
  · have HNN := Lib.hid (HN0.out h0)
    have q1 : (mm == 0) = false := by simpa using h0
    have q2 : (mm != 0) = true := by simpa using h0
    clear h0
    go_wp2_with fail
    go_ret2
    exact ⟨by rw [HNN.out.1, HNN.out.2]; rfl, HB.out⟩
end Go.Proofs.Ytogngghfdcpeaaa
