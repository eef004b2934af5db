/-
  A sound tree is told sound; the law's example; things that are done.
-/
import Derived.Test.YtohnfjneghbceaaSane2
namespace Go.Proofs.Ytohnfjneghbceaa
set_option maxRecDepth 100000
set_option linter.unusedVariables false
open Go.RowKit Go.Shelf

set_option maxHeartbeats 4000000 in
theorem sane_any (A : Option Addr) (T : Tr) (N cap : Nat) (c : Int) (hN : T.l.length = N) (hG : Good T) (hc : T.c = c) (hcb : c ≤ 1000) (w : World) (hT : TxAt w A T.l) :
    Calls Try.prog 19 #[.agg #[.slice A N cap, .int .i64 c]] w fun e w' => e = .returned (.bool true) ∧ Below w.heap.size w w' := by
  have hb0 := below_new w (.cells #[.slice A N cap, .int .i64 c] 26)
  have ht0 := TB.new w A N cap c
  have hT0 := hT.below hb0
  have hn64 : N ≤ 64 := by have := hG.n; omega
  have hn64i : ¬ (64 : Int) < (N : Int) := by omega
  have hc0 : ¬ c < 0 := by have := hG.c0; omega
  have c0 := ht0.c0
  have c1 := ht0.c1
  have HT0 := Lib.hid ht0
  have HTX := Lib.hid hT0
  have HB := Lib.hid hb0
  have HN := Lib.hid hN
  have HG := Lib.hid hG
  have HC := Lib.hid hc
  clear hT hT0 hN hG hb0 ht0 hc
  go_enter Try.func19, Try.ntmps19
  go_upto_region 1 with fail
  generalize w.alloc (.cells #[.slice A N cap, .int .i64 c] 26) = w0 at *
  go_wp2_with fail
  clear c0 c1
  go_loopw [16] (fun iv wr => ∃ j : Nat, iv = .int .i64 (j : Int) ∧ j ≤ N ∧ Hid (TxAt wr A T.l) ∧ Hid (TB wr w.heap.size A N cap c) ∧ Hid (Below w.heap.size w wr)) (fun iv _ => N - (intOf iv).toNat)
  case atStart => exact ⟨0, rfl, Nat.zero_le _, HTX.out, HT0.out, HB.out⟩
  case round =>
    obtain ⟨j, rfl, hj, htx, htb, hbl⟩ := hrel
    clear HTX HT0 HB
    have c0 := htb.out.c0
    have c1 := htb.out.c1
    rcases Nat.lt_or_ge j N with hlt | hge
    · go_wp2_with fail
      refine (placed_any A T N cap c j hlt HN.out HG.out wr htx.out).mono ?_
      rintro e w1 ⟨rfl, hb1⟩
      have HX1 := Lib.hid (htx.out.below hb1)
      have HT1 := Lib.hid (htb.out.below hb1)
      have HB1 := Lib.hid (hbl.out.trans (hb1.mono hbl.out.size))
      clear hb1 htx htb hbl c0 c1
      have c0 := HT1.out.c0
      have c1 := HT1.out.c1
      go_wp2_with fail
      refine (timed_any A T N cap c j hlt HN.out HG.out HC.out w1 HX1.out).mono ?_
      rintro e w2 ⟨rfl, hb2⟩
      have HX2 := Lib.hid (HX1.out.below hb2)
      have HT2 := Lib.hid (HT1.out.below hb2)
      have HB2 := Lib.hid (HB1.out.trans (hb2.mono HB1.out.size))
      clear hb2 HX1 HT1 HB1 c0 c1
      have c0 := HT2.out.c0
      have c1 := HT2.out.c1
      go_wp2_with fail
      refine (nested_any A T N cap c j hlt HN.out HG.out w2 HX2.out).mono ?_
      rintro e w3 ⟨rfl, hb3⟩
      have HX3 := Lib.hid (HX2.out.below hb3)
      have HT3 := Lib.hid (HT2.out.below hb3)
      have HB3 := Lib.hid (HB2.out.trans (hb3.mono HB2.out.size))
      clear hb3 HX2 HT2 HB2 c0 c1
      go_wp2
      go_roundw
      case rel => exact ⟨j + 1, by simp, by omega, HX3.out, HT3.out, HB3.out⟩
      case measure => simp [intOf]; omega
    · obtain rfl : j = N := by omega
      go_wp2_with fail
      refine (apart_any A T j cap c HN.out HG.out (by rw [HC.out]; exact hcb) wr htx.out).mono ?_
      rintro e w1 ⟨rfl, hb1⟩
      have HB1 := Lib.hid (hbl.out.trans (hb1.mono hbl.out.size))
      clear hb1 htx htb hbl c0 c1
      go_wp2
      go_ret
      exact ⟨rfl, HB1.out⟩

/-! ### the document's example -/
def T1 : Tr := ⟨[⟨-1, 1, 1, 0⟩], 1⟩
def T2 : Tr := ⟨[⟨-1, 1, 1, 0⟩, ⟨0, 1, 2, 0⟩], 2⟩
theorem way0 (T : Tr) (h : (T.tx 0).p < 0) : wayN T.par 0 = [0] := wayN_top h
theorem may1 : MayBegin ⟨[], 0⟩ (-1) := ⟨.inl rfl, by decide, by simp [Tr.way]⟩
theorem may2 : MayBegin T1 0 := ⟨.inr ⟨0, rfl, by decide, rfl⟩, by decide, by
  rw [show (0 : Int) = ((0 : Nat) : Int) from rfl, Tr.way_nat (by decide), way0 T1 (by decide)]
  decide⟩
theorem may3 : MayDo T2 1 := ⟨by decide, rfl, fun i hi hin hne => by
  have h0 : i = 0 := by
    have : i < 2 := hi
    omega
  subst h0
  unfold Tr.inn at hin
  rw [way0 T2 (by decide)] at hin
  simp at hin⟩
theorem T3_live : ((T2.done 1).tx 0).s = 1 := by
  unfold Tr.done
  rw [tx_out (by decide) (by decide)]
  rfl
theorem good1 : Good T1 := Good.begun (T := ⟨[], 0⟩) (p := -1) good_nil may1
theorem good2 : Good T2 := good1.begun may2
theorem good3 : Good (T2.done 1) := good2.done may3
theorem par3 (i : Nat) : (T2.done 1).par i = T2.par i := by unfold Tr.done; rw [par_turned]
theorem len3 : (T2.done 1).l.length = 2 := by unfold Tr.done; rw [len_turned]; rfl
theorem in3 : ∀ j, j < 2 → (T2.done 1).inn 0 j := by
  intro j hj
  unfold Tr.inn
  have h0 : wayN (T2.done 1).par 0 = [0] := wayN_top (by rw [par3]; decide)
  have h1 : wayN (T2.done 1).par 1 = [1, 0] := by rw [wayN_up (j := 0) (by rw [par3]; rfl) (by decide), h0]
  rcases j with _ | _ | j
  · rw [h0]; simp
  · rw [h1]; simp
  · omega
theorem s3 : ∀ j, j < 2 → ((T2.done 1).tx j).s ≠ 3 := by
  intro j hj
  have h1 : ((T2.done 1).tx 1).s = 2 := by
    unfold Tr.done
    exact (tx_in (X := fun i => i = 1) (by decide) rfl).1
  rcases j with _ | _ | j
  · rw [T3_live]; decide
  · rw [h1]; decide
  · omega
theorem gone3 : ((T2.done 1).gone 0 2).length = 2 := by
  have h0 := in3 0 (by decide)
  have h1 := in3 1 (by decide)
  have g0 := s3 0 (by decide)
  have g1 := s3 1 (by decide)
  unfold Tr.gone Tr.kin
  simp [List.range_succ, h0, h1, g0, g1]
theorem u4 : ∀ j, j < 2 → (((T2.done 1).undone 0).tx j).s = 3 := by
  intro j hj
  exact (tx_in (X := fun i => (T2.done 1).inn 0 i ∧ ((T2.done 1).tx i).s ≠ 3) (by rw [len3]; exact hj) ⟨in3 j hj, s3 j hj⟩).1

/-- a box of a tree's is no row of transactions -/
theorem TxAt.box {W V : World} {A A' : Option Addr} {l : List Tx} {g n k : Nat} {c : Int} (h : TxAt W A l) (hb : TB W g A' n k c) (hg : W.grownBy V (some g)) : TxAt V A l := by
  refine h.turn (S := fun j => j = g) ((Turn.refl _ W).grown hg (fun j e => by injection e with e; exact .inl e.symm)) (fun b o e => ?_)
  rcases h with ⟨h1, h2⟩ | ⟨b', e', hl, hc⟩
  · exact .inl h2
  · rw [e] at e'
    injection e' with e'
    injection e' with e1
    subst e1
    cases l with
    | nil => exact .inl rfl
    | cons x l =>
      refine .inr (fun hbg => ?_)
      have h1 := (hc 0 x rfl).1
      have h2 := hb.c0
      rw [← hbg] at h2
      rw [Nat.zero_mul, h2] at h1
      cases h1
theorem aw1 (w : World) : Calls Try.prog 20 #[.agg #[.slice none 0 0, .int .i64 0], .int .i64 (-1)] w fun e w' => ∃ A k, e = .returned (.tuple #[.agg #[.slice A 1 k, .int .i64 1], .int .i64 0, .int .i64 0]) ∧ TxAt w' A T1.l ∧ Below w.heap.size w w' := by
  refine (begin_any none ⟨[], 0⟩ 0 0 0 (-1) rfl good_nil rfl (by decide) w (.inl ⟨rfl, rfl⟩)).mono ?_
  rintro e w1 ⟨hb, ⟨_, A, k, n, rfl, rfl, htx⟩ | ⟨_, _, hno, _⟩⟩
  · exact ⟨A, k, rfl, htx, hb⟩
  · exact absurd may1 hno
theorem aw2 (A : Option Addr) (k : Nat) (w : World) (h : TxAt w A T1.l) : Calls Try.prog 20 #[.agg #[.slice A 1 k, .int .i64 1], .int .i64 0] w fun e w' => ∃ A k, e = .returned (.tuple #[.agg #[.slice A 2 k, .int .i64 2], .int .i64 1, .int .i64 0]) ∧ TxAt w' A T2.l ∧ Below w.heap.size w w' := by
  refine (begin_any A T1 1 k 1 0 rfl good1 rfl (by decide) w h).mono ?_
  rintro e w1 ⟨hb, ⟨_, A, k, n, rfl, rfl, htx⟩ | ⟨_, _, hno, _⟩⟩
  · exact ⟨A, k, rfl, htx, hb⟩
  · exact absurd may2 hno
theorem aw3 (A : Option Addr) (k : Nat) (w : World) (h : TxAt w A T2.l) : Calls Try.prog 21 #[.agg #[.slice A 2 k, .int .i64 2], .int .i64 1] w fun e w' => ∃ A k, e = .returned (.tuple #[.agg #[.slice A 2 k, .int .i64 3], .int .i64 0]) ∧ TxAt w' A (T2.done 1).l ∧ Below w.heap.size w w' := by
  refine (commit_any A T2 2 k 2 1 rfl good2 rfl (by decide) w h).mono ?_
  rintro e w1 ⟨hb, ⟨i, hi, _, A, k, n, rfl, rfl, htx⟩ | ⟨_, _, hno, _⟩⟩
  · obtain rfl : i = 1 := by omega
    exact ⟨A, k, rfl, htx, hb⟩
  · exact absurd may3 (hno 1 rfl)
theorem aw4 (A : Option Addr) (k : Nat) (w : World) (h : TxAt w A (T2.done 1).l) : Calls Try.prog 22 #[.agg #[.slice A 2 k, .int .i64 3], .int .i64 0] w fun e w' => ∃ A k B kb, e = .returned (.tuple #[.agg #[.slice A 2 k, .int .i64 4], .slice B 2 kb, .int .i64 0]) ∧ TxAt w' A ((T2.done 1).undone 0).l ∧ Below w.heap.size w w' := by
  refine (abort_any A (T2.done 1) 2 k 3 0 len3 good3 rfl (by decide) w h).mono ?_
  rintro e w1 ⟨hb, ⟨i, hi, _, _, A, k, n, B, kb, m, rfl, rfl, rfl, htx, _⟩ | ⟨_, _, hno, _⟩⟩
  · obtain rfl : i = 0 := by omega
    rw [len3, gone3]
    exact ⟨A, k, B, kb, rfl, htx, hb⟩
  · exact absurd T3_live (hno 0 rfl (by rw [len3]; decide))

set_option maxHeartbeats 4000000 in
theorem awake_any (w : World) : Calls Try.prog 13 #[] w fun e w' => e = .returned (.bool true) ∧ Below w.heap.size w w' := by
  go_enter Try.func13, Try.ntmps13
  go_wp2_with fail
  refine (aw1 w).mono ?_
  rintro e w1 ⟨A1, k1, rfl, hx1, hb1⟩
  have HX1 := Lib.hid hx1
  have HB1 := Lib.hid hb1
  clear hb1 hx1
  go_wp2_with (first | (refine wpList_store_tree rfl (.tmp 1) (.tmp 12) rfl rfl rfl (TB.new w1 none 0 0 0) ?_; intro w2 hb2 hg2; have k0 := hb2.c0; have k1 := hb2.c1; have HT2 := Lib.hid hb2; have HG2 := Lib.hid hg2; clear hb2 hg2) | fail)
  have hb2 : Below w1.heap.size w1 w2 := (below_new w1 _).grown HG2.out (by simp) (fun k e => by injection e with e; omega)
  have HB2 := Lib.hid (HB1.out.trans (hb2.mono HB1.out.size))
  have HX2 := Lib.hid (HX1.out.below hb2)
  have HW1 := Lib.hid (HB1.out.size)
  generalize w1.heap.size = g at *
  clear hb2 HG2 HB1 HX1 k0 k1
  refine (aw2 A1 k1 w2 HX2.out).mono ?_
  rintro e w3 ⟨A3, k3, rfl, hx3, hb3⟩
  have HX3 := Lib.hid hx3
  have HT3 := Lib.hid (HT2.out.below hb3)
  have HB3 := Lib.hid (HB2.out.trans (hb3.mono HB2.out.size))
  clear hx3 hb3 HX2 HT2 HB2
  go_wp2_with (first | (refine wpList_store_tree rfl (.tmp 1) (.tmp 19) rfl rfl rfl HT3.out ?_; intro w4 hb4 hg4; have k0 := hb4.c0; have k1 := hb4.c1; have HT4 := Lib.hid hb4; have HG4 := Lib.hid hg4; clear hb4 hg4) | fail)
  have HX4 := Lib.hid (HX3.out.box HT3.out HG4.out)
  have HB4 := Lib.hid (HB3.out.grown HG4.out HB3.out.size (fun k e => by injection e with e; have := HW1.out; omega))
  clear HG4 HX3 HT3 HB3 k0 k1
  refine (aw3 A3 k3 w4 HX4.out).mono ?_
  rintro e w5 ⟨A5, k5, rfl, hx5, hb5⟩
  have HX5 := Lib.hid hx5
  have HT5 := Lib.hid (HT4.out.below hb5)
  have HB5 := Lib.hid (HB4.out.trans (hb5.mono HB4.out.size))
  clear hx5 hb5 HX4 HT4 HB4
  go_wp2_with (first | (refine wpList_store_tree rfl (.tmp 1) (.tmp 26) rfl rfl rfl HT5.out ?_; intro w6 hb6 hg6; have k0 := hb6.c0; have k1 := hb6.c1; have HT6 := Lib.hid hb6; have HG6 := Lib.hid hg6; clear hb6 hg6) | fail)
  have HX6 := Lib.hid (HX5.out.box HT5.out HG6.out)
  have HB6 := Lib.hid (HB5.out.grown HG6.out HB5.out.size (fun k e => by injection e with e; have := HW1.out; omega))
  clear HG6 HX5 HT5 HB5 k0 k1
  refine (aw4 A5 k5 w6 HX6.out).mono ?_
  rintro e w7 ⟨A7, k7, B7, kb7, rfl, hx7, hb7⟩
  have HX7 := Lib.hid hx7
  have HT7 := Lib.hid (HT6.out.below hb7)
  have HB7 := Lib.hid (HB6.out.trans (hb7.mono HB6.out.size))
  clear hx7 hb7 HX6 HT6 HB6
  go_upto_region 5 with (first | (refine wpList_store_tree rfl (.tmp 1) (.tmp 32) rfl rfl rfl HT7.out ?_; intro w8 hb8 hg8; have HT8 := Lib.hid hb8; have HG8 := Lib.hid hg8; clear hb8 hg8) | fail)
  have HX8 := Lib.hid (HX7.out.box HT7.out HG8.out)
  have HB8 := Lib.hid (HB7.out.grown HG8.out HB7.out.size (fun k e => by injection e with e; have := HW1.out; omega))
  clear HG8 HX7 HT7 HB7
  have hlen : ((T2.done 1).undone 0).l.length = 2 := by unfold Tr.undone; rw [len_turned, len3]
  obtain ⟨b, hAe, hb, _, p1, _, _⟩ := HX8.out.get (i := 0) (by rw [hlen]; decide)
  obtain ⟨b', hAe', hb', _, q1, _, _⟩ := HX8.out.get (i := 1) (by rw [hlen]; decide)
  subst hAe
  injection hAe' with hAe'
  injection hAe' with hAe'
  subst hAe'
  rw [u4 0 (by decide)] at p1
  rw [u4 1 (by decide)] at q1
  simp only [Nat.zero_mul, Nat.one_mul, Nat.zero_add, Nat.reduceAdd] at p1 q1
  have k0 := HT8.out.c0
  have k1 := HT8.out.c1
  clear hlen
  go_wp2_with fail
  refine (sane_any (some ⟨b, 0, none⟩) ((T2.done 1).undone 0) 2 k7 4 (by unfold Tr.undone; rw [len_turned, len3]) good3.undone rfl (by decide) w8 HX8.out).mono ?_
  rintro e w9 ⟨rfl, hb9⟩
  have HB9 := Lib.hid (HB8.out.trans (hb9.mono HB8.out.size))
  clear hb9 k0 k1 p1 q1
  go_wp2
  go_ret
  exact ⟨rfl, HB9.out⟩

end Go.Proofs.Ytohnfjneghbceaa
