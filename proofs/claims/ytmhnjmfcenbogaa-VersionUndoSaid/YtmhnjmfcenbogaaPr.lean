/-
  Versions of those in a list are taken away: the row goes through, what is kept moved up.
-/
import Derived.Test.YtmhnjmfcenbogaaPq
namespace Go.Proofs.Ytmhnjmfcenbogaa
set_option maxRecDepth 100000
set_option linter.unusedVariables false
set_option linter.unusedSimpArgs false
open Go.RowKit Go.Shelf

set_option maxHeartbeats 1000000 in
theorem indexV_any (g5 : Nat) (p : Vr → Bool) (A : Option Addr) (L : List (Vr)) (n k base : Nat) (hN : L.length = n) (hn : n ≤ 10000000) (W : World) (hL : RVo.At W A L) (hbase : base ≤ W.heap.size)
    (hp : ∀ V, Turn (fun q => base ≤ q) W V → ∀ y ∈ L, Calls Try.prog 35 #[veV y.b y.x y.s.A y.s.n y.s.c, .pointer (some ⟨g5, 0, none⟩)] V fun e w' => e = .returned (.bool (p y)) ∧ Below V.heap.size V w') :
    Calls Try.prog 45 #[.slice A n k, .func (.func 35) #[] #[.pointer (some ⟨g5, 0, none⟩)]] W fun e w' =>
      ((e = .returned (.int .i64 (-1)) ∧ ∀ y ∈ L, p y = false) ∨ ∃ (i : Nat) (y : Vr), e = .returned (.int .i64 (i : Int)) ∧ L[i]? = some y ∧ p y = true ∧ ∀ u ∈ L.take i, p u = false) ∧ Below W.heap.size W w' := by
  have HN := Lib.hid hN
  have HL := Lib.hid hL
  have HP := Lib.hid hp
  have HBA := Lib.hid hbase
  have eg : ∀ args w, (callFunc 35 args).run Try.prog w = .ok (.enter 35 args) w := enters_of Try.func35 (by kernel_rfl) rfl
  clear hN hL hp hbase
  go_enter Try.func45, Try.ntmps45
  go_wp2_with fail
  go_loopw [8] (fun iv wr => ∃ j : Nat, iv = .int .i64 (j : Int) ∧ j ≤ n ∧ Hid (∀ u ∈ L.take j, p u = false) ∧ Hid (Below W.heap.size W wr)) (fun iv _ => n - (intOf iv).toNat)
  case atStart => exact ⟨0, rfl, Nat.zero_le _, (fun u hu => by simp at hu), Below.refl _ _⟩
  case round =>
    obtain ⟨j, rfl, hj, HF, HB⟩ := hrel
    rcases Nat.lt_or_ge j n with hlt | hge
    · obtain ⟨y, hy⟩ : ∃ y, L[j]? = some y := ⟨L[j]'(by rw [HN.out]; exact hlt), List.getElem?_eq_getElem (by rw [HN.out]; exact hlt)⟩
      obtain ⟨b, o, rfl, hb, hc⟩ := (HL.out.below HB.out).get rv_oko hy
      have hc0 : wr.cell? ⟨b, o + j * 3, none⟩ = some (.int .i64 y.b) := by have := hc 0 _ rfl; rw [← Nat.add_assoc] at this; exact this
      have hc1 : wr.cell? ⟨b, o + j * 3 + 1, none⟩ = some (.int .i64 y.x) := by have := hc 1 _ rfl; rw [← Nat.add_assoc] at this; exact this
      have hc2 : wr.cell? ⟨b, o + j * 3 + 2, none⟩ = some (.slice y.s.A y.s.n y.s.c) := by have := hc 2 _ rfl; rw [← Nat.add_assoc] at this; exact this
      have HY := Lib.hid hy
      have hcall := HP.out wr (Turn.ofBelow HB.out) y (List.mem_of_getElem? hy)
      obtain ⟨q, hq⟩ : ∃ q, p y = q := ⟨_, rfl⟩
      rw [hq] at hcall
      have HC := Lib.hid hcall
      have HQ := Lib.hid hq
      clear hc hy hcall hq hb
      cases q
      · go_wp2_with (go_at_fn 35; refine HC.out.mono ?_; rintro e w2 ⟨rfl, hb2⟩; have HB2 := Lib.hid (HB.out.trans (hb2.mono HB.out.size)); clear hb2)
        go_roundw
        case rel => exact ⟨j + 1, by simp, by omega, (fun u hu => by
          rw [List.take_add_one, HY.out] at hu
          rcases List.mem_append.1 hu with h | h
          · exact HF.out u h
          · have : u = y := by simpa using h
            rw [this]; exact HQ.out), HB2.out⟩
        case measure => simp [intOf]; omega
      · go_wp2_with (go_at_fn 35; refine HC.out.mono ?_; rintro e w2 ⟨rfl, hb2⟩; have HB2 := Lib.hid (HB.out.trans (hb2.mono HB.out.size)); clear hb2)
        go_ret
        exact ⟨.inr ⟨j, y, rfl, HY.out, HQ.out, HF.out⟩, HB2.out⟩
    · obtain rfl : j = n := by omega
      go_wp2
      go_ret
      refine ⟨.inl ⟨rfl, fun u hu => HF.out u ?_⟩, HB.out⟩
      rw [List.take_of_length_le (by rw [HN.out]; omega)]; exact hu

set_option maxHeartbeats 2000000 in
theorem deleteV_any (g5 : Nat) (p : Vr → Bool) (L : List (Vr)) (A : Option Addr) (n k base : Nat) (hN : L.length = n) (hn : n ≤ 10000000) (W : World) (hO : RVo.Own W base (.slice A n k) L) (hbase : base ≤ W.heap.size)
    (hp : ∀ V, Turn (fun q => base ≤ q) W V → ∀ y ∈ L, Calls Try.prog 35 #[veV y.b y.x y.s.A y.s.n y.s.c, .pointer (some ⟨g5, 0, none⟩)] V fun e w' => e = .returned (.bool (p y)) ∧ Below V.heap.size V w') :
    Calls Try.prog 34 #[.slice A n k, .func (.func 35) #[] #[.pointer (some ⟨g5, 0, none⟩)]] W fun e w' =>
      ∃ n' k', e = .returned (.slice A n' k') ∧ RVo.Own w' base (.slice A n' k') (L.filter fun y => !p y) ∧ Turn (fun q => ∃ o, A = some ⟨q, o, none⟩) W w' := by
  obtain ⟨A0, c0, he, hnk, hL, hs⟩ := hO.form rv_oko
  injection he with e1 e2 e3
  subst e1
  subst e3
  have HN := Lib.hid hN
  have HO := Lib.hid hO
  have HP := Lib.hid hp
  have HL := Lib.hid hL
  have HIX := Lib.hid (indexV_any g5 p A L n k base hN (by omega) W hL hbase hp)
  have HBA := Lib.hid hbase
  have hnk : n ≤ k := by omega
  have eg : ∀ args w, (callFunc 35 args).run Try.prog w = .ok (.enter 35 args) w := enters_of Try.func35 (by kernel_rfl) rfl
  have HIX0 := HIX.out
  clear HIX hp
  by_cases hall : ∀ y ∈ L, p y = false
  · have HIX := Lib.hid (HIX0.mono (R' := fun e w' => e = .returned (.int .i64 (-1)) ∧ Below W.heap.size W w') (fun e w' h => by
      rcases h with ⟨⟨he, _⟩ | ⟨i, y, _, hy, hg, _⟩, hb⟩
      · exact ⟨he, hb⟩
      · rw [hall y (List.mem_of_getElem? hy)] at hg; cases hg))
    have HF := Lib.hid (show (L.filter fun y => !p y) = L by
      rw [List.filter_eq_self]
      intro y hy
      rw [hall y hy]; rfl)
    clear HIX0 hN hO hL hbase e2 hall hs
    go_enter Try.func34, Try.ntmps34
    go_wp2_with (go_at_call 45; refine HIX.out.mono ?_; rintro e w1 ⟨rfl, hb1⟩)
    go_ret
    have h0 := HO.out.below hb1
    rw [HF.out]
    exact ⟨n, k, rfl, h0, Turn.ofBelow hb1⟩
  · have HIX := Lib.hid (HIX0.mono (R' := fun e w' => (∃ (i : Nat) (y : Vr), e = .returned (.int .i64 (i : Int)) ∧ L[i]? = some y ∧ p y = true ∧ ∀ u ∈ L.take i, p u = false) ∧ Below W.heap.size W w') (fun e w' h => by
      rcases h with ⟨⟨_, h⟩ | h, hb⟩
      · exact absurd h hall
      · exact ⟨h, hb⟩))
    rcases hs with rfl | ⟨g, rfl, hbg, hgs⟩
    · exfalso
      refine hall fun y hy => ?_
      rcases hL with h | ⟨b, o, e, _⟩
      · rw [h] at hy; cases hy
      · cases e
    have HBG := Lib.hid hbg
    have HGS := Lib.hid hgs
    clear HIX0 hN hO hL hbase e2 hbg hgs hall
    go_enter Try.func34, Try.ntmps34
    go_upto_region 4 with (go_at_call 45; refine HIX.out.mono ?_; rintro e w1 ⟨⟨i0, y0, rfl, hy0, hg0, hf0⟩, hb1⟩; have hi0 : i0 < n := (by rw [← HN.out]; exact (List.getElem?_eq_some_iff.1 hy0).1); have hne : ((i0 : Int) == -1) = false := beq_eq_false_iff_ne.2 (by omega); have HY0 := Lib.hid hy0; have HG0 := Lib.hid hg0; have HF0 := Lib.hid hf0; have HB1 := Lib.hid hb1; clear hy0 hg0 hf0 hb1)
    go_wp2_with fail
    go_loopw [5, 6] (fun iv jv wr => ∃ (i j : Nat) (C : List (Vr)), iv = .int .i64 (i : Int) ∧ jv = .int .i64 (j : Int) ∧ i < j ∧ j ≤ n ∧ Hid (C.length = n) ∧ Hid (RVo.Own wr base (.slice (some ⟨g, 0, none⟩) n k) C) ∧ Hid (C.take i = (L.take j).filter fun y => !p y) ∧ Hid (C.drop j = L.drop j) ∧ Hid (Turn (fun q => q = g) W wr)) (fun _ jv _ => n - (intOf jv).toNat)
    case atStart =>
      refine ⟨i0, i0 + 1, L, rfl, by simp, by omega, by omega, HN.out, HO.out.below HB1.out, ?_, rfl, Turn.ofBelow HB1.out⟩
      show L.take i0 = (L.take (i0 + 1)).filter fun y => !p y
      rw [List.take_add_one, HY0.out, List.filter_append]
      have h1 : (L.take i0).filter (fun y => !p y) = L.take i0 := by
        rw [List.filter_eq_self]
        intro u hu
        rw [HF0.out u hu]; rfl
      rw [h1]
      simp [HG0.out]
    case round =>
      obtain ⟨i, j, C, rfl, rfl, hij, hj, HC, HOC, HTK, HDR, HT⟩ := hrel
      clear HB1 HY0 HG0 HF0 hne hi0
      rcases Nat.lt_or_ge j n with hlt | hge
      · obtain ⟨y, hy⟩ : ∃ y, L[j]? = some y := ⟨L[j]'(by rw [HN.out]; exact hlt), List.getElem?_eq_getElem (by rw [HN.out]; exact hlt)⟩
        have hyC : C[j]? = some y := by rw [drop_eq_get HDR.out]; exact hy
        have hc : ∀ q u, (RVo.enc y)[q]? = some u → wr.cell? ⟨g, j * 3 + q, none⟩ = some u := by
          obtain ⟨A1, c1, he1, _, hLC, _⟩ := HOC.out.form rv_oko
          injection he1 with he2 he3 he4
          subst he2
          obtain ⟨b, o, e, hb, hc⟩ := hLC.get rv_oko hyC
          have h0 := fun q u hq => (HOC.out.cell0 rv_oko hyC q u hq)
          exact h0
        have hc0 : wr.cell? ⟨g, j * 3, none⟩ = some (.int .i64 y.b) := by have := hc 0 _ rfl; skip; exact this
        have hc1 : wr.cell? ⟨g, j * 3 + 1, none⟩ = some (.int .i64 y.x) := by have := hc 1 _ rfl; skip; exact this
        have hc2 : wr.cell? ⟨g, j * 3 + 2, none⟩ = some (.slice y.s.A y.s.n y.s.c) := by have := hc 2 _ rfl; skip; exact this
        have HDRS := Lib.hid (show C.drop (j + 1) = L.drop (j + 1) by
          have h1 := congrArg (List.drop 1) HDR.out
          rwa [List.drop_drop, List.drop_drop] at h1)
        have HTKS := Lib.hid (show ((L.take (j + 1)).filter fun y => !p y) = C.take i ++ (if p y then [] else [y]) by
          rw [HTK.out, List.take_add_one, hy, List.filter_append]
          congr 1
          cases hh : p y <;> simp [hh])
        obtain ⟨wz, hwz⟩ : ∃ wz, wz = wr.alloc (.cells (veC y.b y.x y.s.A y.s.n y.s.c) 74) := ⟨_, rfl⟩
        have hbz : Below wr.heap.size wr wz := by rw [hwz]; exact below_new _ _
        obtain ⟨gy, hgy⟩ : ∃ gy, gy = wr.heap.size := ⟨_, rfl⟩
        have hy4 : Bk wz gy (veC y.b y.x y.s.A y.s.n y.s.c) 74 := by rw [hwz, hgy]; exact Bk.new wr _ _
        have HYZ := Lib.hid hy4
        have HOZ := Lib.hid (HOC.out.below hbz)
        have HTZ := Lib.hid (HT.out.trans (Turn.ofBelow hbz))
        have hcall := HP.out wz (HTZ.out.mono (fun q e => by have := HBG.out; omega)) y (List.mem_of_getElem? hy)
        obtain ⟨q, hq⟩ : ∃ q, p y = q := ⟨_, rfl⟩
        rw [hq] at hcall HTKS
        have HCC := Lib.hid hcall
        have cz0 := hy4.c 0 _ rfl
        have cz1 := hy4.c 1 _ rfl
        have cz2 := hy4.c 2 _ rfl
        skip
        clear hc hy hyC hcall hq hbz hy4
        go_upto_region 8 with fail
        rw [← hgy, ← hwz]
        clear hwz hgy hc0 hc1 hc2
        cases q
        · go_wp2_with (first
            | (go_at_fn 35; refine HCC.out.mono ?_; rintro e w2 ⟨rfl, hb2⟩; have HB2 := Lib.hid hb2; have HO2 := Lib.hid (HOZ.out.below hb2); have HY2 := HYZ.out.below hb2; have HT2 := Lib.hid (HTZ.out.trans (Turn.ofBelow hb2)); have d0 := HY2.c 0 _ rfl; have d1 := HY2.c 1 _ rfl; have d2 := HY2.c 2 _ rfl; clear hb2 HY2)
            | (refine Rk.wpList_store_elem rv_oko rfl _ _ rfl (i := i) y _ rfl rfl rfl HO2.out HC.out (by omega) ?_; intro w3 hown3 hg3; have HO3 := Lib.hid hown3; have HG3 := Lib.hid hg3; clear hown3 hg3)
            | fail)
          go_roundw
          case rel => exact ⟨i + 1, j + 1, C.set i y, by simp, by simp, by omega, by omega, (show (C.set i y).length = n by rw [List.length_set]; exact HC.out), HO3.out, (show (C.set i y).take (i + 1) = (L.take (j + 1)).filter fun y => !p y by
              rw [HTKS.out, List.take_add_one, List.getElem?_set_self (by rw [HC.out]; omega), List.take_set_of_le (Nat.le_refl i)]; rfl), (show (C.set i y).drop (j + 1) = L.drop (j + 1) by rw [List.drop_set_of_lt (by omega)]; exact HDRS.out), HT2.out.grown HG3.out (fun q e => by injection e with e; exact .inl e.symm)⟩
          case measure => simp [intOf]; omega
        · go_wp2_with (first
            | (go_at_fn 35; refine HCC.out.mono ?_; rintro e w2 ⟨rfl, hb2⟩; have HB2 := Lib.hid hb2; have HO2 := Lib.hid (HOZ.out.below hb2); have HT2 := Lib.hid (HTZ.out.trans (Turn.ofBelow hb2)); clear hb2)
            | fail)
          go_roundw
          case rel => exact ⟨i, j + 1, C, by simp, by simp, by omega, by omega, HC.out, HO2.out, (show C.take i = (L.take (j + 1)).filter fun y => !p y by rw [HTKS.out]; simp), HDRS.out, HT2.out⟩
          case measure => simp [intOf]; omega
      · obtain rfl : j = n := by omega
        have hik : ¬ k = i := by omega
        obtain ⟨w3, hcl, hown3, hg3⟩ := Rk.own_clear rv_oko (by intro v hv; simp [RVe, Value.cells] at hv; rcases hv with rfl | rfl <;> rfl) HOC.out HC.out hij (k - i)
        have hcl : ∀ ty, (Builtin.clear_ #[28] ty #[.slice (some ⟨g, i * 3, none⟩) (j - i) (k - i)]).run Try.prog wr = .ok (.tuple #[]) w3 := hcl
        have HO3 := Lib.hid hown3
        have HG3 := Lib.hid hg3
        have hik2 : i ≤ k := by omega
        clear hown3 hg3
        go_wp2
        go_ret
        refine ⟨i, k, rfl, ?_, ?_⟩
        · have h := HO3.out
          rw [HTK.out, List.take_of_length_le (by rw [HN.out]; omega)] at h
          exact h
        · exact (HT.out.grown HG3.out (fun q e => by injection e with e; exact .inl e.symm)).mono (fun q e => ⟨0, by rw [e]⟩)

end Go.Proofs.Ytmhnjmfcenbogaa
