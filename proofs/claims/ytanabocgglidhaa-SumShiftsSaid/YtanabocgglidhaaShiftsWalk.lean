/-
  SumShifts: the walk: the sum of three lots, byte by byte by exclusive or, is that of their sums.
-/
import Derived.Test.YtanabocgglidhaaLies
import Derived.RegionTactic
import Derived.Deep.CutRange
namespace Go.Proofs.Ytanabocgglidhaa
open Go.RowKit Crc Wm

/-- the bytes by exclusive or, the first j of them -/
def xorN (a b : List UInt8) (n j : Nat) : List UInt8 := (List.range n).map fun i => if i < j then a[i]?.getD 0 ^^^ b[i]?.getD 0 else 0
theorem length_xorN (a b : List UInt8) (n j : Nat) : (xorN a b n j).length = n := by simp [xorN]
theorem xorN_zero (a b : List UInt8) (n : Nat) : xorN a b n 0 = List.replicate n 0 := by
  unfold xorN
  rw [List.eq_replicate_iff]
  refine ⟨by simp, fun x hx => ?_⟩
  obtain ⟨i, _, rfl⟩ := List.mem_map.1 hx
  simp
theorem xorN_succ (a b : List UInt8) (n j : Nat) (x y : UInt8) (hx : a[j]? = some x) (hy : b[j]? = some y) : (xorN a b n j).set j (x ^^^ y) = xorN a b n (j + 1) := by
  apply List.ext_getElem?
  intro i
  unfold xorN
  rw [List.getElem?_set, List.getElem?_map, List.getElem?_map, List.length_map, List.length_range]
  by_cases hij : j = i
  · subst hij
    rw [if_pos rfl]
    by_cases hn : j < n
    · rw [if_pos hn, List.getElem?_range hn]
      simp [hx, hy]
    · rw [if_neg hn, List.getElem?_eq_none (by simp; omega)]
      rfl
  · rw [if_neg hij]
    by_cases hn : i < n
    · rw [List.getElem?_range hn]
      simp only [Option.map_some]
      congr 1
      by_cases h1 : i < j
      · rw [if_pos h1, if_pos (by omega)]
      · rw [if_neg h1, if_neg (by omega)]
    · rw [List.getElem?_eq_none (by simp; omega)]
      rfl
theorem xorN_end (a b : List UInt8) (n : Nat) (ha : n ≤ a.length) (hb : n ≤ b.length) : xorN a b n n = List.zipWith (· ^^^ ·) (a.take n) (b.take n) := by
  unfold xorN
  apply List.ext_getElem
  · rw [List.length_map, List.length_range, List.length_zipWith, List.length_take, List.length_take]; omega
  · intro i h1 h2
    have h3 : i < n := by simpa using h1
    rw [List.getElem_map, List.getElem_range, if_pos h3, List.getElem_zipWith, List.getElem_take, List.getElem_take, List.getElem?_eq_getElem (by omega), List.getElem?_eq_getElem (by omega)]
    rfl

set_option maxHeartbeats 4000000 in
theorem shifts_walk (A1 : Option Addr) (c1 L1 : Nat) (l1 : List UInt8) (HL1 : Hid (l1.length = L1)) (A2 : Option Addr) (c2 L2 : Nat) (l2 : List UInt8) (HL2 : Hid (l2.length = L2)) (w : World) (hr1 : Rd w w.heap.size A1 l1) (hl1 : L1 ≤ c1) (hr2 : Rd w w.heap.size A2 l2) (hl2 : L2 ≤ c2) (hm1 : L1 ≤ 1152921504606846976) (hm2 : L2 ≤ 1152921504606846976) :
    Calls Try.prog 5 #[.slice A1 L1 c1, .slice A2 L2 c2] w fun e w' => e = .returned (.bool true) ∧ Below w.heap.size w w' := by
  obtain ⟨n, hn1, hn2, hn3, HN⟩ : ∃ n : Nat, n ≤ L1 ∧ n ≤ L2 ∧ n ≤ 500 ∧ Hid (n = min (min L1 L2) 500) := ⟨min (min L1 L2) 500, by omega, by omega, by omega, Lib.hid rfl⟩
  go_enter Try.func5, Try.ntmps5
  go_wp2_with fail
  refine (awake_any w).mono ?_
  rintro e w0 ⟨rfl, hb0⟩
  have HB0 := Lib.hid hb0
  clear hb0
  go_upto_region 2 with fail
  go_cut [6] from 10 to 15 (fun m wc => m = .int .i64 (n : Int) ∧ wc = w0)
  case first =>
    go_wp2_with fail
    all_goals
      go_meet
      case rel => exact ⟨by rw [HN.out]; go_num, rfl⟩
  case rest =>
    obtain ⟨rfl, hw⟩ := hcut
    replace hw := hw.symm
    subst hw
    have hB0 := HB0.out.size
    obtain ⟨i0, hi, hz0, hz1, hz2⟩ := info_parts byte_facts
    go_wp2_with (first
      | (refine wpList_make_full w0 rfl _ _ _ rfl w.heap.size 5 i0 _ 1 Try.underlying22 hi hz0 hz1 _ _ _ _ n rfl rfl rfl rfl (by rw [hz2]; omega) (by unfold maxLen; omega) hB0 ?_; intro w1 hown1 hg1)
      | (refine wpList_make_full w1 rfl _ _ _ rfl w.heap.size 5 i0 _ 1 Try.underlying22 hi hz0 hz1 _ _ _ _ n rfl rfl rfl rfl (by rw [hz2]; omega) (by unfold maxLen; omega) (Nat.le_trans hB0 hg1.size) ?_; intro w2 hown2 hg2))
    have HO1 := Lib.hid (made_zeros hown1)
    have HB1 := Lib.hid (HB0.out.grown hg1 hB0 (by simp))
    have hB1 := HB1.out.size
    clear hown1 hg1 hB0
    have HO2 := Lib.hid (made_zeros hown2)
    have HB2 := Lib.hid (HB1.out.grown hg2 hB1 (by simp))
    have HO1' := Lib.hid (HO1.out.below ((Below.refl w1.heap.size w1).grown hg2 (Nat.le_refl _) (by simp)))
    have hlt1 : w0.heap.size < w1.heap.size := (HO1.out.block _ rfl).2
    clear hown2 hg2 hB1 HO1 hi hz0 hz1 hz2 HB1 HB0
    generalize w0.heap.size = g1 at HO1' hlt1
    generalize w1.heap.size = g2 at HO2 hlt1
    have HNE : Hid (g2 ≠ g1) := Lib.hid (by omega)
    clear hlt1
    go_loopw [9] (fun i wr => ∃ j : Nat, i = .int .i64 (j : Int) ∧ j ≤ n ∧ Hid (Owns wr w.heap.size (some ⟨g1, 0, none⟩) n n (xorN l1 l2 n j)) ∧ Hid (Owns wr w.heap.size (some ⟨g2, 0, none⟩) n n (List.replicate n 0)) ∧ Hid (Below w.heap.size w wr)) (fun i _ => n - (intOf i).toNat)
    case atStart => exact ⟨0, rfl, by omega, by show Owns _ _ _ _ _ _; rw [xorN_zero]; exact HO1'.out, HO2, HB2⟩
    case round =>
      clear HO1' HO2 HB2
      obtain ⟨j, rfl, hj, HX, HZ, HB⟩ := hrel
      rcases Nat.lt_or_ge j n with hlt | hge
      · have hj1 : j < l1.length := by rw [HL1.out]; omega
        have hj2 : j < l2.length := by rw [HL2.out]; omega
        obtain ⟨b1, o1, rfl, hb1, hc1⟩ := (hr1.up HB.out).cell hj1
        obtain ⟨b2, o2, rfl, hb2, hc2⟩ := (hr2.up HB.out).cell hj2
        obtain ⟨g, hg, hg1, hg2, hgc, hgf⟩ := HX.out.at_ (by omega)
        injection hg with hg
        injection hg with hg _ _
        subst hg
        obtain ⟨x, hx⟩ : ∃ x, Hid (l1[j]? = some x) := ⟨l1[j], Lib.hid (List.getElem?_eq_getElem hj1)⟩
        obtain ⟨y, hy⟩ : ∃ y, Hid (l2[j]? = some y) := ⟨l2[j], Lib.hid (List.getElem?_eq_getElem hj2)⟩
        have ex : l1[j] = x := Option.some.inj ((List.getElem?_eq_getElem hj1).symm.trans hx.out)
        have ey : l2[j] = y := Option.some.inj ((List.getElem?_eq_getElem hj2).symm.trans hy.out)
        rw [ex] at hc1
        rw [ey] at hc2
        replace hc1 : wr.cell? ⟨b1, o1 + j, none⟩ = some (.int .u8 (x.toNat : Int)) := hc1
        replace hc2 : wr.cell? ⟨b2, o2 + j, none⟩ = some (.int .u8 (y.toNat : Int)) := hc2
        have hjx : j < (xorN l1 l2 n j).length := by rw [length_xorN]; exact hlt
        have hc3 := hgc j _ (List.getElem?_eq_getElem hjx)
        generalize (xorN l1 l2 n j)[j] = v0 at hc3
        replace hc3 : wr.cell? ⟨g1, j, none⟩ = some (.int .u8 (v0.toNat : Int)) := hc3
        have hf3 := hgf j
        have hxy : bits .xor .u8 (x.toNat : Int) (y.toNat : Int) = ((x ^^^ y).toNat : Int) := by
          have h1 : x.toNat < 256 := x.toNat_lt
          have h2 : y.toNat < 256 := y.toNat_lt
          rw [u8_xor_nat _ _ h1 h2, UInt8.toNat_xor]
        have HO3 : Hid (Owns (wr.setCell ⟨g1, j, none⟩ (.int .u8 ((x ^^^ y).toNat : Int))) w.heap.size (some ⟨g1, 0, none⟩) n n (xorN l1 l2 n (j + 1))) := by
          show Owns _ _ _ _ _ _
          rw [← xorN_succ l1 l2 n j x y hx.out hy.out]
          exact HX.out.set_ j (x ^^^ y) hlt
        clear ex ey hgc hgf hjx hx hy
        generalize hq : x ^^^ y = q at hxy HO3
        clear hq
        have hz1 : j < L1 := by omega
        have hz2 : j < L2 := by omega
        go_wp2_with fail
        go_region
        all_goals go_wp2_with fail
        all_goals exact ⟨⟨j + 1, by go_num, by omega, HO3.out, HZ.out.set_other _ _ HNE.out, (HB.out.setCell hg2 _).drew⟩, by simp [intOf]; omega⟩
      · obtain rfl : j = n := by omega
        have HLX := Lib.hid HX.out.lies
        have HLZ := Lib.hid HZ.out.lies
        have HLA : Hid (Lies wr A1 c1 j (l1.take j)) := by
          refine ⟨?_, by rw [List.length_take, HL1.out]; omega, by omega⟩
          have := (hr1.up HB.out).cut 0 j A1 (fun b o e _ => e)
          simpa using this
        have HLB : Hid (Lies wr A2 c2 j (l2.take j)) := by
          refine ⟨?_, by rw [List.length_take, HL2.out]; omega, by omega⟩
          have := (hr2.up HB.out).cut 0 j A2 (fun b o e _ => e)
          simpa using this
        have HQ : Hid (ofB (xorN l1 l2 j j) = (ofB (l1.take j) ^^^ ofB (l2.take j)) ^^^ ofB (List.replicate j 0)) := by
          show _ = _
          rw [xorN_end l1 l2 j (by rw [HL1.out]; exact hn1) (by rw [HL2.out]; exact hn2)]
          exact ofB_three _ _ j HLA.out.len HLB.out.len
        have hx1 := word_xor (ofB (l1.take j)) (ofB (l2.take j))
        have hx2 := word_xor (ofB (l1.take j) ^^^ ofB (l2.take j)) (ofB (List.replicate j 0))
        have hx3 := word_beq (ofB (xorN l1 l2 j j)) ((ofB (l1.take j) ^^^ ofB (l2.take j)) ^^^ ofB (List.replicate j 0))
        rw [decide_eq_true HQ.out] at hx3
        have hc1 : j ≤ c1 := by omega
        have hc2 : j ≤ c2 := by omega
        clear HX HZ
        generalize xorN l1 l2 j j = X at HLX HQ hx3
        generalize l1.take j = X1 at HLA HQ hx1 hx2 hx3
        generalize l2.take j = X2 at HLB HQ hx1 hx2 hx3
        generalize List.replicate j (0 : UInt8) = X3 at HLZ HQ hx2 hx3
        have HS0 : Hid (Since wr wr.drew) := Lib.hid ((Below.refl _ _).drew)
        clear hge
        go_wp2_with fail
        refine wp_region_since (by kernel_rfl) ?_
        have hS : Since wr (World.drew wr) := (Below.refl _ _).drew
        refine wpAnyH_take (i := 0) (oi := ⟨some 37, _, _, _, _, _⟩) (v := ?_) rfl (by kernel_rfl) (by kernel_rfl) (by kernel_rfl) (fun _ _ _ h => h) (Or.inl ⟨by rfl, ?_⟩) hS ?_
        rotate_left
        · intro W hW; go_simp; with_reducible rfl
        try simp only [Act.put, List.setIfInBounds_toArray, List.set_cons_zero, List.set_cons_succ]
        refine wpAnyH_take (i := 1) (oi := ⟨some 38, _, _, _, _, _⟩) (v := ?_) rfl (by kernel_rfl) (by kernel_rfl) (by kernel_rfl) (fun _ _ _ h => h) (Or.inl ⟨by rfl, ?_⟩) hS ?_
        rotate_left
        · intro W hW; go_simp; with_reducible rfl
        try simp only [Act.put, List.setIfInBounds_toArray, List.set_cons_zero, List.set_cons_succ]
        refine wpAnyH_take (i := 2) (oi := ⟨some 39, _, _, _, _, _⟩) (v := ?_) rfl (by kernel_rfl) (by kernel_rfl) (by kernel_rfl) (fun _ _ _ h => h) (Or.inl ⟨by rfl, ?_⟩) hS ?_
        rotate_left
        · intro W hW; go_simp; with_reducible rfl
        try simp only [Act.put, List.setIfInBounds_toArray, List.set_cons_zero, List.set_cons_succ]
        refine wpAnyH_take (i := 4) (oi := ⟨some 41, _, _, _, _, _⟩) (v := ?_) rfl (by kernel_rfl) (by kernel_rfl) (by kernel_rfl) (fun _ _ _ h => h) (Or.inl ⟨by rfl, ?_⟩) hS ?_
        rotate_left
        · intro W hW; go_simp; with_reducible rfl
        try simp only [Act.put, List.setIfInBounds_toArray, List.set_cons_zero, List.set_cons_succ]
        refine wpAnyH_take (i := 5) (oi := ⟨some 42, _, _, _, _, _⟩) (v := ?_) rfl (by kernel_rfl) (by kernel_rfl) (by kernel_rfl) (fun _ _ _ h => h) (Or.inl ⟨by rfl, ?_⟩) hS ?_
        rotate_left
        · intro W hW; go_simp; with_reducible rfl
        try simp only [Act.put, List.setIfInBounds_toArray, List.set_cons_zero, List.set_cons_succ]
        refine wpAnyH_take (i := 6) (oi := ⟨some 43, _, _, _, _, _⟩) (v := ?_) rfl (by kernel_rfl) (by kernel_rfl) (by kernel_rfl) (fun _ _ _ h => h) (Or.inl ⟨by rfl, ?_⟩) hS ?_
        rotate_left
        · intro W hW; go_simp; with_reducible rfl
        try simp only [Act.put, List.setIfInBounds_toArray, List.set_cons_zero, List.set_cons_succ]
        refine wpAnyH_take (i := 8) (oi := ⟨some 45, _, _, _, _, _⟩) (v := ?_) rfl (by kernel_rfl) (by kernel_rfl) (by kernel_rfl) (fun _ _ _ h => h) (Or.inl ⟨by rfl, ?_⟩) hS ?_
        rotate_left
        · intro W hW; go_simp; with_reducible rfl
        try simp only [Act.put, List.setIfInBounds_toArray, List.set_cons_zero, List.set_cons_succ]
        refine wpAnyH_take (i := 9) (oi := ⟨some 46, _, _, _, _, _⟩) (v := ?_) rfl (by kernel_rfl) (by kernel_rfl) (by kernel_rfl) (fun _ _ _ h => h) (Or.inl ⟨by rfl, ?_⟩) hS ?_
        rotate_left
        · intro W hW; go_simp; with_reducible rfl
        try simp only [Act.put, List.setIfInBounds_toArray, List.set_cons_zero, List.set_cons_succ]
        refine wpAnyH_take (i := 10) (oi := ⟨some 47, _, _, _, _, _⟩) (v := ?_) rfl (by kernel_rfl) (by kernel_rfl) (by kernel_rfl) (fun _ _ _ h => h) (Or.inl ⟨by rfl, ?_⟩) hS ?_
        rotate_left
        · intro W hW; go_simp; with_reducible rfl
        try simp only [Act.put, List.setIfInBounds_toArray, List.set_cons_zero, List.set_cons_succ]
        refine wpAnyH_take (i := 13) (oi := ⟨some 50, _, _, _, _, _⟩) (v := ?_) rfl (by kernel_rfl) (by kernel_rfl) (by kernel_rfl) (fun _ _ _ h => h) (Or.inl ⟨by rfl, ?_⟩) hS ?_
        rotate_left
        · intro W hW; go_simp; with_reducible rfl
        try simp only [Act.put, List.setIfInBounds_toArray, List.set_cons_zero, List.set_cons_succ]
        -- operation 3: a call
        refine wpAnyH_ready (rs := [3]) (by kernel_rfl) (by simp) ?_
        refine AllReadyH.cons (o := ⟨some 40, _, _, _, _, _⟩) rfl (fun Kr hKr => ?_) AllReadyH.nil
        go_simp
        refine (of_since HLX.out (by omega) HS0.out).mono ?_
        rintro e V1 ⟨rfl, hs1, hx1⟩
        have HS1 := Lib.hid hs1
        clear hs1
        show Kr _ _
        refine hKr.out _ _ ?_ (fun _ => ?_)
        · exact since_trans hS hx1
        clear hKr Kr
        refine wpAnyH_since (since_trans hS hx1) ?_
        clear hS
        have hS : Since V1 V1 := Below.refl _ _
        try simp only [Act.put, List.setIfInBounds_toArray, List.set_cons_zero, List.set_cons_succ]
        -- operation 7: a call
        refine wpAnyH_ready (rs := [7]) (by kernel_rfl) (by simp) ?_
        refine AllReadyH.cons (o := ⟨some 44, _, _, _, _, _⟩) rfl (fun Kr hKr => ?_) AllReadyH.nil
        go_simp
        refine (of_since HLA.out (by omega) HS1.out).mono ?_
        rintro e V2 ⟨rfl, hs2, hx2⟩
        have HS2 := Lib.hid hs2
        clear hs2
        show Kr _ _
        refine hKr.out _ _ ?_ (fun _ => ?_)
        · exact since_trans hS hx2
        clear hKr Kr
        refine wpAnyH_since (since_trans hS hx2) ?_
        clear hS
        have hS : Since V2 V2 := Below.refl _ _
        try simp only [Act.put, List.setIfInBounds_toArray, List.set_cons_zero, List.set_cons_succ]
        -- operation 11: a call
        refine wpAnyH_ready (rs := [11]) (by kernel_rfl) (by simp) ?_
        refine AllReadyH.cons (o := ⟨some 48, _, _, _, _, _⟩) rfl (fun Kr hKr => ?_) AllReadyH.nil
        go_simp
        refine (of_since HLB.out (by omega) HS2.out).mono ?_
        rintro e V3 ⟨rfl, hs3, hx3⟩
        have HS3 := Lib.hid hs3
        clear hs3
        show Kr _ _
        refine hKr.out _ _ ?_ (fun _ => ?_)
        · exact since_trans hS hx3
        clear hKr Kr
        refine wpAnyH_since (since_trans hS hx3) ?_
        clear hS
        have hS : Since V3 V3 := Below.refl _ _
        try simp only [Act.put, List.setIfInBounds_toArray, List.set_cons_zero, List.set_cons_succ]
        refine wpAnyH_take (i := 12) (oi := ⟨some 49, _, _, _, _, _⟩) (v := ?_) rfl (by kernel_rfl) (by kernel_rfl) (by kernel_rfl) (fun _ _ _ h => h) (Or.inl ⟨by rfl, ?_⟩) hS ?_
        rotate_left
        · intro W hW; go_simp; with_reducible rfl
        try simp only [Act.put, List.setIfInBounds_toArray, List.set_cons_zero, List.set_cons_succ]
        -- operation 14: a call
        refine wpAnyH_ready (rs := [14]) (by kernel_rfl) (by simp) ?_
        refine AllReadyH.cons (o := ⟨some 51, _, _, _, _, _⟩) rfl (fun Kr hKr => ?_) AllReadyH.nil
        go_simp
        refine (of_since HLZ.out (by omega) HS3.out).mono ?_
        rintro e V4 ⟨rfl, hs4, hx4⟩
        have HS4 := Lib.hid hs4
        clear hs4
        show Kr _ _
        refine hKr.out _ _ ?_ (fun _ => ?_)
        · exact since_trans hS hx4
        clear hKr Kr
        refine wpAnyH_since (since_trans hS hx4) ?_
        clear hS
        have hS : Since V4 V4 := Below.refl _ _
        try simp only [Act.put, List.setIfInBounds_toArray, List.set_cons_zero, List.set_cons_succ]
        refine wpAnyH_take (i := 15) (oi := ⟨some 52, _, _, _, _, _⟩) (v := ?_) rfl (by kernel_rfl) (by kernel_rfl) (by kernel_rfl) (fun _ _ _ h => h) (Or.inl ⟨by rfl, ?_⟩) hS ?_
        rotate_left
        · intro W hW; go_simp; with_reducible rfl
        try simp only [Act.put, List.setIfInBounds_toArray, List.set_cons_zero, List.set_cons_succ]
        refine wpAnyH_take (i := 16) (oi := ⟨some 53, _, _, _, _, _⟩) (v := ?_) rfl (by kernel_rfl) (by kernel_rfl) (by kernel_rfl) (fun _ _ _ h => h) (Or.inl ⟨by rfl, ?_⟩) hS ?_
        rotate_left
        · intro W hW; go_simp; with_reducible rfl
        try simp only [Act.put, List.setIfInBounds_toArray, List.set_cons_zero, List.set_cons_succ]
        refine wpAnyH_take (i := 17) (oi := ⟨some 54, _, _, _, _, _⟩) (v := ?_) rfl (by kernel_rfl) (by kernel_rfl) (by kernel_rfl) (fun _ _ _ h => h) (Or.inl ⟨by rfl, ?_⟩) hS ?_
        rotate_left
        · intro W hW; go_simp; with_reducible rfl
        try simp only [Act.put, List.setIfInBounds_toArray, List.set_cons_zero, List.set_cons_succ]
        refine wpAnyH_take (i := 18) (oi := ⟨some 4, _, _, _, _, _⟩) (v := ?_) rfl (by kernel_rfl) (by kernel_rfl) (by kernel_rfl) (fun _ _ _ h => h) (Or.inl ⟨by rfl, ?_⟩) hS ?_
        rotate_left
        · intro W hW; go_simp; with_reducible rfl
        try simp only [Act.put, List.setIfInBounds_toArray, List.set_cons_zero, List.set_cons_succ]
        refine wpAnyH_done (by kernel_rfl) ?_ _
        go_wp2_with fail
        go_ret
        exact ⟨rfl, HB.out.trans (Below.mono HS4.out HB.out.size)⟩
end Go.Proofs.Ytanabocgglidhaa
