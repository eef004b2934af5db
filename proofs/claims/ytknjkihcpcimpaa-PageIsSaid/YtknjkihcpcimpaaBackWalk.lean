/-
  PageBack: the walk, over the words.
-/
import Derived.Test.YtknjkihcpcimpaaZeroWalk
import Derived.Laws.ShiftsVarLaws
namespace Go.Proofs.Ytknjkihcpcimpaa
set_option maxRecDepth 100000
set_option linter.unusedVariables false
set_option linter.unusedSimpArgs false
open Go.RowKit Crc Wm Pg

/-- a byte with one bit turned -/
def bitX (x : UInt8) (J : Nat) : UInt8 := x ^^^ UInt8.ofNat (2 ^ J)
theorem bitX_val (x : UInt8) (J : Nat) : bits .xor .u8 (x.toNat : Int) ((2 : Int) ^ J % 256) = ((bitX x J).toNat : Int) := by
  have hx : x.toNat < 256 := x.toNat_lt
  have h2 : (2 : Int) ^ J % 256 = ((2 ^ J % 256 : Nat) : Int) := by
    rw [Int.natCast_emod, Int.natCast_pow]
    rfl
  rw [h2, u8_xor_nat _ _ hx (Nat.mod_lt _ (by omega))]
  unfold bitX
  rw [UInt8.toNat_xor, UInt8.toNat_ofNat']
theorem bitX_ne (x : UInt8) (J : Nat) (hJ : J < 8) : bitX x J ≠ x := by
  intro h
  unfold bitX at h
  have h2 : UInt8.ofNat (2 ^ J) = 0 := by
    have := congrArg (x ^^^ ·) h
    simpa [← UInt8.xor_assoc] using this
  have h3 := congrArg UInt8.toNat h2
  rw [UInt8.toNat_ofNat'] at h3
  have h4 : 2 ^ J % 256 = 0 := h3
  rcases J with _ | _ | _ | _ | _ | _ | _ | _ | J
  all_goals first | (exfalso; omega) | cases h4

theorem ofblock_back (P : PageOk) {A : Option Addr} {c : Nat} {n : Int} {d : List UInt8} {w : World} (hn : Lsn n) (hd : d.length = 32) (hl : Lies w A c 64 (sect (blkH n d))) : Calls Try.prog 14 #[.slice A 64 c] w fun e w' =>
    ∃ A' c', e = .returned (.tuple #[.int .i64 n, .slice A' 32 c', .int .i64 0]) ∧ Lies w' A' c' 32 d ∧ Below w.heap.size w w' := by
  refine (P.ofblock A c 64 _ w hl (by omega)).mono ?_
  rintro e w' ⟨A1, n1, c1, rfl, hn1, ho1, hb1⟩
  obtain ⟨h1, h2, h3, _⟩ := blk_back n d hn hd
  rw [h1, h2]
  rw [h3] at hn1 ho1
  rw [hd] at hn1
  subst hn1
  exact ⟨A1, c1, rfl, ho1.lies, hb1⟩
theorem blk_turned {n : Int} {d : List UInt8} (hd : d.length = 32) {I : Nat} {y : UInt8} (hI : I < (sect (blkH n d)).length) (hy : y ≠ (sect (blkH n d))[I]) : obE ((sect (blkH n d)).set I y) = 4 := by
  have h := turned (blkH n d) 66 _ rfl (.inl rfl) (by rw [length_blkH n d hd]; omega) I y hI hy
  rw [obE_why (by rw [h]; decide), h]
theorem cel_turned {x : C3} {I : Nat} {y : UInt8} (hI : I < (sect (celTo x 3)).length) (hy : y ≠ (sect (celTo x 3))[I]) : ocE ((sect (celTo x 3)).set I y) = 4 ∧ oc3 ((sect (celTo x 3)).set I y) = .zero := by
  obtain ⟨t, ht⟩ := celTo_cons x 3
  have h := turned (celTo x 3) 67 t ht (.inr rfl) (by rw [length_celTo]; omega) I y hI hy
  have h4 : ocE ((sect (celTo x 3)).set I y) = 4 := by rw [ocE_why (by rw [h]; decide), h]
  exact ⟨h4, oc3_not (by rw [h4]; decide)⟩

set_option maxHeartbeats 8000000 in
theorem back_walk (P : PageOk) (n : Int) (A : Option Addr) (N c : Nat) (d : List UInt8) (x : C3) (z : Int) (hn : okI n) (hx : x.Wf) (w : World) (hd : Lies w A c N d) :
    Calls Try.prog 4 #[.int .i64 n, .slice A N c, c3V x, .int .i64 z] w fun e w' => e = .returned (.bool true) ∧ Below w.heap.size w w' := by
  have HP := Lib.hid P
  have HD := Lib.hid hd
  have HWF := Lib.hid hx
  have HN := Lib.hid hn
  clear P hd hx hn
  obtain ⟨C, hC⟩ : ∃ C, C = c3C x := ⟨_, rfl⟩
  have hs0 : C3At (w.alloc (.cells C 25)) w.heap.size 25 x := by rw [hC]; exact heap_alloc_new w _
  have hb0 := below_new w (.cells C 25)
  have HS0 := Lib.hid hs0
  have HB0 := Lib.hid hb0
  unfold c3V
  rw [← hC]
  clear hs0 hb0 hC
  obtain ⟨I, J, hI, hJ, hz⟩ : ∃ I J : Nat, I < 64 ∧ J < 8 ∧ bits .and .i64 z 511 = 8 * (I : Int) + (J : Int) := by
    obtain ⟨k, hk, hkz⟩ := low z 511 9 (by decide) (by omega)
    exact ⟨k / 8, k % 8, by omega, by omega, by rw [hkz]; omega⟩
  have hd8 : (8 * (I : Int) + (J : Int)) / 8 = (I : Int) := by omega
  have hm8 : (8 * (I : Int) + (J : Int)) % 8 = (J : Int) := by omega
  go_enter Try.func4, Try.ntmps4
  go_upto_region 1 with fail
  generalize w.alloc (.cells C 25) = w0 at *
  go_wp2_with fail
  refine (awake_any HP.out w0).mono ?_
  rintro e w1 ⟨rfl, hb1⟩
  have HB1 := Lib.hid (HB0.out.trans (hb1.mono HB0.out.size))
  have HX1 := Lib.hid (HS0.out.below hb1)
  clear hb1 HB0 HS0
  rcases Nat.lt_or_ge 100 N with hbig | hsm
  · have hdd : decide ((100 : Int) < (N : Int)) = true := decide_eq_true (by omega)
    go_wp2_with fail
    go_ret
    exact ⟨rfl, HB1.out⟩
  have hdd : decide ((100 : Int) < (N : Int)) = false := decide_eq_false (by omega)
  go_wp2_with fail
  refine (HP.out.block n A N c d w1 HN.out (HD.out.up HB1.out) (by omega)).mono ?_
  rintro e w2 ⟨A2, n2, c2, rfl, hn2, ho2, hb2⟩
  have HB2 := Lib.hid (HB1.out.trans (hb2.mono HB1.out.size))
  have HX2 := Lib.hid (HX1.out.below hb2)
  by_cases hp : Lsn n ∧ d.length = 32
  focus
    obtain ⟨e1, e2⟩ := blk_ok hp.1 hp.2
    obtain rfl : N = 32 := by rw [← HD.out.len]; exact hp.2
    rw [e2] at hn2 ho2
    rw [e1]
    rw [length_blk n d hp.2] at hn2
    subst hn2
    have HQ : Hid (w.heap.size < w1.heap.size) := Lib.hid (lt_of_block HX1.out)
    have HO2 : Hid (Owns w2 w1.heap.size A2 c2 64 (sect (blkH n d))) := Lib.hid ho2
    have HPP := Lib.hid hp
    obtain ⟨_, _, _, b4⟩ := blk_back n d hp.1 hp.2
    have HC3 := Lib.hid b4
    clear ho2 hb2 hp e1 e2 b4 HB1 HX1
    go_wp2_with fail
    refine (ofblock_back HP.out HPP.out.1 HPP.out.2 HO2.out.lies).mono ?_
    rintro e w3 ⟨A3, c3, rfl, hl3, hb3⟩
    have HL3 := Lib.hid hl3
    have HB3 := Lib.hid (HB2.out.trans (hb3.mono HB2.out.size))
    have HX3 := Lib.hid (HX2.out.below hb3)
    have HO3 := Lib.hid (HO2.out.below hb3)
    clear hl3 hb3 HO2 HX2 HB2
    go_wp2_with fail
    refine (ofcells_is HP.out HO3.out.lies (by omega) HC3.out (oc3_not (by rw [HC3.out]; decide))).mono ?_
    rintro e w4 ⟨rfl, hb4⟩
    have HL4 := Lib.hid (HL3.out.up hb4)
    have HB4 := Lib.hid (HB3.out.trans (hb4.mono HB3.out.size))
    have HX4 := Lib.hid (HX3.out.below hb4)
    have HO4 := Lib.hid (HO3.out.below hb4)
    clear hb4 HL3 HB3 HX3 HO3 HC3
    have HBX := Lib.hid (below_new w4 (.cells #[.int .i64 0, .int .i64 0, .int .i64 0, .int .i64 0, .int .i64 0, .int .i64 0] 32))
    go_upto_region 9 with (refine wpList_store_c3 tyP (zero_c3 w4 _) rfl (.tmp 16) (.tmp 53) rfl rfl C3.zero rfl ?_; intro w5 hs5 hg5)
    have hb5 := HBX.out.grown hg5 HBX.out.size (fun j hj => by injection hj with hj; omega)
    have HL5 := Lib.hid (HL4.out.up hb5)
    have HB5 := Lib.hid (HB4.out.trans (hb5.mono HB4.out.size))
    have HX5 := Lib.hid (HX4.out.below hb5)
    have HO5 := Lib.hid (HO4.out.below hb5)
    generalize w4.heap.size = g16 at *
    clear hs5 hg5 hb5 HL4 HB4 HX4 HO4 HBX
    have kc1 := HL5.out.conv
    have kc2 := (HD.out.up HB5.out).conv
    have hq : (d == d) = true := beq_self_eq_true d
    obtain ⟨g, rfl, hg1, hg2, hgc, hgf⟩ := HO5.out.at_ (by omega)
    have hIl : I < (sect (blkH n d)).length := by rw [length_blk n d HPP.out.2]; exact hI
    obtain ⟨y, hy⟩ : ∃ y, Hid ((sect (blkH n d))[I] = y) := ⟨_, Lib.hid rfl⟩
    have hc1 : w5.cell? ⟨g, I, none⟩ = some (.int .u8 (y.toNat : Int)) := hgc I y (by rw [List.getElem?_eq_getElem hIl, hy.out])
    have hf1 := hgf I
    have hy255 : y.toNat < 256 := y.toNat_lt
    clear hgc hgf HL5
    go_wp2_with fail
    have htv := bitX_val y J
    have HO7 : Hid (Owns (w5.setCell ⟨g, I, none⟩ (.int .u8 (bits .xor .u8 (y.toNat : Int) ((2 : Int) ^ J % 256)))) w1.heap.size (some ⟨g, 0, none⟩) c2 64 ((sect (blkH n d)).set I (bitX y J))) := by
      show Owns _ _ _ _ _ _
      rw [htv]
      exact HO5.out.set_ I (bitX y J) hI
    have HB7 : Hid (Below w.heap.size w (w5.setCell ⟨g, I, none⟩ (.int .u8 (bits .xor .u8 (y.toNat : Int) ((2 : Int) ^ J % 256))))) := HB5.out.setCell (by show w.heap.size ≤ g; have := HQ.out; omega) _
    have HX7 := Lib.hid (HX5.out.far (setCell_grown w5 g I (.int .u8 (bits .xor .u8 (y.toNat : Int) ((2 : Int) ^ J % 256)))) (by have := HQ.out; omega))
    have HE4 := Lib.hid (blk_turned HPP.out.2 hIl (y := bitX y J) (by rw [hy.out]; exact bitX_ne y J hJ))
    clear htv HO5 HB5 HX5 hc1 hf1 kc1 kc2 hq
    generalize w5.setCell ⟨g, I, none⟩ (.int .u8 (bits .xor .u8 (y.toNat : Int) ((2 : Int) ^ J % 256))) = w7 at *
    refine (ofblock_bad HP.out HO7.out.lies (by omega) HE4.out (by decide)).mono ?_
    rintro e w8 ⟨A8, c8, rfl, hb8⟩
    have HBT := Lib.hid (HB7.out.trans (hb8.mono HB7.out.size))
    have HXT := Lib.hid (HX7.out.below hb8)
    clear hb8 HB7 HX7 HO7 HE4 HQ HPP hy hIl hy255 hg1 hg2
    go_upto_region 15 with fail
    obtain ⟨wt, hwt⟩ : ∃ wt, wt = w8 := ⟨_, rfl⟩
    subst hwt
  rotate_left
  focus
    have e1 : blkE n d = 1 := if_neg hp
    rw [e1]
    have HBT := HB2
    have HXT := HX2
    clear hn2 ho2 hb2 hp e1 HB1 HX1 HB2 HX2
    go_upto_region 15 with fail
    obtain ⟨wt, hwt⟩ : ∃ wt, wt = w2 := ⟨_, rfl⟩
    subst hwt
  all_goals
    go_wp2_with (refine wpList_load_c3 tyR HXT.out rfl (.tmp 6) rfl rfl ?_)
    refine (ours_any x wt).mono ?_
    rintro e t1 ⟨rfl, htb1⟩
    have HTB1 := Lib.hid (HBT.out.trans (htb1.mono HBT.out.size))
    have HTX1 := Lib.hid (HXT.out.below htb1)
    have HTQ := Lib.hid (show w.heap.size < t1.heap.size from lt_of_block HTX1.out)
    clear htb1 HBT HXT
    go_wp2_with fail
    by_cases hm : x.May
    · refine (cells_ok HP.out HWF.out hm).mono ?_
      rintro e t2 ⟨B2, k2, rfl, hto2, htb2⟩
      have HMY := Lib.hid hm
      have HTO2 := Lib.hid hto2
      have HTB2 := Lib.hid (HTB1.out.trans (htb2.mono HTB1.out.size))
      have HTX2 := Lib.hid (HTX1.out.below htb2)
      obtain ⟨q1, q2, q3⟩ := cel_back x HWF.out hm
      have HQ1 := Lib.hid (And.intro q1 (And.intro q2 q3))
      clear hto2 htb2 hm q1 q2 q3 HTB1 HTX1
      go_wp2_with fail
      refine (ofcells_is HP.out HTO2.out.lies (by omega) HQ1.out.1 HQ1.out.2.1).mono ?_
      rintro e t3 ⟨rfl, htb3⟩
      have HTO3 := Lib.hid (HTO2.out.below htb3)
      have HTB3 := Lib.hid (HTB2.out.trans (htb3.mono HTB2.out.size))
      have HTX3 := Lib.hid (HTX2.out.below htb3)
      have HTZ := Lib.hid (below_new t3 (.cells #[.int .i64 0, .int .i64 0, .int .i64 0, .int .i64 0, .int .i64 0, .int .i64 0] 32))
      clear htb3 HTO2 HTB2 HTX2
      go_upto_region 18 with (refine wpList_store_c3 tyP (zero_c3 t3 _) rfl (.tmp 22) (.tmp 111) rfl rfl x rfl ?_; intro t4 hts4 htg4)
      have htb4 := HTZ.out.grown htg4 HTZ.out.size (fun j hj => by injection hj with hj; omega)
      have HTS4 := Lib.hid hts4
      have HTO4 := Lib.hid (HTO3.out.below htb4)
      have HTB4 := Lib.hid (HTB3.out.trans (htb4.mono HTB3.out.size))
      have HTX4 := Lib.hid (HTX3.out.below htb4)
      generalize t3.heap.size = g22 at *
      clear hts4 htg4 htb4 HTZ HTO3 HTB3 HTX3
      go_wp2_with fail
      refine (ofblock_bad HP.out HTO4.out.lies (by omega) HQ1.out.2.2 (by decide)).mono ?_
      rintro e t5 ⟨B5, k5, rfl, htb5⟩
      have HTO5 := Lib.hid (HTO4.out.below htb5)
      have HTB5 := Lib.hid (HTB4.out.trans (htb5.mono HTB4.out.size))
      have HTX5 := Lib.hid (HTX4.out.below htb5)
      have HTS5 := Lib.hid (HTS4.out.below htb5)
      clear htb5 HTO4 HTB4 HTX4 HTS4 HQ1
      have HL1 := Lib.hid (fun V (hV : Since t5 V) => run_load_c3 tyP (HTS5.out.below hV))
      have HL2 := Lib.hid (fun V (hV : Since t5 V) => run_load_c3 tyR (HTX5.out.below hV))
      have HNE := Lib.hid (fun V => show (binOp .neq 32 (c3V x) (c3V x)).run Try.prog V = .ok (.bool false) V from by rw [run_c3P_neq, c3Eq_self]; rfl)
      go_upto_region 19 with fail
      refine wp_region_since (by kernel_rfl) ?_
      have hS : Since t5 (World.drew t5) := (Below.refl _ _).drew
      refine wpAnyH_take (i := 0) (oi := ⟨some 119, _, _, _, _, _⟩) (v := ?_) rfl (by kernel_rfl) (by kernel_rfl) (by kernel_rfl) (fun _ _ _ h => h) (Or.inl ⟨by rfl, ?_⟩) hS ?_
      rotate_left
      · intro W hW; go_simp; with_reducible rfl
      try simp only [Act.put, List.setIfInBounds_toArray, List.set_cons_zero, List.set_cons_succ]
      refine wpAnyH_take (i := 1) (oi := ⟨some 120, _, _, _, _, _⟩) (v := ?_) rfl (by kernel_rfl) (by kernel_rfl) (by kernel_rfl) (fun _ _ _ h => h) (Or.inl ⟨by rfl, ?_⟩) hS ?_
      rotate_left
      · intro W hW; go_simp; with_reducible rfl
      try simp only [Act.put, List.setIfInBounds_toArray, List.set_cons_zero, List.set_cons_succ]
      refine wpAnyH_take (i := 2) (oi := ⟨some 121, _, _, _, _, _⟩) (v := ?_) rfl (by kernel_rfl) (by kernel_rfl) (by kernel_rfl) (fun _ _ _ h => h) (Or.inl ⟨by rfl, ?_⟩) hS ?_
      rotate_left
      · intro W hW; go_simp; with_reducible rfl
      try simp only [Act.put, List.setIfInBounds_toArray, List.set_cons_zero, List.set_cons_succ]
      refine wpAnyH_take (i := 3) (oi := ⟨some 122, _, _, _, _, _⟩) (v := (c3V x)) rfl (by kernel_rfl) (by kernel_rfl) (by kernel_rfl) (fun _ _ _ h => h) (Or.inl ⟨by rfl, fun W hW => exec_load rfl rfl (HL1.out W hW)⟩) hS ?_
      try simp only [Act.put, List.setIfInBounds_toArray, List.set_cons_zero, List.set_cons_succ]
      refine wpAnyH_take (i := 4) (oi := ⟨some 123, _, _, _, _, _⟩) (v := (c3V x)) rfl (by kernel_rfl) (by kernel_rfl) (by kernel_rfl) (fun _ _ _ h => h) (Or.inl ⟨by rfl, fun W hW => exec_load rfl rfl (HL2.out W hW)⟩) hS ?_
      try simp only [Act.put, List.setIfInBounds_toArray, List.set_cons_zero, List.set_cons_succ]
      refine wpAnyH_ready (rs := [5]) (by kernel_rfl) (by simp) ?_
      refine AllReadyH.cons (o := ⟨some 124, _, _, _, _, _⟩) rfl (fun Kr hKr => ?_) AllReadyH.nil
      -- operation 5: a call
      go_simp
      refine (ours_any x _).mono ?_
      rintro r ta ⟨rfl, hta⟩
      show Kr _ _
      refine hKr.out _ _ ?_ (fun _ => ?_)
      · exact since_trans hS hta
      clear hKr Kr
      replace hS : Since t5 ta := since_trans hS hta
      try simp only [Act.put, List.setIfInBounds_toArray, List.set_cons_zero, List.set_cons_succ]
      refine wpAnyH_take (i := 6) (oi := ⟨some 125, _, _, _, _, _⟩) (v := ?_) rfl (by kernel_rfl) (by kernel_rfl) (by kernel_rfl) (fun _ _ _ h => h) (Or.inl ⟨by rfl, ?_⟩) hS ?_
      rotate_left
      · intro W hW
        have q0 := HNE.out W
        have q1 := run_c3P_guard
        go_simp
        with_reducible rfl
      try simp only [Act.put, List.setIfInBounds_toArray, List.set_cons_zero, List.set_cons_succ]
      refine wpAnyH_take (i := 7) (oi := ⟨some 126, _, _, _, _, _⟩) (v := ?_) rfl (by kernel_rfl) (by kernel_rfl) (by kernel_rfl) (fun _ _ _ h => h) (Or.inl ⟨by rfl, ?_⟩) hS ?_
      rotate_left
      · intro W hW; go_simp; with_reducible rfl
      try simp only [Act.put, List.setIfInBounds_toArray, List.set_cons_zero, List.set_cons_succ]
      refine wpAnyH_take (i := 8) (oi := ⟨some 127, _, _, _, _, _⟩) (v := ?_) rfl (by kernel_rfl) (by kernel_rfl) (by kernel_rfl) (fun _ _ _ h => h) (Or.inl ⟨by rfl, ?_⟩) hS ?_
      rotate_left
      · intro W hW; go_simp; with_reducible rfl
      try simp only [Act.put, List.setIfInBounds_toArray, List.set_cons_zero, List.set_cons_succ]
      refine wpAnyH_take (i := 9) (oi := ⟨some 128, _, _, _, _, _⟩) (v := ?_) rfl (by kernel_rfl) (by kernel_rfl) (by kernel_rfl) (fun _ _ _ h => h) (Or.inl ⟨by rfl, ?_⟩) hS ?_
      rotate_left
      · intro W hW; go_simp; with_reducible rfl
      try simp only [Act.put, List.setIfInBounds_toArray, List.set_cons_zero, List.set_cons_succ]
      refine wpAnyH_take (i := 10) (oi := ⟨some 129, _, _, _, _, _⟩) (v := ?_) rfl (by kernel_rfl) (by kernel_rfl) (by kernel_rfl) (fun _ _ _ h => h) (Or.inl ⟨by rfl, ?_⟩) hS ?_
      rotate_left
      · intro W hW; go_simp; with_reducible rfl
      try simp only [Act.put, List.setIfInBounds_toArray, List.set_cons_zero, List.set_cons_succ]
      refine wpAnyH_take (i := 11) (oi := ⟨some 130, _, _, _, _, _⟩) (v := ?_) rfl (by kernel_rfl) (by kernel_rfl) (by kernel_rfl) (fun _ _ _ h => h) (Or.inl ⟨by rfl, ?_⟩) hS ?_
      rotate_left
      · intro W hW; go_simp; with_reducible rfl
      try simp only [Act.put, List.setIfInBounds_toArray, List.set_cons_zero, List.set_cons_succ]
      refine wpAnyH_take (i := 12) (oi := ⟨some 131, _, _, _, _, _⟩) (v := ?_) rfl (by kernel_rfl) (by kernel_rfl) (by kernel_rfl) (fun _ _ _ h => h) (Or.inl ⟨by rfl, ?_⟩) hS ?_
      rotate_left
      · intro W hW; go_simp; with_reducible rfl
      try simp only [Act.put, List.setIfInBounds_toArray, List.set_cons_zero, List.set_cons_succ]
      refine wpAnyH_take (i := 13) (oi := ⟨some 132, _, _, _, _, _⟩) (v := ?_) rfl (by kernel_rfl) (by kernel_rfl) (by kernel_rfl) (fun _ _ _ h => h) (Or.inl ⟨by rfl, ?_⟩) hS ?_
      rotate_left
      · intro W hW; go_simp; with_reducible rfl
      try simp only [Act.put, List.setIfInBounds_toArray, List.set_cons_zero, List.set_cons_succ]
      refine wpAnyH_take (i := 14) (oi := ⟨some 133, _, _, _, _, _⟩) (v := ?_) rfl (by kernel_rfl) (by kernel_rfl) (by kernel_rfl) (fun _ _ _ h => h) (Or.inl ⟨by rfl, ?_⟩) hS ?_
      rotate_left
      · intro W hW; go_simp; with_reducible rfl
      try simp only [Act.put, List.setIfInBounds_toArray, List.set_cons_zero, List.set_cons_succ]
      refine wpAnyH_take (i := 15) (oi := ⟨some 134, _, _, _, _, _⟩) (v := ?_) rfl (by kernel_rfl) (by kernel_rfl) (by kernel_rfl) (fun _ _ _ h => h) (Or.inl ⟨by rfl, ?_⟩) hS ?_
      rotate_left
      · intro W hW; go_simp; with_reducible rfl
      try simp only [Act.put, List.setIfInBounds_toArray, List.set_cons_zero, List.set_cons_succ]
      refine wpAnyH_take (i := 16) (oi := ⟨some 135, _, _, _, _, _⟩) (v := ?_) rfl (by kernel_rfl) (by kernel_rfl) (by kernel_rfl) (fun _ _ _ h => h) (Or.inl ⟨by rfl, ?_⟩) hS ?_
      rotate_left
      · intro W hW; go_simp; with_reducible rfl
      try simp only [Act.put, List.setIfInBounds_toArray, List.set_cons_zero, List.set_cons_succ]
      refine wpAnyH_done (by kernel_rfl) ?_ _
      have HSS := Lib.hid hS
      have HTO6 := Lib.hid (HTO5.out.below HSS.out)
      have HTB6 := Lib.hid (HTB5.out.trans (Below.mono HSS.out HTB5.out.size))
      clear hS HL1 HL2 HNE HTS5 HTX5 HTO5 HTB5 HSS
      obtain ⟨h, rfl, hh1, hh2, hhc, hhf⟩ := HTO6.out.at_ (by omega)
      have hIl : I < (sect (celTo x 3)).length := by rw [length_cel x]; exact hI
      obtain ⟨y, hy⟩ : ∃ y, Hid ((sect (celTo x 3))[I] = y) := ⟨_, Lib.hid rfl⟩
      have hc1 : ta.cell? ⟨h, I, none⟩ = some (.int .u8 (y.toNat : Int)) := hhc I y (by rw [List.getElem?_eq_getElem hIl, hy.out])
      have hf1 := hhf I
      have hy255 : y.toNat < 256 := y.toNat_lt
      clear hhc hhf
      go_wp2_with fail
      have htv := bitX_val y J
      have HO7 : Hid (Owns (ta.setCell ⟨h, I, none⟩ (.int .u8 (bits .xor .u8 (y.toNat : Int) ((2 : Int) ^ J % 256)))) t1.heap.size (some ⟨h, 0, none⟩) k2 64 ((sect (celTo x 3)).set I (bitX y J))) := by
        show Owns _ _ _ _ _ _
        rw [htv]
        exact HTO6.out.set_ I (bitX y J) hI
      have HB7 : Hid (Below w.heap.size w (ta.setCell ⟨h, I, none⟩ (.int .u8 (bits .xor .u8 (y.toNat : Int) ((2 : Int) ^ J % 256))))) := HTB6.out.setCell (by show w.heap.size ≤ h; have := HTQ.out; omega) _
      have HE4 := Lib.hid (cel_turned hIl (y := bitX y J) (by rw [hy.out]; exact bitX_ne y J hJ))
      clear htv HTO6 HTB6 hc1 hf1
      generalize ta.setCell ⟨h, I, none⟩ (.int .u8 (bits .xor .u8 (y.toNat : Int) ((2 : Int) ^ J % 256))) = w7 at *
      refine (ofcells_is HP.out HO7.out.lies (by omega) HE4.out.1 HE4.out.2).mono ?_
      rintro e t8 ⟨rfl, htb8⟩
      have HTB8 := Lib.hid (HB7.out.trans (htb8.mono HB7.out.size))
      have HTZ := Lib.hid (below_new t8 (.cells #[.int .i64 0, .int .i64 0, .int .i64 0, .int .i64 0, .int .i64 0, .int .i64 0] 32))
      clear htb8 HB7 HO7 HE4
      go_wp2_with (refine wpList_store_c3 tyP (zero_c3 t8 _) rfl (.tmp 27) (.tmp 153) rfl rfl C3.zero rfl ?_; intro t9 hts9 htg9)
      go_ret
      exact ⟨rfl, HTB8.out.trans (Below.mono (HTZ.out.grown htg9 HTZ.out.size (fun j hj => by injection hj with hj; omega)) HTB8.out.size)⟩
    · refine (HP.out.cells x t1 HWF.out).mono ?_
      rintro e t2 ⟨B2, m2, k2, rfl, hm2, _, htb2⟩
      have HTB2 := Lib.hid (HTB1.out.trans (htb2.mono HTB1.out.size))
      have e1 : celE x = 1 := if_neg hm
      rw [e1]
      clear hm2 htb2 e1 hm
      go_wp2_with fail
      go_ret
      exact ⟨rfl, HTB2.out⟩

end Go.Proofs.Ytknjkihcpcimpaa
