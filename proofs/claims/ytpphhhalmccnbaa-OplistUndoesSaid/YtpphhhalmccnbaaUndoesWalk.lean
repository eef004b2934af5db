/-
  OplistUndoes: the walk.
-/
import Derived.Test.YtpphhhalmccnbaaQp
namespace Go.Proofs.Ytpphhhalmccnbaa
set_option maxRecDepth 100000
set_option linter.unusedVariables false
set_option linter.unusedSimpArgs false
open Go.RowKit

theorem flat_len {α : Type} {f : Nat → List α} {K : Nat} (h : ∀ t, (f t).length ≤ K) : ∀ n, ((List.range n).flatMap f).length ≤ n * K
  | 0 => by simp
  | n + 1 => by
    have h1 := flat_len h n
    rw [List.range_succ, List.flatMap_append, List.length_append, Nat.succ_mul]
    have h2 := h n
    simp only [List.flatMap_cons, List.flatMap_nil, List.append_nil]
    omega
theorem flat_succ {α : Type} (f : Nat → List α) (n : Nat) : (List.range (n + 1)).flatMap f = (List.range n).flatMap f ++ f n := by
  rw [List.range_succ, List.flatMap_append]; simp
theorem sum_same {l m : List Int} (h : sumI l = sumI m) (hl : l.length ≤ 4096) (hm : m.length ≤ 4096) : sumV l = sumV m ∧ sumE l = sumE m := by
  have : sumE l = sumE m := by unfold sumE; rw [if_neg (show ¬ 4096 < l.length by omega), if_neg (show ¬ 4096 < m.length by omega), h]
  exact ⟨by unfold sumV; rw [this, h], this⟩
/-- what each has open is what is added -/
theorem net_same {l : List En} {P : List Pe} (h : GroO l P) (k : Int) : sumV (netE l k) = sumV ((List.range 8).flatMap fun t : Nat => netE (openT P (t : Int)) k) ∧ sumE (netE l k) = sumE ((List.range 8).flatMap fun t : Nat => netE (openT P (t : Int)) k) := by
  have hP : ∀ p ∈ P, 0 ≤ p.2.t ∧ p.2.t < ((8 : Nat) : Int) := fun p hp => h.tx _ (h.mem hp)
  refine sum_same ?_ ?_ ?_
  · rw [netE_flat, openT_sum hP, open_net h.sa.may h.sa.op]
  · have h1 := netE_len l k; have := h.sa.len; omega
  · have := flat_len (f := fun t : Nat => netE (openT P (t : Int)) k) (K := 256) (fun t => by
      have h1 := netE_len (openT P (t : Int)) k
      have h2 := openT_few h.sa.fit (t := (t : Int))
      have := h.sa.len; omega) 8
    omega
/-- rows of two kinds lie apart -/
theorem own_apart {w : World} {B C : Nat} {v u : Value} {p : List Int} {q : List En} (h : RI.Own w B v p) (k : REo.Own w C u q) : ∀ j, u.ownBlock = some j → ¬ v.ownBlock = some j := by
  intro j e e2
  rcases h.2 with ⟨h1, _⟩ | ⟨g, _, cur, h1, _, hh, _⟩
  · rw [h1] at e2; cases e2
  · rcases k.2 with ⟨k1, _⟩ | ⟨g2, _, cur2, k1, _, kk, _⟩
    · rw [k1] at e; cases e
    · rw [h1] at e2; rw [k1] at e
      injection e2 with e2
      injection e with e
      have e3 : g = g2 := by have a : g = j := e2; have b : g2 = j := e; omega
      subst e3
      rw [hh] at kk
      injection kk with kk
      injection kk with _ kk _
      exact absurd kk (by decide)

set_option maxHeartbeats 4000000 in
theorem undoes_walk (a0 : Option Addr) (len0 cap0 : Nat) (q0 : Nat → Ac) (a1 : Option Addr) (len1 cap1 : Nat) (l1 : List Int) (w : World) (hacts : Acts w a0 len0 q0) (hT : Ls w a1 len1 l1) :
    Calls Try.prog 4 #[.slice a0 len0 cap0, .slice a1 len1 cap1] w fun e w' => e = .returned (.bool true) ∧ Below w.heap.size w w' := by
  have HAC := Lib.hid hacts
  have HT := Lib.hid hT
  clear hacts hT
  go_enter Try.func4, Try.ntmps4
  go_wp2_with fail
  refine (awake_any w).mono ?_
  rintro r w1 ⟨rfl, hb1⟩
  have HB1 := Lib.hid hb1
  clear hb1
  rcases Nat.lt_or_ge 200 len0 with h0 | h0
  · have hd : decide ((len0 : Int) > 200) = true := decide_eq_true (by omega)
    have hd2 : decide ((200 : Int) < (len0 : Int)) = true := decide_eq_true (by omega)
    have hd3 : decide (200 < len0) = true := decide_eq_true (by omega)
    go_wp2_with fail
    go_ret
    exact ⟨rfl, HB1.out⟩
  · have hd : decide ((len0 : Int) > 200) = false := decide_eq_false (by omega)
    have hd2 : decide ((200 : Int) < (len0 : Int)) = false := decide_eq_false (by omega)
    have hd3 : decide (200 < len0) = false := decide_eq_false (by omega)
    rcases Nat.lt_or_ge 20 len1 with h1 | h1
    · have he : decide ((len1 : Int) > 20) = true := decide_eq_true (by omega)
      have he2 : decide ((20 : Int) < (len1 : Int)) = true := decide_eq_true (by omega)
      have he3 : decide (20 < len1) = true := decide_eq_true (by omega)
      go_wp2_with fail
      go_ret
      exact ⟨rfl, HB1.out⟩
    · have he : decide ((len1 : Int) > 20) = false := decide_eq_false (by omega)
      have he2 : decide ((20 : Int) < (len1 : Int)) = false := decide_eq_false (by omega)
      have he3 : decide (20 < len1) = false := decide_eq_false (by omega)
      have HGR := Lib.hid (grown_any a0 len0 cap0 q0 h0 w1 (HAC.out.below HB1.out))
      clear hd hd2 hd3 he he2 he3
      go_wp2_with fail
      refine HGR.out.mono ?_
      rintro r w2 ⟨hb2, A8, n8, c8, l, P, rfl, he8, hG, hs8, hn8⟩
      have HV8 := Lib.hid (Lv.new he8 hs8 hn8)
      have HB2 := Lib.hid ((HB1.out.trans (hb2.mono HB1.out.size)).trans ((below_new w2 (.cells (liC A8 n8 c8) 32)).mono (HB1.out.trans (hb2.mono HB1.out.size)).size))
      have HG := Lib.hid hG
      have HLL := Lib.hid he8.len
      have hn256 : n8 ≤ 256 := by rw [← he8.len]; exact hG.sa.len
      clear hb2 he8 hs8 hn8 hG HGR
      go_upto_region 5 with fail
      generalize w2.heap.size = g8 at *
      generalize w2.alloc (.cells #[.slice A8 n8 c8] 32) = w3 at *
      have x8 := HV8.out.c0
      have HU1 := Lib.hid (undo_gro A8 n8 c8 l P a1 len1 cap1 l1 HG.out (by omega) HV8.out.sp w3 HV8.out.es (HT.out.below HB2.out))
      go_wp2_with fail
      refine HU1.out.mono ?_
      rintro r w4 ⟨hb4, A9, n9, c9, rfl, he9, hs9, hn9⟩
      have HV9 := Lib.hid (Lv.new he9 hs9 hn9)
      have hb5 := hb4.trans ((below_new w4 (.cells (liC A9 n9 c9) 32)).mono hb4.size)
      have HB5 := Lib.hid (HB2.out.trans (hb5.mono HB2.out.size))
      have HV5 := Lib.hid (HV8.out.below hb5)
      have HG9 := Lib.hid (HG.out.undo l1)
      have HN9 := Lib.hid he9.len
      have hn9l : n8 ≤ n9 ∧ n9 ≤ 256 := by
        have h1 := HG9.out.sa.len
        rw [he9.len] at h1
        have h2 := he9.len
        unfold withU at h2
        rw [List.length_append, HLL.out] at h2
        omega
      have HOU := Lib.hid (fun t : Int => fun h : t ∈ l1 => openT_undone (P := P) h)
      clear hb4 he9 hs9 hn9 hb5 HU1 x8 HV8
      go_upto_region 6 with fail
      generalize w4.heap.size = g9 at *
      generalize w4.alloc (.cells #[.slice A9 n9 c9] 32) = w5 at *
      generalize hl2 : withU (amongE l1) l P = l2 at *
      generalize hP2 : (P.filter fun p => !amongE l1 p.2) = P2 at *
      clear hl2 hP2
      have x8 := HV5.out.c0
      have x9 := HV9.out.c0
      have hs1 := sane_any A8 n8 c8 l (by omega) w5 HV5.out.es
      rw [HG.out.sa.sane] at hs1
      have HS1 := Lib.hid hs1
      clear hs1
      go_wp2_with fail
      refine HS1.out.mono ?_
      rintro r w6 ⟨rfl, hb6⟩
      have HV56 := Lib.hid (HV5.out.below hb6)
      have HV96 := Lib.hid (HV9.out.below hb6)
      have HB6 := Lib.hid (HB5.out.trans (hb6.mono HB5.out.size))
      clear hb6 HS1 x8 x9 HV5 HV9
      have x8 := HV56.out.c0
      have x9 := HV96.out.c0
      have hs2 := sane_any A9 n9 c9 l2 (by omega) w6 HV96.out.es
      rw [HG9.out.sa.sane] at hs2
      have HS2 := Lib.hid hs2
      clear hs2
      go_wp2_with fail
      refine HS2.out.mono ?_
      rintro r w7 ⟨rfl, hb7⟩
      have HV57 := Lib.hid (HV56.out.below hb7)
      have HV97 := Lib.hid (HV96.out.below hb7)
      have HB7 := Lib.hid (HB6.out.trans (hb7.mono HB6.out.size))
      clear hb7 HS2 x8 x9 HV56 HV96
      have x8 := HV57.out.c0
      have x9 := HV97.out.c0
      have hl1 : decide ((n9 : Int) < (n8 : Int)) = false := decide_eq_false (by omega)
      have hl2 : decide (n9 < n8) = false := decide_eq_false (by omega)
      have hl3 : decide ((n9 : Int) > 256) = false := decide_eq_false (by omega)
      have hl4 : decide ((256 : Int) < (n9 : Int)) = false := decide_eq_false (by omega)
      have hl5 : decide (256 < n9) = false := decide_eq_false (by omega)
      have HN := Lib.hid hn9l
      go_wp2_with fail
      clear hl1 hl2 hl3 hl4 hl5 x8 x9
      go_loopw [8] (fun u wr => ∃ j : Nat, u = .int .i64 (j : Int) ∧ j ≤ len1 ∧ Hid (Lv wr g9 A9 n9 c9 l2) ∧ Hid (Below w.heap.size w wr)) (fun u _ => len1 - (intOf u).toNat)
      case atStart => exact ⟨0, rfl, Nat.zero_le _, HV97, HB7⟩
      case round =>
        obtain ⟨j, rfl, hj, HVi, HBi⟩ := hrel
        clear HV57 HV97 HB7
        rcases Nat.lt_or_ge j len1 with hlt | hge
        · obtain ⟨bT, oT, hTA, hTl, hTok, hTg, hT0⟩ := HT.out.get hlt
          subst hTA
          have hmem : l1.getD j 0 ∈ l1 := List.mem_of_getElem? hTg
          have HO1 := Lib.hid (fun V (hV : Since wr V) => open2_any A9 n9 c9 0 l2 P2 (l1.getD j 0) HG9.out.sa.op (by omega) V (HVi.out.es.below hV) (by rw [HOU.out _ hmem]; rfl))
          have X7 : ∀ V, Since wr V → V.cell? ⟨g9, 0, none⟩ = some (.slice A9 n9 c9) := fun V hV => (HVi.out.below hV).c0
          have hTw := Nat.lt_of_lt_of_le hTl HBi.out.size
          have hTc := (HBi.out.cell (p := ⟨bT, oT + j, none⟩) hTl).trans hT0
          have XT : ∀ V, Since wr V → V.cell? ⟨bT, oT + j, none⟩ = some (.int .i64 (l1.getD j 0)) := fun V hV => (hV.cell (p := ⟨bT, oT + j, none⟩) hTw).trans hTc
          have hd4 : decide ((j : Int) < (len1 : Int)) = true := decide_eq_true (by omega)
          have hd5 : decide (j < len1) = true := decide_eq_true hlt
          have hi1 : (j : Int) < (len1 : Int) := by omega
          generalize l1.getD j 0 = z at *
          clear hTl hTok hTg hT0 hmem hTw hTc
          go_upto_region 11 with fail
          refine wp_region_since (by kernel_rfl) ?_
          have hS : Since wr (World.drew wr) := (Below.refl _ _).drew
          refine wpAnyH_take (i := 0) (oi := ⟨some 62, _, _, _, _, _⟩) (v := ?_) rfl (by kernel_rfl) (by kernel_rfl) (by kernel_rfl) (fun _ _ _ h => h) (Or.inl ⟨by rfl, ?_⟩) hS ?_
          rotate_left
          · intro W hW
            have q0 := X7 W hW
            go_simp
            with_reducible rfl
          try simp only [Act.put, List.setIfInBounds_toArray, List.set_cons_zero, List.set_cons_succ]
          refine wpAnyH_take (i := 1) (oi := ⟨some 63, _, _, _, _, _⟩) (v := ?_) rfl (by kernel_rfl) (by kernel_rfl) (by kernel_rfl) (fun _ _ _ h => h) (Or.inl ⟨by rfl, ?_⟩) hS ?_
          rotate_left
          · intro W hW; go_simp; with_reducible rfl
          try simp only [Act.put, List.setIfInBounds_toArray, List.set_cons_zero, List.set_cons_succ]
          refine wpAnyH_take (i := 2) (oi := ⟨some 64, _, _, _, _, _⟩) (v := ?_) rfl (by kernel_rfl) (by kernel_rfl) (by kernel_rfl) (fun _ _ _ h => h) (Or.inl ⟨by rfl, ?_⟩) hS ?_
          rotate_left
          · intro W hW; go_simp; with_reducible rfl
          try simp only [Act.put, List.setIfInBounds_toArray, List.set_cons_zero, List.set_cons_succ]
          refine wpAnyH_take (i := 3) (oi := ⟨some 65, _, _, _, _, _⟩) (v := ?_) rfl (by kernel_rfl) (by kernel_rfl) (by kernel_rfl) (fun _ _ _ h => h) (Or.inl ⟨by rfl, ?_⟩) hS ?_
          rotate_left
          · intro W hW; go_simp; with_reducible rfl
          try simp only [Act.put, List.setIfInBounds_toArray, List.set_cons_zero, List.set_cons_succ]
          refine wpAnyH_take (i := 4) (oi := ⟨some 66, _, _, _, _, _⟩) (v := ?_) rfl (by kernel_rfl) (by kernel_rfl) (by kernel_rfl) (fun _ _ _ h => h) (Or.inl ⟨by rfl, ?_⟩) hS ?_
          rotate_left
          · intro W hW
            have q0 := XT W hW
            go_simp
            with_reducible rfl
          try simp only [Act.put, List.setIfInBounds_toArray, List.set_cons_zero, List.set_cons_succ]
          refine wpAnyH_ready (rs := [5]) (by kernel_rfl) (by simp) ?_
          refine AllReadyH.cons (o := ⟨some 67, _, _, _, _, _⟩) rfl (fun Kr hKr => ?_) AllReadyH.nil
          -- operation 5: a call
          go_simp
          refine (HO1.out _ hS).mono ?_
          rintro r wf ⟨hbf, Aa, ca, rfl, hea⟩
          clear hea
          show Kr _ _
          refine hKr.out _ _ ?_ (fun _ => ?_)
          · exact since_trans hS hbf
          clear hKr Kr
          replace hS : Since wr wf := since_trans hS hbf
          try simp only [Act.put, List.setIfInBounds_toArray, List.set_cons_zero, List.set_cons_succ]
          refine wpAnyH_take (i := 6) (oi := ⟨some 68, _, _, _, _, _⟩) (v := ?_) rfl (by kernel_rfl) (by kernel_rfl) (by kernel_rfl) (fun _ _ _ h => h) (Or.inl ⟨by rfl, ?_⟩) hS ?_
          rotate_left
          · intro W hW; go_simp; with_reducible rfl
          try simp only [Act.put, List.setIfInBounds_toArray, List.set_cons_zero, List.set_cons_succ]
          refine wpAnyH_take (i := 7) (oi := ⟨some 69, _, _, _, _, _⟩) (v := ?_) rfl (by kernel_rfl) (by kernel_rfl) (by kernel_rfl) (fun _ _ _ h => h) (Or.inl ⟨by rfl, ?_⟩) hS ?_
          rotate_left
          · intro W hW; go_simp; with_reducible rfl
          try simp only [Act.put, List.setIfInBounds_toArray, List.set_cons_zero, List.set_cons_succ]
          refine wpAnyH_done (by kernel_rfl) ?_ _
          have HVf := Lib.hid (HVi.out.below hS)
          have HBf := Lib.hid (HBi.out.trans (Below.mono hS HBi.out.size))
          clear hS
          go_wp2_with fail
          exact ⟨⟨j + 1, rfl, hlt, HVf, HBf⟩, by simp [intOf] <;> omega⟩
        · obtain rfl : j = len1 := by omega
          have hd4 : decide ((j : Int) < (j : Int)) = false := decide_eq_false (by omega)
          have hd5 : decide (j < j) = false := decide_eq_false (by omega)
          have HNS := Lib.hid (fun k : Int => net_same HG9.out k)
          obtain ⟨w8, hw8⟩ : ∃ w8, w8 = wr := ⟨_, rfl⟩
          subst hw8
          go_wp2_with fail
          go_loopw [9] (fun u wr => ∃ k : Nat, u = .int .i64 (k : Int) ∧ k ≤ 4 ∧ Hid (Lv wr g9 A9 n9 c9 l2) ∧ Hid (Below w.heap.size w wr)) (fun u _ => 4 - (intOf u).toNat)
          case atStart => exact ⟨0, rfl, Nat.zero_le _, HVi, HBi⟩
          case round =>
            obtain ⟨k, rfl, hk, HVk, HBk⟩ := hrel
            clear HVi HBi
            obtain ⟨wk, hwk⟩ : ∃ wk, wk = wr := ⟨_, rfl⟩
            subst hwk
            rcases Nat.lt_or_ge k 4 with hlt | hge
            · have hk4 : decide ((k : Int) < 4) = true := decide_eq_true (by omega)
              have hk5 : decide (k < 4) = true := decide_eq_true hlt
              have hk6 : (k : Int) < 4 := by omega
              go_wp2_with fail
              go_loopw [10, 11] (fun v u wr => ∃ t : Nat, u = .int .i64 (t : Int) ∧ t ≤ 8 ∧ Hid (RI.Own wr wk.heap.size v ((List.range t).flatMap fun t : Nat => netE (openT P2 (t : Int)) (k : Int))) ∧ Hid (Below wk.heap.size wk wr)) (fun _ u _ => 8 - (intOf u).toNat)
              case atStart => exact ⟨0, rfl, Nat.zero_le _, Rk.Own.nil _ _ _, Lib.hid (Below.refl _ _)⟩
              case round =>
                obtain ⟨t, rfl, ht, HOt, HBt⟩ := hrel
                obtain ⟨wt, hwt⟩ : ∃ wt, wt = wr := ⟨_, rfl⟩
                subst hwt
                rcases Nat.lt_or_ge t 8 with htl | htg
                · have ht4 : decide ((t : Int) < 8) = true := decide_eq_true (by omega)
                  have ht5 : decide (t < 8) = true := decide_eq_true htl
                  have ht6 : (t : Int) < 8 := by omega
                  have HVt := Lib.hid (HVk.out.below HBt.out)
                  have x9 := HVt.out.c0
                  have HFL := Lib.hid (flat_succ (fun t : Nat => netE (openT P2 (t : Int)) (k : Int)) t)
                  have HFN := Lib.hid (show ((List.range t).flatMap fun t : Nat => netE (openT P2 (t : Int)) (k : Int)).length ≤ 2048 from by
                    have h1 := flat_len (f := fun t : Nat => netE (openT P2 (t : Int)) (k : Int)) (K := 256) (fun t => by
                      have h1 := netE_len (openT P2 (t : Int)) (k : Int)
                      have h2 := openT_few HG9.out.sa.fit (t := (t : Int))
                      have := HG9.out.sa.len; omega) t
                    omega)
                  generalize (List.range t).flatMap (fun t : Nat => netE (openT P2 (t : Int)) (k : Int)) = acc at *
                  have HO1 := Lib.hid (open_any A9 n9 c9 l2 P2 (t : Int) HG9.out.sa.op (by omega) wt HVt.out.es)
                  obtain ⟨M, hM⟩ : ∃ M, M = openT P2 (t : Int) := ⟨_, rfl⟩
                  rw [← hM] at HO1
                  have HMM := Lib.hid hM
                  have HMOK := Lib.hid (show ∀ e ∈ M, e.Ok from by rw [hM]; exact openT_ok HG9.out.sa.fit HVt.out.es.ok)
                  obtain ⟨mm, hmm⟩ : ∃ mm, M.length = mm := ⟨_, rfl⟩
                  have hmm256 : mm ≤ 256 := by rw [← hmm, hM]; have h1 := openT_few HG9.out.sa.fit (t := (t : Int)); have := HG9.out.sa.len; omega
                  have HML := Lib.hid hmm
                  clear hM hmm
                  go_wp2_with fail
                  refine HO1.out.mono ?_
                  rintro r wm ⟨vm, rfl, hom, hbm⟩
                  obtain ⟨Am, cm, rfl⟩ := own_slice re_oko hom HML.out
                  have HOM := Lib.hid (hom.le HBt.out.size)
                  have HOV := Lib.hid (HOt.out.below hbm)
                  have HBm := Lib.hid (HBt.out.trans (hbm.mono HBt.out.size))
                  clear hom hbm HO1 x9 HVt HOt HBt
                  go_wp2_with fail
                  go_loopw [10, 13] (fun v u wr => ∃ i : Nat, u = .int .i64 (i : Int) ∧ i ≤ mm ∧ Hid (RI.Own wr wk.heap.size v (acc ++ netE (M.take i) (k : Int))) ∧ Hid (REo.Own wr wk.heap.size (.slice Am mm cm) M) ∧ Hid (Below wk.heap.size wk wr)) (fun _ u _ => mm - (intOf u).toNat)
                  case atStart => exact ⟨0, rfl, Nat.zero_le _, by rw [List.take_zero]; show RI.Own _ _ _ (acc ++ []); rw [List.append_nil]; exact HOV.out, HOM, HBm⟩
                  case round =>
                    obtain ⟨i, rfl, hi, HOi, HMi, HBi2⟩ := hrel
                    clear HOM HOV HBm
                    rcases Nat.lt_or_ge i mm with hil | hig
                    · obtain ⟨b2, o, hA, hbl, hok, hget, c0, c1, c2, c3⟩ := (own_es re_oko HMi.out HMOK.out).eo hil
                      subst hA
                      have HUP := Lib.hid (netE_succ (k := (k : Int)) hget)
                      have HLN := Lib.hid (show (acc ++ netE (M.take i) (k : Int)).length ≤ 3000 from by rw [List.length_append]; have h1 := netE_len (M.take i) (k : Int); rw [List.length_take] at h1; have := HFN.out; omega)
                      have HAP := Lib.hid (own_apart HOi.out HMi.out)
                      have HAC2 := Lib.hid (show acc ++ netE (M.take (i + 1)) (k : Int) = (acc ++ netE (M.take i) (k : Int)) ++ (if (M.getD i enD).c = (k : Int) then [(M.getD i enD).b] else []) from by rw [HUP.out, List.append_assoc])
                      clear HUP
                      generalize acc ++ netE (M.take i) (k : Int) = ac2 at *
                      generalize M.getD i enD = e at *
                      obtain ⟨et, ec, eb, eu⟩ := e
                      simp only at c0 c1 c2 c3 HAC2
                      have hi4 : decide ((i : Int) < (mm : Int)) = true := decide_eq_true (by omega)
                      have hi5 : decide (i < mm) = true := decide_eq_true hil
                      have hi6 : (i : Int) < (mm : Int) := by omega
                      clear hbl hok hget
                      by_cases hc : ec = (k : Int)
                      · have hq : (ec == (k : Int)) = true := by simpa using hc
                        rw [if_pos hc] at HAC2
                        clear hc
                        go_wp2_with (first
                          | (at_builtin; refine Rk.wpList_append ri_ok rfl (.tmp 94) (.tmp 100) rfl wk.heap.size u10 ac2 [eb] rfl (HOi.out.below (below_new wr (.cells #[.int .i64 eb] 3))) _ 1 1 rfl (one_at wr eb) rfl (.inr ⟨_, _, rfl⟩) (by have := HLN.out; rw [List.length_singleton]; omega) (Nat.le_trans HBi2.out.size (below_new wr _).size) ?_; intro v7 w9 hx1 hg1 ha1; have HO7 := Lib.hid hx1; have HG7 := Lib.hid hg1; clear hx1 hg1 ha1)
                          | fail)
                        have T7 : Turn (fun q => u10.ownBlock = some q) wr w9 := ((Turn.refl (fun q => u10.ownBlock = some q) wr).alloc (.cells #[.int .i64 eb] 3)).grown HG7.out (fun q e => .inl e)
                        exact ⟨⟨i + 1, rfl, hil, by rw [HAC2.out]; exact HO7, Lib.hid (HMi.out.turn T7 (fun j e h => HAP.out j e h)), Lib.hid (HBi2.out.trans (T7.below (fun q h => (HOi.out.lt q h).1) HBi2.out.size))⟩, by simp [intOf] <;> omega⟩
                      · have hq : (ec == (k : Int)) = false := by simpa using hc
                        rw [if_neg hc, List.append_nil] at HAC2
                        clear hc
                        go_wp2_with fail
                        exact ⟨⟨i + 1, rfl, hil, by rw [HAC2.out]; exact HOi, HMi, HBi2⟩, by simp [intOf] <;> omega⟩
                    · obtain rfl : i = mm := by omega
                      have hi4 : decide ((i : Int) < (i : Int)) = false := decide_eq_false (by omega)
                      have hi5 : decide (i < i) = false := decide_eq_false (by omega)
                      have HO8 := Lib.hid (show RI.Own wr wk.heap.size u10 (acc ++ netE M (k : Int)) from by have h := HOi.out; rwa [List.take_of_length_le (by rw [HML.out]; omega)] at h)
                      clear HOi
                      go_wp2_with fail
                      exact ⟨⟨t + 1, rfl, htl, by rw [HFL.out, ← HMM.out]; exact HO8, HBi2⟩, by simp [intOf] <;> omega⟩
                · obtain rfl : t = 8 := by omega
                  have ht4 : decide (((8 : Nat) : Int) < 8) = false := by decide
                  have ht7 : decide ((8 : Int) < 8) = false := by decide
                  have ht5 : decide (8 < 8) = false := by decide
                  have HVt := Lib.hid (HVk.out.below HBt.out)
                  have x9 := HVt.out.c0
                  have HNT := Lib.hid (net_any A9 n9 c9 l2 (k : Int) (by omega) wt HVt.out.es)
                  have hns := HNS.out (k : Int)
                  obtain ⟨A5, n5, c5, hv5, hn5, hls5⟩ := own_ls HOt.out (by
                    intro x hx
                    rw [List.mem_flatMap] at hx
                    obtain ⟨y, _, hy⟩ := hx
                    exact netE_ok (openT_ok HG9.out.sa.fit HVt.out.es.ok) _ x hy)
                  have hsum := fun V hV => sum_any A5 n5 c5 _ V (hls5.below hV)
                  rw [hns.1, hns.2] at HNT
                  generalize sumV ((List.range 8).flatMap fun t : Nat => netE (openT P2 (t : Int)) (k : Int)) = sv at *
                  generalize sumE ((List.range 8).flatMap fun t : Nat => netE (openT P2 (t : Int)) (k : Int)) = se at *
                  have HSM := Lib.hid hsum
                  have HBt2 := Lib.hid (HBk.out.trans (HBt.out.mono HBk.out.size))
                  subst hv5
                  clear hns hsum hls5 hn5 HOt HVk HBk
                  go_wp2_with fail
                  refine HNT.out.mono ?_
                  rintro r wa ⟨rfl, hba⟩
                  have HVa := Lib.hid (HVt.out.below hba)
                  have HBa := Lib.hid (HBt2.out.trans (hba.mono HBt2.out.size))
                  have HSA := Lib.hid (HSM.out wa hba)
                  clear hba HNT x9 HVt HBt2 HSM
                  go_wp2_with fail
                  refine HSA.out.mono ?_
                  rintro r wb ⟨rfl, hbb⟩
                  have HVb := Lib.hid (HVa.out.below hbb)
                  have HBb := Lib.hid (HBa.out.trans (hbb.mono HBa.out.size))
                  have hq1 : (sv != sv) = false := by simp
                  have hq2 : (se != se) = false := by simp
                  clear hbb HSA HVa HBa
                  go_wp2_with fail
                  exact ⟨⟨k + 1, rfl, hlt, HVb, HBb⟩, by simp [intOf] <;> omega⟩
            · obtain rfl : k = 4 := by omega
              have hk4 : decide (((4 : Nat) : Int) < 4) = false := by decide
              have hk7 : decide ((4 : Int) < 4) = false := by decide
              have hk5 : decide (4 < 4) = false := by decide
              go_wp2_with fail
              go_ret
              exact ⟨rfl, HBk.out⟩
end Go.Proofs.Ytpphhhalmccnbaa
