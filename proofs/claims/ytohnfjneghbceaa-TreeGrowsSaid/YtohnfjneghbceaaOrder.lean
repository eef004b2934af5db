/-
  Order: the fixed ones, none ahead of one that it stands in, of one's kids the last to end first.
-/
import Derived.Test.YtohnfjneghbceaaPiles
namespace Go.Proofs.Ytohnfjneghbceaa
set_option maxRecDepth 100000
set_option linter.unusedVariables false
open Go.RowKit Go.Shelf Go.Sort Go.Maps

theorem run_append_none {w : World} {base : Nat} {v : Value} {l : List Nat} (hown : OwnId w base v l) (ty : TypeId) :
    (Builtin.append_ #[28, 28] ty #[v, .slice none 0 0]).run Try.prog w = .ok v w := by
  obtain ⟨i0, hi, hz, hs1, hb⟩ := parts_of int_facts
  rcases hown.2 with ⟨rfl, hn⟩ | ⟨g, cap, cur, rfl, _, _, hnc, _⟩
  · simp [Builtin.append_, run_underlying Try.underlying28, sizeOf, typeInfo, hi, Builtin.lenOf, Builtin.firstCells]
  · simp [Builtin.append_, run_underlying Try.underlying28, sizeOf, typeInfo, hi, Builtin.lenOf, Builtin.firstCells, loadCells, storeCells, hnc]

theorem run_append_ids {w : World} {base base2 : Nat} {v u : Value} {l m : List Nat} (hown : OwnId w base v l) (hu : OwnId w base2 u m) (hlen : l.length + m.length ≤ 100000) (hbase : base ≤ w.heap.size) (ty : TypeId) :
    ∃ v' w', (Builtin.append_ #[28, 28] ty #[v, u]).run Try.prog w = .ok v' w' ∧ OwnId w' base v' (l ++ m) ∧ w.grownBy w' v.ownBlock ∧ (v'.ownBlock = v.ownBlock ∨ v'.ownBlock = some w.heap.size) := by
  rcases hu.2 with ⟨e, hn⟩ | ⟨g, cap, cur, e, _⟩
  · subst e
    have hm : m = [] := List.eq_nil_of_length_eq_zero hn
    subst hm
    refine ⟨v, w, run_append_none hown ty, by rw [List.append_nil]; exact hown, ⟨rfl, rfl, rfl, Nat.le_refl _, fun _ _ _ => rfl⟩, .inl rfl⟩
  · subst e
    obtain ⟨A', c', e, hI, _⟩ := hu.form
    injection e with e1 e2 e3
    subst e1
    obtain ⟨i0, hi, hz, hs1, hb⟩ := parts_of int_facts
    obtain ⟨v', w', h1, h2, h3, _, h5⟩ := run_append_own_at w base 28 ty 3 i0 (.int .i64 0) 1 8 Try.underlying28 hi hz hs1 hb rfl (by decide) v l.length (idC l) hown ⟨g, 0, none⟩ m.length cap (idC m) (by unfold idC; simp) (fun j x hx => by
      unfold idC at hx
      rw [List.getElem?_map] at hx
      cases hmj : m[j]? with
      | none => rw [hmj] at hx; cases hx
      | some y =>
        rw [hmj] at hx
        injection hx with hx
        subst hx
        obtain ⟨b, eb, _, hc⟩ := hI.get2 hmj
        injection eb with eb
        injection eb with eb
        subst eb
        by_cases h0 : j = 0
        · subst h0; simpa [Addr.add] using hc
        · simpa [Addr.add, h0] using hc) (by unfold idC; simp [Value.oneCell']) (by unfold maxLen; omega) (by omega) hbase
    refine ⟨v', w', h1, ?_, h3, h5⟩
    unfold OwnId idC
    rw [List.length_append, List.map_append]
    exact h2

theorem OwnId.cut {w : World} {base g c : Nat} {l : List Nat} {y : Nat} (h : OwnId w base (.slice (some ⟨g, 0, none⟩) (l.length + 1) c) (l ++ [y])) : OwnId w base (.slice (some ⟨g, 0, none⟩) l.length c) l := by
  rcases h.2 with ⟨e, _⟩ | ⟨g', cap, cur, e, hb, hh, hnc, hcm, hcs, ht⟩
  · cases e
  · injection e with e1 e2 e3
    injection e1 with e1
    injection e1 with e1
    subst e1
    subst e3
    refine ⟨by unfold idC; simp, .inr ⟨g, c, cur, rfl, hb, hh, by simp at hnc; omega, hcm, hcs, ?_⟩⟩
    have h2 := congrArg (List.take (l.length * 1)) ht
    unfold idC at h2 ⊢
    simpa [List.take_take] using h2

theorem len_below : ∀ (N : Nat) (l : List Nat), l.Nodup → (∀ x ∈ l, x < N) → l.length ≤ N
  | 0, l, _, h => by
    cases l with
    | nil => simp
    | cons x _ => exact absurd (h x (by simp)) (by omega)
  | N + 1, l, hn, h => by
    have h1 := len_below N (l.erase N) (hn.erase N) (fun x hx => by
      have h2 := (List.Nodup.mem_erase_iff hn).1 hx
      have := h x h2.2
      omega)
    have h3 := List.length_erase (a := N) (l := l)
    rw [h3] at h1
    split at h1 <;> omega

def slen : Value → Nat
  | .slice _ n _ => n
  | _ => 0

set_option maxHeartbeats 4000000 in
theorem order_any (A : Option Addr) (T : Tr) (N cap : Nat) (c : Int) (hN : T.l.length = N) (hG : Good T) (w : World) (hT : TxAt w A T.l) :
    Calls Try.prog 15 #[.agg #[.slice A N cap, .int .i64 c]] w fun e w' => ∃ A' n k told, e = .returned (.slice A' n k) ∧ n = told.length ∧ IdAt w' A' told ∧ OI T told [] ∧ Below w.heap.size w w' ∧ ∀ b o, A' = some ⟨b, o, none⟩ → w.heap.size ≤ b := by
  have hn64 : N ≤ 64 := by have := hG.n; omega
  have hb0 := below_new w (.cells #[.slice A N cap, .int .i64 c] 26)
  have ht0 := TB.new w A N cap c
  have c0 := ht0.c0
  have c1 := ht0.c1
  have HG := Lib.hid hG
  have HN := Lib.hid hN
  have HB0 := Lib.hid hb0
  have HP := Lib.hid (piles_any A T N cap c hN hG _ (hT.below hb0))
  clear hG hN hT hb0 ht0
  go_enter Try.func15, Try.ntmps15
  go_wp2_with fail
  refine HP.out.mono ?_
  rintro e w1 ⟨b, n, V, L, rfl, hb, hm, hlo, hbl, hr⟩
  have hl1 := hm.look (-1) (by omega) (by omega)
  have HLO := Lib.hid hlo
  have HM := Lib.hid hm
  have HR := Lib.hid hr
  have HBW := Lib.hid (show w.heap.size ≤ b from Nat.le_trans (by simp) hb)
  have HB1 := Lib.hid (HB0.out.trans (hbl.mono HB0.out.size))
  obtain ⟨v1, hv1⟩ : ∃ v1, v1 = V (-1) := ⟨_, rfl⟩
  rw [← hv1] at hl1
  have HV1 := Lib.hid hv1
  have HO1 := Lib.hid (show OwnId w1 (b + 1) v1 (kids T L (-1)) from by rw [hv1]; exact hr.own (-1))
  have HA1 := Lib.hid (show ∀ p k, 0 ≤ p → v1.ownBlock = some k → ¬ (V p).ownBlock = some k from fun p k hp e e' => by rw [hv1] at e; have := hr.apart _ _ k e e'; omega)
  have HL := Lib.hid (show ∀ k, v1.ownBlock = some k → k < w1.heap.size from fun k e => (HO1.out.lt k e).2)
  have HS1 := Lib.hid hm.lt
  clear hm hlo hbl hr hb hv1 c0 c1 HP HB0
  go_wp2_with fail
  clear hl1
  go_loopw [4, 5] (fun pv tv wr => ∃ (tl pl : List Nat), Hid (OwnId wr (b + 1) pv pl) ∧ Hid (OwnId wr w1.heap.size tv tl) ∧ Hid (OI T tl pl) ∧ Hid (MpAt wr b n V) ∧ Hid (∀ p, 0 ≤ p → OwnId wr (b + 1) (V p) (kids T L p)) ∧ Hid (∀ p k, 0 ≤ p → pv.ownBlock = some k → ¬ (V p).ownBlock = some k) ∧ Hid (∀ p k, 0 ≤ p → (V p).ownBlock = some k → k < w1.heap.size) ∧ Hid (∀ k, pv.ownBlock = some k → ¬ tv.ownBlock = some k) ∧ Hid (Below w.heap.size w wr) ∧ Hid (w1.heap.size ≤ wr.heap.size)) (fun _ tv _ => N - slen tv)
  case atStart => exact ⟨[], kids T L (-1), HO1.out, OwnId.nil _ _, OI.start HLO.out, HM.out, fun p _ => HR.out.own p, HA1.out, fun p k _ e => ((HR.out.own p).lt k e).2, fun k _ => by simp [Value.ownBlock], HB1.out, Nat.le_refl _⟩
  case round =>
    obtain ⟨tl, pl, hop, hot, hoi, hm, hrw, hap, hlt, hpt, hbl, hsz⟩ := hrel
    clear HO1 HA1 HL HR HM
    obtain ⟨A4, c4, rfl, hid4, hlo4⟩ := hop.out.form
    obtain ⟨A5, c5, rfl, hid5, hlo5⟩ := hot.out.form
    rcases List.eq_nil_or_concat pl with rfl | ⟨pl0, y, rfl⟩
    · go_wp2
      go_ret
      exact ⟨A5, _, c5, tl, rfl, rfl, hid5, hoi.out, hbl.out, fun q o e => Nat.le_trans HB1.out.size (hlo5 q o e)⟩
    · rw [List.concat_eq_append] at *
      have hlen : (pl0 ++ [y]).length = pl0.length + 1 := by simp
      rw [hlen] at hop hap hpt ⊢
      obtain ⟨g, hA4, hg4, cy⟩ := hid4.get2 (j := pl0.length) (x := y) (by simp)
      subst hA4
      have hy := hoi.out.mem y (by simp)
      have hyN : y < N := by rw [← HN.out]; exact hy.1
      have hcap : pl0.length + 1 ≤ c4 := by
        rcases hop.out.2 with ⟨e, _⟩ | ⟨g', cap', cur, e, _, _, hnc, _⟩
        · cases e
        · injection e with e1 e2 e3
          rw [e3]; rw [hlen] at hnc; exact hnc
      have hst := OI.step HG.out HLO.out hoi.out
      have htl := len_below N (tl ++ [y]) (List.nodup_append.1 hst.nodup).1 (fun x hx => by rw [← HN.out]; exact (hst.mem x (List.mem_append_left _ hx)).1)
      have hpl : pl0.length ≤ 64 := by have h := len_below N (pl0 ++ [y]) (List.nodup_append.1 hoi.out.nodup).2.1 (fun x hx => by rw [← HN.out]; exact (hoi.out.mem x (List.mem_append_right _ hx)).1); simp at h; omega
      have hkl : (kids T L (y : Int)).length ≤ 64 := by have h := len_below N (kids T L (y : Int)) (kids_nodup HLO.out.nodup) (fun x hx => by rw [← HN.out]; exact ((HLO.out.mem x).1 (mem_kids.1 hx).1).1); omega
      have htl1 : tl.length + 1 ≤ N := by simpa using htl
      have hgb : b + 1 ≤ g := hlo4 g 0 rfl
      obtain ⟨q, hq⟩ : ∃ q, q = pl0.length := ⟨_, rfl⟩
      rw [← hq] at hop hap hpt cy hcap hpl ⊢
      have hpos : (0 : Int) < ((q + 1 : Nat) : Int) := by omega
      have hw1 : IntKind.i64.wrap (((q + 1 : Nat) : Int) - 1) = (q : Int) := by simp [IntKind.wrap, IntKind.bits, IntKind.signed]; omega
      have hw2 : IntKind.i64.wrap (q : Int) = (q : Int) := by simp [IntKind.wrap, IntKind.bits, IntKind.signed]; omega
      have hqc : q ≤ c4 := by omega
      have HST := Lib.hid hst
      have HQ := Lib.hid hq
      clear hst htl hoi hid4 hlo4 hid5 hlo5 hlen hq hy
      obtain ⟨wz, hwz⟩ : ∃ wz, wz = wr := ⟨_, rfl⟩
      subst hwz
      go_upto_region 8 with (first | (at_builtin; refine wpList_append_id rfl _ _ rfl w1.heap.size (.slice A5 tl.length c5) tl rfl (hot.out.below (below_new _ _)) _ y rfl ((cell_new wz _ _ 0).trans rfl) (by omega) (Nat.le_trans hsz.out (by simp)) ?_; intro v5 w5 hown5 hg5 hat5; have HO5 := Lib.hid hown5; have HG5 := Lib.hid hg5; have HA5 := Lib.hid hat5; clear hown5 hg5 hat5) | fail)
      clear cy hw1 hw2 hpos
      have HTL := Lib.hid htl1
      obtain ⟨tv, htv⟩ : ∃ tv, tv = (Value.slice A5 tl.length c5).ownBlock := ⟨_, rfl⟩
      rw [← htv] at hpt HG5 HA5
      have hot2 : ∀ k, tv = some k → w1.heap.size ≤ k ∧ k < wz.heap.size := fun k e => hot.out.lt k (by rw [← htv]; exact e)
      have t5 : Turn (fun k => tv = some k) wz w5 := ((Turn.refl _ wz).alloc _).grown HG5.out (fun k e => .inl e)
      have hgt : ¬ tv = some g := hpt.out g rfl
      have hrl : ∀ p k, 0 ≤ p → (V p).ownBlock = some k → ¬ tv = some k := fun p k hp e e' => by have h1 := hlt.out p k hp e; have h2 := hot2 k e'; omega
      have hop5 := (hop.out.turn t5 (fun k e => by injection e with e; subst e; exact hgt))
      rw [HQ.out] at hop5
      have hcut := hop5.cut
      have hm5 := hm.out.turn t5 (fun e => by have h1 := hot2 b e; have h2 := HS1.out; omega)
      have hr5 : ∀ p, 0 ≤ p → OwnId w5 (b + 1) (V p) (kids T L p) := fun p hp => (hrw.out p hp).turn t5 (fun k e => hrl p k hp e)
      have hdr : Turn (fun _ => False) w5 (World.drew w5) := (Turn.refl _ w5).drew
      have hs5 := t5.size
      obtain ⟨v6, w6, hrun, ho6, hg6, hat6⟩ := run_append_ids (hcut.turn hdr (fun _ _ h => h)) ((hr5 (y : Int) (by omega)).turn hdr (fun _ _ h => h)) (by have := HQ.out; omega) (show b + 1 ≤ w5.heap.size by have h1 := HS1.out; have h2 := hsz.out; omega) 28
      rw [← HQ.out] at hrun
      have t6 : Turn (fun k => k = g) w5 w6 := ((Turn.refl _ w5).drew).grown hg6 (fun k e => .inl (by injection e with e; exact e.symm))
      have hng : ∀ p k, 0 ≤ p → (V p).ownBlock = some k → k ≠ g := fun p k hp e h => hap.out p g hp rfl (by rw [← h]; exact e)
      have HM6 := Lib.hid (hm5.turn t6 (by omega))
      have HR6 := Lib.hid (show ∀ p, 0 ≤ p → OwnId w6 (b + 1) (V p) (kids T L p) from fun p hp => (hr5 p hp).turn t6 (fun k e h => hng p k hp e h))
      have hg5 : ∀ k, v5.ownBlock = some k → k ≠ g ∧ k < w5.heap.size := fun k e => ⟨fun h => by
        rcases HA5.out with h5 | h5
        · rw [h5] at e; rw [h] at e; exact hgt e
        · rw [h5] at e; injection e with e; simp at e; omega, (HO5.out.lt k e).2⟩
      have HT5 := Lib.hid (HO5.out.turn t6 (fun k e h => (hg5 k e).1 h))
      have HO6 := Lib.hid ho6
      have HAP := Lib.hid (show ∀ p k, 0 ≤ p → v6.ownBlock = some k → ¬ (V p).ownBlock = some k from fun p k hp e e' => by
        rcases hat6 with h6 | h6
        · rw [h6] at e; injection e with e; exact hng p k hp e' e.symm
        · rw [h6] at e; injection e with e; have h1 := hlt.out p k hp e'; have h2 := hsz.out; have h3 : k = w5.heap.size := e.symm; omega)
      have HPT := Lib.hid (show ∀ k, v6.ownBlock = some k → ¬ v5.ownBlock = some k from fun k e e' => by
        rcases hat6 with h6 | h6
        · rw [h6] at e; injection e with e; exact (hg5 k e').1 e.symm
        · rw [h6] at e; injection e with e; have h1 := (hg5 k e').2; have h3 : k = w5.heap.size := e.symm; omega)
      have hbo : w1.heap.size ≤ wz.heap.size := hsz.out
      have hww1 := HB1.out.size
      have hb5 : Below w.heap.size w w5 := hbl.out.trans (t5.below (fun k e => by have := (hot2 k e).1; omega) hbl.out.size)
      have HB6 := Lib.hid (hb5.trans (t6.below (fun k e => by have := HBW.out; omega) hb5.size))
      have HZ6 := Lib.hid (show w1.heap.size ≤ w6.heap.size from Nat.le_trans (Nat.le_trans hsz.out hs5) t6.size)
      obtain ⟨A6, c6, hv5, _, _⟩ := HT5.out.form
      have HV5 := Lib.hid hv5
      obtain ⟨vy, hvy⟩ : ∃ vy, vy = V (y : Int) := ⟨_, rfl⟩
      rw [← hvy] at hrun
      have hlk : ∀ U, Turn (fun k => k = g) w5 U → (Instr.lookup 73 (.map (some b)) (.int .i64 (y : Int)) false).run Try.prog U = .ok vy U := fun U h => by rw [hvy]; exact (hm5.turn h (by omega)).look _ (by omega) (by omega)
      have HRUN := Lib.hid hrun
      have HG6 := Lib.hid hg6
      clear hvy hv5 hrun ho6 hg6 hat6 hm5 hr5 hdr hs5 t5 t6 hng hgt hrl hop5 hcut hot2 hg5 hb5 htv hbo hww1 hm hrw hop hot hap hpt hbl hsz HO5 HG5 HA5 htl1 hkl hcap
      refine wp_region_turn (X := (fun k => k = g)) (by kernel_rfl) ?_
      have hS : Turn (fun k => k = g) w5 (World.drew w5) := (Turn.refl _ _).drew
      refine wpAnyH_take (i := 0) (oi := ⟨some 26, _, _, _, _, _⟩) (v := ?_) rfl (by kernel_rfl) (by kernel_rfl) (by kernel_rfl) (fun _ _ _ h => h) (Or.inl ⟨by rfl, ?_⟩) hS ?_
      rotate_left
      · intro W hW; go_simp; with_reducible rfl
      try simp only [Act.put, List.setIfInBounds_toArray, List.set_cons_zero, List.set_cons_succ]
      refine wpAnyH_take (i := 1) (oi := ⟨some 27, _, _, _, _, _⟩) (v := ?_) rfl (by kernel_rfl) (by kernel_rfl) (by kernel_rfl) (fun _ _ _ h => h) (Or.inl ⟨by rfl, ?_⟩) hS ?_
      rotate_left
      · intro W hW; go_simp; with_reducible rfl
      try simp only [Act.put, List.setIfInBounds_toArray, List.set_cons_zero, List.set_cons_succ]
      refine wpAnyH_take (i := 2) (oi := ⟨some 28, _, _, _, _, _⟩) (v := ?_) rfl (by kernel_rfl) (by kernel_rfl) (by kernel_rfl) (fun _ _ _ h => h) (Or.inl ⟨by rfl, ?_⟩) hS ?_
      rotate_left
      · intro W hW; go_simp; with_reducible rfl
      try simp only [Act.put, List.setIfInBounds_toArray, List.set_cons_zero, List.set_cons_succ]
      refine wpAnyH_take (i := 3) (oi := ⟨some 29, _, _, _, _, _⟩) (v := ?_) rfl (by kernel_rfl) (by kernel_rfl) (by kernel_rfl) (fun _ _ _ h => h) (Or.inl ⟨by rfl, ?_⟩) hS ?_
      rotate_left
      · intro W hW; go_simp; with_reducible rfl
      try simp only [Act.put, List.setIfInBounds_toArray, List.set_cons_zero, List.set_cons_succ]
      refine wpAnyH_take (i := 4) (oi := ⟨some 30, _, _, _, _, _⟩) (v := ?_) rfl (by kernel_rfl) (by kernel_rfl) (by kernel_rfl) (fun _ _ _ h => h) (Or.inl ⟨by rfl, ?_⟩) hS ?_
      rotate_left
      · intro W hW; go_simp; with_reducible rfl
      try simp only [Act.put, List.setIfInBounds_toArray, List.set_cons_zero, List.set_cons_succ]
      refine wpAnyH_take (i := 5) (oi := ⟨some 31, _, _, _, _, _⟩) (v := ?_) rfl (by kernel_rfl) (by kernel_rfl) (by kernel_rfl) (fun _ _ _ h => h) (Or.inl ⟨by rfl, ?_⟩) hS ?_
      rotate_left
      · intro W hW; go_simp; with_reducible rfl
      try simp only [Act.put, List.setIfInBounds_toArray, List.set_cons_zero, List.set_cons_succ]
      refine wpAnyH_ready (rs := [6]) (by kernel_rfl) (by simp) ?_
      refine AllReadyH.cons (o := ⟨some 32, _, _, _, _, _⟩) rfl (fun Kr hKr => ?_) AllReadyH.nil
      -- operation 6: a step
      rw [if_pos (by kernel_rfl)]
      refine wp_append_ _ _ 28 rfl rfl rfl HRUN.out ?_
      show Kr _ _
      refine hKr.out _ _ ?_ (fun _ => ?_)
      · exact hS.grown HG6.out (fun k e => .inl (by injection e with e; exact e.symm))
      clear hKr Kr
      replace hS : Turn (fun k => k = g) w5 w6 := hS.grown HG6.out (fun k e => .inl (by injection e with e; exact e.symm))
      try simp only [Act.put, List.setIfInBounds_toArray, List.set_cons_zero, List.set_cons_succ]
      refine wpAnyH_take (i := 7) (oi := ⟨some 4, _, _, _, _, _⟩) (v := ?_) rfl (by kernel_rfl) (by kernel_rfl) (by kernel_rfl) (fun _ _ _ h => h) (Or.inl ⟨by rfl, ?_⟩) hS ?_
      rotate_left
      · intro W hW; go_simp; with_reducible rfl
      try simp only [Act.put, List.setIfInBounds_toArray, List.set_cons_zero, List.set_cons_succ]
      refine wpAnyH_done (by kernel_rfl) ?_ _
      go_roundw
      case rel =>
        refine ⟨_, _, _, _, _, _, _, _, _, _, _, _, _, _, _, _, _, _, _, _, _, _, _, _, _, ?_, rfl⟩
        exact ⟨tl ++ [y], pl0 ++ kids T L (y : Int), HO6.out, HT5.out, HST.out, HM6.out, HR6.out, HAP.out, hlt.out, HPT.out, HB6.out, HZ6.out⟩
      case measure =>
        show N - slen v5 < N - slen (.slice A5 tl.length c5)
        rw [HV5.out]
        simp only [slen, List.length_append, List.length_singleton]
        have := HTL.out
        omega

end Go.Proofs.Ytohnfjneghbceaa
