/-
  Do: an entry more.
-/
import Derived.Test.YtpphhhalmccnbaaQf
namespace Go.Proofs.Ytpphhhalmccnbaa
set_option maxRecDepth 100000
set_option linter.unusedVariables false
set_option linter.unusedSimpArgs false
open Go.RowKit

theorem wp_build_en {W : World} {e : En} {o : Oper} {a : Act} {K : Act → World → Prop} {Q : Exit → Act → World → Prop} (x : Operand) (ho : o.op = .buildSlice 30 1 #[(0, x)]) (hx : a.eval x = etV e)
    (h : ∀ w' h', W.heap.size ≤ h' → REo.At w' (some ⟨h', 0, none⟩) [e] → Below W.heap.size W w' → K (a.put o.dst (.slice (some ⟨h', 0, none⟩) 1 1)) w') : o.wp Try.prog a W K Q := by
  unfold Oper.wp execOp
  simp only [ho, List.map_toArray, List.map_cons, List.map_nil, hx]
  go_simp
  exact h _ _ (Nat.le_refl _) (eo_at W e) (below_new W _)

set_option maxHeartbeats 4000000 in
theorem do_any (A : Option Addr) (n a : Nat) (l : List En) (t c b : Int) (ht : okI t) (hc : okI c) (hb : okI b) (hn : n ≤ 900) (hsp : l = [] ∨ Sp A) (w : World) (hl : EsAt REo w A n l) :
    Calls Try.prog 10 #[liV A n a, .int .i64 t, .int .i64 c, .int .i64 b] w fun r w' => Below w.heap.size w w' ∧ ∃ A' n' a', r = .returned (.tuple #[liV A' n' a', .int .i64 (doE l (newE t c b)).2]) ∧ EsAt REo w' A' n' (doE l (newE t c b)).1 ∧ ((doE l (newE t c b)).1 = [] ∨ Sp A') ∧ n' ≤ a' := by
  have HL := Lib.hid hl
  have HOKE := Lib.hid (show (newE t c b).Ok from ⟨ht, hc, hb⟩)
  have HX := Lib.hid (((Bk.new w (liC A n a) 32).al (.cells (liC none 0 0) 32)).al (.cells (etC (newE t c b)) 62))
  have HZ := Bk.new (w.alloc (.cells (liC A n a) 32)) (liC none 0 0) 32
  rw [size_al] at HZ
  have HZ := Lib.hid (HZ.al (.cells (etC (newE t c b)) 62))
  have hs := fun V hV => sane_any A n a l (by omega) V (HL.out.below hV)
  have hone := fun V => may_any (newE t c b) V
  have HD : Hid (doE l (newE t c b) = if saneE l && (newE t c b).may then (if saneE (l ++ [newE t c b]) then (l ++ [newE t c b], 0) else ([], 13)) else ([], 1)) := rfl
  have HSP := Lib.hid hsp
  clear hl ht hc hb hsp
  have HE := Bk.new ((w.alloc (.cells (liC A n a) 32)).alloc (.cells (liC none 0 0) 32)) (etC (newE t c b)) 62
  rw [size_al, size_al] at HE
  have HE := Lib.hid HE
  have HB := Lib.hid (below_two (below_two (below_new w (.cells (liC A n a) 32)) (below_new _ (.cells (liC none 0 0) 32))) (below_new _ (.cells (etC (newE t c b)) 62)))
  have x0 := HX.out.c 0 _ rfl
  have HF := Lib.hid (fun (V : World) (h : Below w.heap.size w V) (k : Bk V (w.heap.size + 1) (liC none 0 0) 32) (v : Value) => h.setCell (show w.heap.size ≤ (⟨w.heap.size + 1, 0, none⟩ : Addr).block from by show _ ≤ w.heap.size + 1; omega) v)
  go_enter Try.func10, Try.ntmps10
  go_wp2_with fail
  refine (hs _ HB.out).mono ?_
  rintro r w1 ⟨rfl, hb⟩
  replace HX := Lib.hid (HX.out.below hb)
  replace HZ := Lib.hid (HZ.out.below hb)
  replace HE := Lib.hid (HE.out.below hb)
  replace HB := Lib.hid (HB.out.trans (hb.mono HB.out.size))
  clear hb hs x0
  cases hsa : saneE l with
  | false =>
    rw [hsa] at HD
    have HD2 := Lib.hid (show doE l (newE t c b) = ([], 1) from by rw [HD.out]; rfl)
    clear hsa
    have z0 : w1.cell? ⟨w.heap.size + 1, 0, none⟩ = some (.slice none 0 0) := HZ.out.c 0 _ rfl
    have f0 := HZ.out.fr 0
    go_wp2_with fail
    refine bodyPost_ret (v := .tuple #[liV none 0 0, .int .i64 1]) (by rw [results_cell_tmp rfl]; go_simp) rfl ⟨HF.out _ HB.out HZ.out _, none, 0, 0, by rw [HD2.out], by rw [HD2.out]; exact ⟨rfl, by simp, .inl rfl⟩, by rw [HD2.out]; exact .inl rfl, Nat.le_refl _⟩
  | true =>
    rw [hsa] at HD
    have e0 : w1.cell? ⟨w.heap.size + 1 + 1, 0, none⟩ = some (.int .i64 t) := HE.out.c 0 _ rfl
    have e1 : w1.cell? ⟨w.heap.size + 1 + 1, 1, none⟩ = some (.int .i64 c) := HE.out.c 1 _ rfl
    have e2 : w1.cell? ⟨w.heap.size + 1 + 1, 2, none⟩ = some (.int .i64 b) := HE.out.c 2 _ rfl
    have e3 : w1.cell? ⟨w.heap.size + 1 + 1, 3, none⟩ = some (.bool false) := HE.out.c 3 _ rfl
    clear hsa
    go_wp2_with fail
    refine (hone _).mono ?_
    rintro r w2 ⟨rfl, hb⟩
    replace HX := Lib.hid (HX.out.below hb)
    replace HZ := Lib.hid (HZ.out.below hb)
    replace HE := Lib.hid (HE.out.below hb)
    replace HB := Lib.hid (HB.out.trans (hb.mono HB.out.size))
    clear hb hone e0 e1 e2 e3
    cases hm : (newE t c b).may with
    | false =>
      rw [hm] at HD
      have HD2 := Lib.hid (show doE l (newE t c b) = ([], 1) from by rw [HD.out]; rfl)
      clear hm
      have z0 : w2.cell? ⟨w.heap.size + 1, 0, none⟩ = some (.slice none 0 0) := HZ.out.c 0 _ rfl
      have f0 := HZ.out.fr 0
      go_wp2_with fail
      refine bodyPost_ret (v := .tuple #[liV none 0 0, .int .i64 1]) (by rw [results_cell_tmp rfl]; go_simp) rfl ⟨HF.out _ HB.out HZ.out _, none, 0, 0, by rw [HD2.out], by rw [HD2.out]; exact ⟨rfl, by simp, .inl rfl⟩, by rw [HD2.out]; exact .inl rfl, Nat.le_refl _⟩
    | true =>
      rw [hm] at HD
      have HD2 := Lib.hid (show doE l (newE t c b) = if saneE (l ++ [newE t c b]) then (l ++ [newE t c b], 0) else ([], 13) from by rw [HD.out]; rfl)
      clear hm HD
      have HL2 := Lib.hid (HL.out.below HB.out)
      have HCL := Lib.hid (fun V (hV : Since w2 V) => cloneE_any A n a l (by omega) HSP.out V (HL2.out.below hV))
      have HLN := Lib.hid HL.out.len
      have HXL := Lib.hid HX.out.lt
      have HEL := Lib.hid HE.out.lt
      have x0 := HX.out.c 0 _ rfl
      have e0 : w2.cell? ⟨w.heap.size + 1 + 1, 0, none⟩ = some (.int .i64 t) := HE.out.c 0 _ rfl
      have e1 : w2.cell? ⟨w.heap.size + 1 + 1, 1, none⟩ = some (.int .i64 c) := HE.out.c 1 _ rfl
      have e2 : w2.cell? ⟨w.heap.size + 1 + 1, 2, none⟩ = some (.int .i64 b) := HE.out.c 2 _ rfl
      have e3 : w2.cell? ⟨w.heap.size + 1 + 1, 3, none⟩ = some (.bool false) := HE.out.c 3 _ rfl
      go_upto_region 4 with fail
      go_cut [11] from 25 to 31 (fun pv wc => ∃ (g3 : Nat) (A8 : Option Addr) (c8 : Nat), pv = .pointer (some ⟨g3, 0, none⟩) ∧ Hid (Bk wc g3 (liC A8 (n + 1) c8) 32) ∧ Hid (REo.Own wc w2.heap.size (.slice A8 (n + 1) c8) (l ++ [⟨t, c, b, false⟩])) ∧ Hid (Since w2 wc))
      case first =>
        refine wp_region_since (by kernel_rfl) ?_
        have hS : Since w2 (World.drew w2) := (Below.refl _ _).drew
        refine wpAnyH_take (i := 0) (oi := ⟨some 25, _, _, _, _, _⟩) (v := ?_) rfl (by kernel_rfl) (by kernel_rfl) (by kernel_rfl) (fun _ _ _ h => h) (Or.inl ⟨by rfl, ?_⟩) hS ?_
        rotate_left
        · intro W hW; go_simp; with_reducible rfl
        try simp only [Act.put, List.setIfInBounds_toArray, List.set_cons_zero, List.set_cons_succ]
        refine wpAnyH_take (i := 1) (oi := ⟨some 26, _, _, _, _, _⟩) (v := ?_) rfl (by kernel_rfl) (by kernel_rfl) (by kernel_rfl) (fun _ _ _ h => h) (Or.inl ⟨by rfl, ?_⟩) hS ?_
        rotate_left
        · intro W hW
          have x1 := (hW.cell (p := ⟨w.heap.size, 0, none⟩) HXL.out).trans x0
          go_simp
          with_reducible rfl
        try simp only [Act.put, List.setIfInBounds_toArray, List.set_cons_zero, List.set_cons_succ]
        refine wpAnyH_take (i := 3) (oi := ⟨some 28, _, _, _, _, _⟩) (v := ?_) rfl (by kernel_rfl) (by kernel_rfl) (by kernel_rfl) (fun _ _ _ h => h) (Or.inl ⟨by rfl, ?_⟩) hS ?_
        rotate_left
        · intro W hW
          have q0 := (hW.cell (p := ⟨w.heap.size + 1 + 1, 0, none⟩) HEL.out).trans e0
          have q1 := (hW.cell (p := ⟨w.heap.size + 1 + 1, 1, none⟩) HEL.out).trans e1
          have q2 := (hW.cell (p := ⟨w.heap.size + 1 + 1, 2, none⟩) HEL.out).trans e2
          have q3 := (hW.cell (p := ⟨w.heap.size + 1 + 1, 3, none⟩) HEL.out).trans e3
          go_simp
          with_reducible rfl
        try simp only [Act.put, List.setIfInBounds_toArray, List.set_cons_zero, List.set_cons_succ]
        refine wpAnyH_ready (rs := [2, 4, 7]) (by kernel_rfl) (by simp) ?_
        refine AllReadyH.cons (o := ⟨some 27, _, _, _, _, _⟩) rfl (fun Kr hKr => ?_) (AllReadyH.cons (o := ⟨some 29, _, _, _, _, _⟩) rfl (fun Kr hKr => ?_) (AllReadyH.cons (o := ⟨some 11, _, _, _, _, _⟩) rfl (fun Kr hKr => ?_) AllReadyH.nil))
        · skip
          -- operation 2: a call
          go_simp
          refine (HCL.out _ hS).mono ?_
          rintro r wc ⟨vc, rfl, hoc, hbc⟩
          have HOC := Lib.hid (hoc.le hS.size)
          try have HNE := Lib.hid (fun k (e : vc.ownBlock = some k) => (show k ≠ g3 from by have h1 := (hoc.lt k e).1; have h2 := HK3.out.lt; omega))
          try replace HK3 := Lib.hid (HK3.out.below hbc)
          try replace HAT := Lib.hid (HAT.out.below hbc)
          clear hoc
          show Kr _ _
          refine hKr.out _ _ ?_ (fun _ => ?_)
          · exact since_trans hS hbc
          clear hKr Kr
          replace hS : Since w2 wc := since_trans hS hbc
          try simp only [Act.put, List.setIfInBounds_toArray, List.set_cons_zero, List.set_cons_succ]
          refine wpAnyH_ready (rs := [4, 7]) (by kernel_rfl) (by simp) ?_
          refine AllReadyH.cons (o := ⟨some 29, _, _, _, _, _⟩) rfl (fun Kr hKr => ?_) (AllReadyH.cons (o := ⟨some 11, _, _, _, _, _⟩) rfl (fun Kr hKr => ?_) AllReadyH.nil)
          · skip
            -- operation 4: a step
            refine wp_build_en (e := ⟨t, c, b, false⟩) (.tmp 28) rfl rfl ?_
            intro wB gB hgB hatB hbB
            have HAT := Lib.hid hatB
            try replace HOC := Lib.hid (HOC.out.below hbB)
            try replace HK3 := Lib.hid (HK3.out.below hbB)
            clear hgB hatB
            show Kr _ _
            refine hKr.out _ _ ?_ (fun _ => ?_)
            · exact since_trans hS hbB
            clear hKr Kr
            replace hS : Since w2 wB := since_trans hS hbB
            try simp only [Act.put, List.setIfInBounds_toArray, List.set_cons_zero, List.set_cons_succ]
            refine wpAnyH_ready (rs := [5, 7]) (by kernel_rfl) (by simp) ?_
            refine AllReadyH.cons (o := ⟨some 30, _, _, _, _, _⟩) rfl (fun Kr hKr => ?_) (AllReadyH.cons (o := ⟨some 11, _, _, _, _, _⟩) rfl (fun Kr hKr => ?_) AllReadyH.nil)
            · skip
              -- operation 5: a step
              refine Rk.wp_append re_oko (.tmp 27) (.tmp 29) rfl w2.heap.size vc l [⟨t, c, b, false⟩] rfl HOC.out _ 1 1 rfl HAT.out rfl (.inr ⟨_, _, rfl⟩) (by have := HLN.out; rw [List.length_singleton]; omega) hS.size ?_
              intro v5 w5 ho5 hg5 ha5
              try have HNE5 := Lib.hid (fun k (e : v5.ownBlock = some k) => (show k ≠ g3 from by rcases ha5 with h | h; exact HNE.out k (by rw [← h]; exact e); (rw [h] at e; injection e with e; have := HK3.out.lt; omega)))
              try replace HK3 := Lib.hid (HK3.out.far hg5 (fun e => HNE.out g3 e.symm rfl))
              have HO5 := Lib.hid ho5
              clear ho5 ha5
              show Kr _ _
              refine hKr.out _ _ ?_ (fun _ => ?_)
              · exact Below.grown hS hg5 hS.size (fun k e => (HOC.out.lt k e).1)
              clear hKr Kr
              replace hS : Since w2 w5 := Below.grown hS hg5 hS.size (fun k e => (HOC.out.lt k e).1)
              clear HOC HAT hg5
              try clear HNE
              obtain ⟨A8, c8, hv8⟩ := own_slice re_oko HO5.out (n := n + 1) (by rw [List.length_append, List.length_singleton]; have := HLN.out; omega)
              subst hv8
              try simp only [Act.put, List.setIfInBounds_toArray, List.set_cons_zero, List.set_cons_succ]
              refine wpAnyH_take (i := 6) (oi := ⟨some 31, _, _, _, _, _⟩) (v := ?_) rfl (by kernel_rfl) (by kernel_rfl) (by kernel_rfl) (fun _ _ _ h => h) (Or.inl ⟨by rfl, ?_⟩) hS ?_
              rotate_left
              · intro W hW; go_simp; with_reducible rfl
              try simp only [Act.put, List.setIfInBounds_toArray, List.set_cons_zero, List.set_cons_succ]
              refine wpAnyH_ready (rs := [7]) (by kernel_rfl) (by simp) ?_
              refine AllReadyH.cons (o := ⟨some 11, _, _, _, _, _⟩) rfl (fun Kr hKr => ?_) AllReadyH.nil
              -- operation 7: a step
              refine wp_alloc_bk 32 rfl #[.slice none 0 0] (by kernel_rfl) ?_
              intro wK g3 hk3 hbK hgK
              have HK3 := Lib.hid (show Bk wK g3 (liC none 0 0) 32 from hk3)
              have HG3 := Lib.hid (Nat.le_trans hS.size hgK)
              try have HNE5 := Lib.hid (fun k (e : (Value.slice A8 (n + 1) c8).ownBlock = some k) => (show k ≠ g3 from by have h1 := (HO5.out.lt k e).2; omega))
              try have HNE := Lib.hid (fun k (e : vc.ownBlock = some k) => (show k ≠ g3 from by have h1 := (HOC.out.lt k e).2; omega))
              try replace HO5 := Lib.hid (HO5.out.below hbK)
              try replace HOC := Lib.hid (HOC.out.below hbK)
              try replace HAT := Lib.hid (HAT.out.below hbK)
              clear hgK hk3
              show Kr _ _
              refine hKr.out _ _ ?_ (fun _ => ?_)
              · exact since_trans hS hbK
              clear hKr Kr
              replace hS : Since w2 wK := since_trans hS hbK
              try simp only [Act.put, List.setIfInBounds_toArray, List.set_cons_zero, List.set_cons_succ]
              refine wpAnyH_ready (rs := [8]) (by kernel_rfl) (by simp) ?_
              refine AllReadyH.cons (o := ⟨none, _, _, _, _, _⟩) rfl (fun Kr hKr => ?_) AllReadyH.nil
              -- operation 8: a step
              refine wp_store_bk 32 (.tmp 11) (.tmp 31) rfl g3 (liC A8 (n + 1) c8) rfl rfl 32 _ HK3.out (by kernel_rfl) rfl (by simp [Value.oneCell']) ?_
              intro wS hkS hgS
              have hT : Turn (fun q => q = g3) _ wS := (Turn.refl _ _).grown hgS (fun q e => .inl (by injection e with e; exact e.symm))
              have HOS := Lib.hid (HO5.out.turn hT (fun k e h => HNE5.out k e h))
              have HKS := Lib.hid (show Bk wS g3 (liC A8 (n + 1) c8) 32 from hkS)
              clear hT hkS
              show Kr _ _
              refine hKr.out _ _ ?_ (fun _ => ?_)
              · exact Below.grown hS hgS hS.size (fun q e => by injection e with e; have := HG3.out; omega)
              clear hKr Kr
              replace hS : Since w2 wS := Below.grown hS hgS hS.size (fun q e => by injection e with e; have := HG3.out; omega)
              try simp only [Act.put, List.setIfInBounds_toArray, List.set_cons_zero, List.set_cons_succ]
              refine wpAnyH_done (by kernel_rfl) ?_ _
              have HSS2 := Lib.hid hS
              clear hS
              go_wp2_with fail
              go_meet
              case rel => exact ⟨g3, A8, c8, rfl, HKS, HOS, HSS2⟩
            · skip
              -- operation 7: a step
              refine wp_alloc_bk 32 rfl #[.slice none 0 0] (by kernel_rfl) ?_
              intro wK g3 hk3 hbK hgK
              have HK3 := Lib.hid (show Bk wK g3 (liC none 0 0) 32 from hk3)
              have HG3 := Lib.hid (Nat.le_trans hS.size hgK)
              try have HNE5 := Lib.hid (fun k (e : (Value.slice A8 (n + 1) c8).ownBlock = some k) => (show k ≠ g3 from by have h1 := (HO5.out.lt k e).2; omega))
              try have HNE := Lib.hid (fun k (e : vc.ownBlock = some k) => (show k ≠ g3 from by have h1 := (HOC.out.lt k e).2; omega))
              try replace HO5 := Lib.hid (HO5.out.below hbK)
              try replace HOC := Lib.hid (HOC.out.below hbK)
              try replace HAT := Lib.hid (HAT.out.below hbK)
              clear hgK hk3
              show Kr _ _
              refine hKr.out _ _ ?_ (fun _ => ?_)
              · exact since_trans hS hbK
              clear hKr Kr
              replace hS : Since w2 wK := since_trans hS hbK
              try simp only [Act.put, List.setIfInBounds_toArray, List.set_cons_zero, List.set_cons_succ]
              refine wpAnyH_ready (rs := [5]) (by kernel_rfl) (by simp) ?_
              refine AllReadyH.cons (o := ⟨some 30, _, _, _, _, _⟩) rfl (fun Kr hKr => ?_) AllReadyH.nil
              -- operation 5: a step
              refine Rk.wp_append re_oko (.tmp 27) (.tmp 29) rfl w2.heap.size vc l [⟨t, c, b, false⟩] rfl HOC.out _ 1 1 rfl HAT.out rfl (.inr ⟨_, _, rfl⟩) (by have := HLN.out; rw [List.length_singleton]; omega) hS.size ?_
              intro v5 w5 ho5 hg5 ha5
              try have HNE5 := Lib.hid (fun k (e : v5.ownBlock = some k) => (show k ≠ g3 from by rcases ha5 with h | h; exact HNE.out k (by rw [← h]; exact e); (rw [h] at e; injection e with e; have := HK3.out.lt; omega)))
              try replace HK3 := Lib.hid (HK3.out.far hg5 (fun e => HNE.out g3 e.symm rfl))
              have HO5 := Lib.hid ho5
              clear ho5 ha5
              show Kr _ _
              refine hKr.out _ _ ?_ (fun _ => ?_)
              · exact Below.grown hS hg5 hS.size (fun k e => (HOC.out.lt k e).1)
              clear hKr Kr
              replace hS : Since w2 w5 := Below.grown hS hg5 hS.size (fun k e => (HOC.out.lt k e).1)
              clear HOC HAT hg5
              try clear HNE
              obtain ⟨A8, c8, hv8⟩ := own_slice re_oko HO5.out (n := n + 1) (by rw [List.length_append, List.length_singleton]; have := HLN.out; omega)
              subst hv8
              try simp only [Act.put, List.setIfInBounds_toArray, List.set_cons_zero, List.set_cons_succ]
              refine wpAnyH_take (i := 6) (oi := ⟨some 31, _, _, _, _, _⟩) (v := ?_) rfl (by kernel_rfl) (by kernel_rfl) (by kernel_rfl) (fun _ _ _ h => h) (Or.inl ⟨by rfl, ?_⟩) hS ?_
              rotate_left
              · intro W hW; go_simp; with_reducible rfl
              try simp only [Act.put, List.setIfInBounds_toArray, List.set_cons_zero, List.set_cons_succ]
              refine wpAnyH_ready (rs := [8]) (by kernel_rfl) (by simp) ?_
              refine AllReadyH.cons (o := ⟨none, _, _, _, _, _⟩) rfl (fun Kr hKr => ?_) AllReadyH.nil
              -- operation 8: a step
              refine wp_store_bk 32 (.tmp 11) (.tmp 31) rfl g3 (liC A8 (n + 1) c8) rfl rfl 32 _ HK3.out (by kernel_rfl) rfl (by simp [Value.oneCell']) ?_
              intro wS hkS hgS
              have hT : Turn (fun q => q = g3) _ wS := (Turn.refl _ _).grown hgS (fun q e => .inl (by injection e with e; exact e.symm))
              have HOS := Lib.hid (HO5.out.turn hT (fun k e h => HNE5.out k e h))
              have HKS := Lib.hid (show Bk wS g3 (liC A8 (n + 1) c8) 32 from hkS)
              clear hT hkS
              show Kr _ _
              refine hKr.out _ _ ?_ (fun _ => ?_)
              · exact Below.grown hS hgS hS.size (fun q e => by injection e with e; have := HG3.out; omega)
              clear hKr Kr
              replace hS : Since w2 wS := Below.grown hS hgS hS.size (fun q e => by injection e with e; have := HG3.out; omega)
              try simp only [Act.put, List.setIfInBounds_toArray, List.set_cons_zero, List.set_cons_succ]
              refine wpAnyH_done (by kernel_rfl) ?_ _
              have HSS2 := Lib.hid hS
              clear hS
              go_wp2_with fail
              go_meet
              case rel => exact ⟨g3, A8, c8, rfl, HKS, HOS, HSS2⟩
          · skip
            -- operation 7: a step
            refine wp_alloc_bk 32 rfl #[.slice none 0 0] (by kernel_rfl) ?_
            intro wK g3 hk3 hbK hgK
            have HK3 := Lib.hid (show Bk wK g3 (liC none 0 0) 32 from hk3)
            have HG3 := Lib.hid (Nat.le_trans hS.size hgK)
            try have HNE5 := Lib.hid (fun k (e : (Value.slice A8 (n + 1) c8).ownBlock = some k) => (show k ≠ g3 from by have h1 := (HO5.out.lt k e).2; omega))
            try have HNE := Lib.hid (fun k (e : vc.ownBlock = some k) => (show k ≠ g3 from by have h1 := (HOC.out.lt k e).2; omega))
            try replace HO5 := Lib.hid (HO5.out.below hbK)
            try replace HOC := Lib.hid (HOC.out.below hbK)
            try replace HAT := Lib.hid (HAT.out.below hbK)
            clear hgK hk3
            show Kr _ _
            refine hKr.out _ _ ?_ (fun _ => ?_)
            · exact since_trans hS hbK
            clear hKr Kr
            replace hS : Since w2 wK := since_trans hS hbK
            try simp only [Act.put, List.setIfInBounds_toArray, List.set_cons_zero, List.set_cons_succ]
            refine wpAnyH_ready (rs := [4]) (by kernel_rfl) (by simp) ?_
            refine AllReadyH.cons (o := ⟨some 29, _, _, _, _, _⟩) rfl (fun Kr hKr => ?_) AllReadyH.nil
            -- operation 4: a step
            refine wp_build_en (e := ⟨t, c, b, false⟩) (.tmp 28) rfl rfl ?_
            intro wB gB hgB hatB hbB
            have HAT := Lib.hid hatB
            try replace HOC := Lib.hid (HOC.out.below hbB)
            try replace HK3 := Lib.hid (HK3.out.below hbB)
            clear hgB hatB
            show Kr _ _
            refine hKr.out _ _ ?_ (fun _ => ?_)
            · exact since_trans hS hbB
            clear hKr Kr
            replace hS : Since w2 wB := since_trans hS hbB
            try simp only [Act.put, List.setIfInBounds_toArray, List.set_cons_zero, List.set_cons_succ]
            refine wpAnyH_ready (rs := [5]) (by kernel_rfl) (by simp) ?_
            refine AllReadyH.cons (o := ⟨some 30, _, _, _, _, _⟩) rfl (fun Kr hKr => ?_) AllReadyH.nil
            -- operation 5: a step
            refine Rk.wp_append re_oko (.tmp 27) (.tmp 29) rfl w2.heap.size vc l [⟨t, c, b, false⟩] rfl HOC.out _ 1 1 rfl HAT.out rfl (.inr ⟨_, _, rfl⟩) (by have := HLN.out; rw [List.length_singleton]; omega) hS.size ?_
            intro v5 w5 ho5 hg5 ha5
            try have HNE5 := Lib.hid (fun k (e : v5.ownBlock = some k) => (show k ≠ g3 from by rcases ha5 with h | h; exact HNE.out k (by rw [← h]; exact e); (rw [h] at e; injection e with e; have := HK3.out.lt; omega)))
            try replace HK3 := Lib.hid (HK3.out.far hg5 (fun e => HNE.out g3 e.symm rfl))
            have HO5 := Lib.hid ho5
            clear ho5 ha5
            show Kr _ _
            refine hKr.out _ _ ?_ (fun _ => ?_)
            · exact Below.grown hS hg5 hS.size (fun k e => (HOC.out.lt k e).1)
            clear hKr Kr
            replace hS : Since w2 w5 := Below.grown hS hg5 hS.size (fun k e => (HOC.out.lt k e).1)
            clear HOC HAT hg5
            try clear HNE
            obtain ⟨A8, c8, hv8⟩ := own_slice re_oko HO5.out (n := n + 1) (by rw [List.length_append, List.length_singleton]; have := HLN.out; omega)
            subst hv8
            try simp only [Act.put, List.setIfInBounds_toArray, List.set_cons_zero, List.set_cons_succ]
            refine wpAnyH_take (i := 6) (oi := ⟨some 31, _, _, _, _, _⟩) (v := ?_) rfl (by kernel_rfl) (by kernel_rfl) (by kernel_rfl) (fun _ _ _ h => h) (Or.inl ⟨by rfl, ?_⟩) hS ?_
            rotate_left
            · intro W hW; go_simp; with_reducible rfl
            try simp only [Act.put, List.setIfInBounds_toArray, List.set_cons_zero, List.set_cons_succ]
            refine wpAnyH_ready (rs := [8]) (by kernel_rfl) (by simp) ?_
            refine AllReadyH.cons (o := ⟨none, _, _, _, _, _⟩) rfl (fun Kr hKr => ?_) AllReadyH.nil
            -- operation 8: a step
            refine wp_store_bk 32 (.tmp 11) (.tmp 31) rfl g3 (liC A8 (n + 1) c8) rfl rfl 32 _ HK3.out (by kernel_rfl) rfl (by simp [Value.oneCell']) ?_
            intro wS hkS hgS
            have hT : Turn (fun q => q = g3) _ wS := (Turn.refl _ _).grown hgS (fun q e => .inl (by injection e with e; exact e.symm))
            have HOS := Lib.hid (HO5.out.turn hT (fun k e h => HNE5.out k e h))
            have HKS := Lib.hid (show Bk wS g3 (liC A8 (n + 1) c8) 32 from hkS)
            clear hT hkS
            show Kr _ _
            refine hKr.out _ _ ?_ (fun _ => ?_)
            · exact Below.grown hS hgS hS.size (fun q e => by injection e with e; have := HG3.out; omega)
            clear hKr Kr
            replace hS : Since w2 wS := Below.grown hS hgS hS.size (fun q e => by injection e with e; have := HG3.out; omega)
            try simp only [Act.put, List.setIfInBounds_toArray, List.set_cons_zero, List.set_cons_succ]
            refine wpAnyH_done (by kernel_rfl) ?_ _
            have HSS2 := Lib.hid hS
            clear hS
            go_wp2_with fail
            go_meet
            case rel => exact ⟨g3, A8, c8, rfl, HKS, HOS, HSS2⟩
        · skip
          -- operation 4: a step
          refine wp_build_en (e := ⟨t, c, b, false⟩) (.tmp 28) rfl rfl ?_
          intro wB gB hgB hatB hbB
          have HAT := Lib.hid hatB
          try replace HOC := Lib.hid (HOC.out.below hbB)
          try replace HK3 := Lib.hid (HK3.out.below hbB)
          clear hgB hatB
          show Kr _ _
          refine hKr.out _ _ ?_ (fun _ => ?_)
          · exact since_trans hS hbB
          clear hKr Kr
          replace hS : Since w2 wB := since_trans hS hbB
          try simp only [Act.put, List.setIfInBounds_toArray, List.set_cons_zero, List.set_cons_succ]
          refine wpAnyH_ready (rs := [2, 7]) (by kernel_rfl) (by simp) ?_
          refine AllReadyH.cons (o := ⟨some 27, _, _, _, _, _⟩) rfl (fun Kr hKr => ?_) (AllReadyH.cons (o := ⟨some 11, _, _, _, _, _⟩) rfl (fun Kr hKr => ?_) AllReadyH.nil)
          · skip
            -- operation 2: a call
            go_simp
            refine (HCL.out _ hS).mono ?_
            rintro r wc ⟨vc, rfl, hoc, hbc⟩
            have HOC := Lib.hid (hoc.le hS.size)
            try have HNE := Lib.hid (fun k (e : vc.ownBlock = some k) => (show k ≠ g3 from by have h1 := (hoc.lt k e).1; have h2 := HK3.out.lt; omega))
            try replace HK3 := Lib.hid (HK3.out.below hbc)
            try replace HAT := Lib.hid (HAT.out.below hbc)
            clear hoc
            show Kr _ _
            refine hKr.out _ _ ?_ (fun _ => ?_)
            · exact since_trans hS hbc
            clear hKr Kr
            replace hS : Since w2 wc := since_trans hS hbc
            try simp only [Act.put, List.setIfInBounds_toArray, List.set_cons_zero, List.set_cons_succ]
            refine wpAnyH_ready (rs := [5, 7]) (by kernel_rfl) (by simp) ?_
            refine AllReadyH.cons (o := ⟨some 30, _, _, _, _, _⟩) rfl (fun Kr hKr => ?_) (AllReadyH.cons (o := ⟨some 11, _, _, _, _, _⟩) rfl (fun Kr hKr => ?_) AllReadyH.nil)
            · skip
              -- operation 5: a step
              refine Rk.wp_append re_oko (.tmp 27) (.tmp 29) rfl w2.heap.size vc l [⟨t, c, b, false⟩] rfl HOC.out _ 1 1 rfl HAT.out rfl (.inr ⟨_, _, rfl⟩) (by have := HLN.out; rw [List.length_singleton]; omega) hS.size ?_
              intro v5 w5 ho5 hg5 ha5
              try have HNE5 := Lib.hid (fun k (e : v5.ownBlock = some k) => (show k ≠ g3 from by rcases ha5 with h | h; exact HNE.out k (by rw [← h]; exact e); (rw [h] at e; injection e with e; have := HK3.out.lt; omega)))
              try replace HK3 := Lib.hid (HK3.out.far hg5 (fun e => HNE.out g3 e.symm rfl))
              have HO5 := Lib.hid ho5
              clear ho5 ha5
              show Kr _ _
              refine hKr.out _ _ ?_ (fun _ => ?_)
              · exact Below.grown hS hg5 hS.size (fun k e => (HOC.out.lt k e).1)
              clear hKr Kr
              replace hS : Since w2 w5 := Below.grown hS hg5 hS.size (fun k e => (HOC.out.lt k e).1)
              clear HOC HAT hg5
              try clear HNE
              obtain ⟨A8, c8, hv8⟩ := own_slice re_oko HO5.out (n := n + 1) (by rw [List.length_append, List.length_singleton]; have := HLN.out; omega)
              subst hv8
              try simp only [Act.put, List.setIfInBounds_toArray, List.set_cons_zero, List.set_cons_succ]
              refine wpAnyH_take (i := 6) (oi := ⟨some 31, _, _, _, _, _⟩) (v := ?_) rfl (by kernel_rfl) (by kernel_rfl) (by kernel_rfl) (fun _ _ _ h => h) (Or.inl ⟨by rfl, ?_⟩) hS ?_
              rotate_left
              · intro W hW; go_simp; with_reducible rfl
              try simp only [Act.put, List.setIfInBounds_toArray, List.set_cons_zero, List.set_cons_succ]
              refine wpAnyH_ready (rs := [7]) (by kernel_rfl) (by simp) ?_
              refine AllReadyH.cons (o := ⟨some 11, _, _, _, _, _⟩) rfl (fun Kr hKr => ?_) AllReadyH.nil
              -- operation 7: a step
              refine wp_alloc_bk 32 rfl #[.slice none 0 0] (by kernel_rfl) ?_
              intro wK g3 hk3 hbK hgK
              have HK3 := Lib.hid (show Bk wK g3 (liC none 0 0) 32 from hk3)
              have HG3 := Lib.hid (Nat.le_trans hS.size hgK)
              try have HNE5 := Lib.hid (fun k (e : (Value.slice A8 (n + 1) c8).ownBlock = some k) => (show k ≠ g3 from by have h1 := (HO5.out.lt k e).2; omega))
              try have HNE := Lib.hid (fun k (e : vc.ownBlock = some k) => (show k ≠ g3 from by have h1 := (HOC.out.lt k e).2; omega))
              try replace HO5 := Lib.hid (HO5.out.below hbK)
              try replace HOC := Lib.hid (HOC.out.below hbK)
              try replace HAT := Lib.hid (HAT.out.below hbK)
              clear hgK hk3
              show Kr _ _
              refine hKr.out _ _ ?_ (fun _ => ?_)
              · exact since_trans hS hbK
              clear hKr Kr
              replace hS : Since w2 wK := since_trans hS hbK
              try simp only [Act.put, List.setIfInBounds_toArray, List.set_cons_zero, List.set_cons_succ]
              refine wpAnyH_ready (rs := [8]) (by kernel_rfl) (by simp) ?_
              refine AllReadyH.cons (o := ⟨none, _, _, _, _, _⟩) rfl (fun Kr hKr => ?_) AllReadyH.nil
              -- operation 8: a step
              refine wp_store_bk 32 (.tmp 11) (.tmp 31) rfl g3 (liC A8 (n + 1) c8) rfl rfl 32 _ HK3.out (by kernel_rfl) rfl (by simp [Value.oneCell']) ?_
              intro wS hkS hgS
              have hT : Turn (fun q => q = g3) _ wS := (Turn.refl _ _).grown hgS (fun q e => .inl (by injection e with e; exact e.symm))
              have HOS := Lib.hid (HO5.out.turn hT (fun k e h => HNE5.out k e h))
              have HKS := Lib.hid (show Bk wS g3 (liC A8 (n + 1) c8) 32 from hkS)
              clear hT hkS
              show Kr _ _
              refine hKr.out _ _ ?_ (fun _ => ?_)
              · exact Below.grown hS hgS hS.size (fun q e => by injection e with e; have := HG3.out; omega)
              clear hKr Kr
              replace hS : Since w2 wS := Below.grown hS hgS hS.size (fun q e => by injection e with e; have := HG3.out; omega)
              try simp only [Act.put, List.setIfInBounds_toArray, List.set_cons_zero, List.set_cons_succ]
              refine wpAnyH_done (by kernel_rfl) ?_ _
              have HSS2 := Lib.hid hS
              clear hS
              go_wp2_with fail
              go_meet
              case rel => exact ⟨g3, A8, c8, rfl, HKS, HOS, HSS2⟩
            · skip
              -- operation 7: a step
              refine wp_alloc_bk 32 rfl #[.slice none 0 0] (by kernel_rfl) ?_
              intro wK g3 hk3 hbK hgK
              have HK3 := Lib.hid (show Bk wK g3 (liC none 0 0) 32 from hk3)
              have HG3 := Lib.hid (Nat.le_trans hS.size hgK)
              try have HNE5 := Lib.hid (fun k (e : (Value.slice A8 (n + 1) c8).ownBlock = some k) => (show k ≠ g3 from by have h1 := (HO5.out.lt k e).2; omega))
              try have HNE := Lib.hid (fun k (e : vc.ownBlock = some k) => (show k ≠ g3 from by have h1 := (HOC.out.lt k e).2; omega))
              try replace HO5 := Lib.hid (HO5.out.below hbK)
              try replace HOC := Lib.hid (HOC.out.below hbK)
              try replace HAT := Lib.hid (HAT.out.below hbK)
              clear hgK hk3
              show Kr _ _
              refine hKr.out _ _ ?_ (fun _ => ?_)
              · exact since_trans hS hbK
              clear hKr Kr
              replace hS : Since w2 wK := since_trans hS hbK
              try simp only [Act.put, List.setIfInBounds_toArray, List.set_cons_zero, List.set_cons_succ]
              refine wpAnyH_ready (rs := [5]) (by kernel_rfl) (by simp) ?_
              refine AllReadyH.cons (o := ⟨some 30, _, _, _, _, _⟩) rfl (fun Kr hKr => ?_) AllReadyH.nil
              -- operation 5: a step
              refine Rk.wp_append re_oko (.tmp 27) (.tmp 29) rfl w2.heap.size vc l [⟨t, c, b, false⟩] rfl HOC.out _ 1 1 rfl HAT.out rfl (.inr ⟨_, _, rfl⟩) (by have := HLN.out; rw [List.length_singleton]; omega) hS.size ?_
              intro v5 w5 ho5 hg5 ha5
              try have HNE5 := Lib.hid (fun k (e : v5.ownBlock = some k) => (show k ≠ g3 from by rcases ha5 with h | h; exact HNE.out k (by rw [← h]; exact e); (rw [h] at e; injection e with e; have := HK3.out.lt; omega)))
              try replace HK3 := Lib.hid (HK3.out.far hg5 (fun e => HNE.out g3 e.symm rfl))
              have HO5 := Lib.hid ho5
              clear ho5 ha5
              show Kr _ _
              refine hKr.out _ _ ?_ (fun _ => ?_)
              · exact Below.grown hS hg5 hS.size (fun k e => (HOC.out.lt k e).1)
              clear hKr Kr
              replace hS : Since w2 w5 := Below.grown hS hg5 hS.size (fun k e => (HOC.out.lt k e).1)
              clear HOC HAT hg5
              try clear HNE
              obtain ⟨A8, c8, hv8⟩ := own_slice re_oko HO5.out (n := n + 1) (by rw [List.length_append, List.length_singleton]; have := HLN.out; omega)
              subst hv8
              try simp only [Act.put, List.setIfInBounds_toArray, List.set_cons_zero, List.set_cons_succ]
              refine wpAnyH_take (i := 6) (oi := ⟨some 31, _, _, _, _, _⟩) (v := ?_) rfl (by kernel_rfl) (by kernel_rfl) (by kernel_rfl) (fun _ _ _ h => h) (Or.inl ⟨by rfl, ?_⟩) hS ?_
              rotate_left
              · intro W hW; go_simp; with_reducible rfl
              try simp only [Act.put, List.setIfInBounds_toArray, List.set_cons_zero, List.set_cons_succ]
              refine wpAnyH_ready (rs := [8]) (by kernel_rfl) (by simp) ?_
              refine AllReadyH.cons (o := ⟨none, _, _, _, _, _⟩) rfl (fun Kr hKr => ?_) AllReadyH.nil
              -- operation 8: a step
              refine wp_store_bk 32 (.tmp 11) (.tmp 31) rfl g3 (liC A8 (n + 1) c8) rfl rfl 32 _ HK3.out (by kernel_rfl) rfl (by simp [Value.oneCell']) ?_
              intro wS hkS hgS
              have hT : Turn (fun q => q = g3) _ wS := (Turn.refl _ _).grown hgS (fun q e => .inl (by injection e with e; exact e.symm))
              have HOS := Lib.hid (HO5.out.turn hT (fun k e h => HNE5.out k e h))
              have HKS := Lib.hid (show Bk wS g3 (liC A8 (n + 1) c8) 32 from hkS)
              clear hT hkS
              show Kr _ _
              refine hKr.out _ _ ?_ (fun _ => ?_)
              · exact Below.grown hS hgS hS.size (fun q e => by injection e with e; have := HG3.out; omega)
              clear hKr Kr
              replace hS : Since w2 wS := Below.grown hS hgS hS.size (fun q e => by injection e with e; have := HG3.out; omega)
              try simp only [Act.put, List.setIfInBounds_toArray, List.set_cons_zero, List.set_cons_succ]
              refine wpAnyH_done (by kernel_rfl) ?_ _
              have HSS2 := Lib.hid hS
              clear hS
              go_wp2_with fail
              go_meet
              case rel => exact ⟨g3, A8, c8, rfl, HKS, HOS, HSS2⟩
          · skip
            -- operation 7: a step
            refine wp_alloc_bk 32 rfl #[.slice none 0 0] (by kernel_rfl) ?_
            intro wK g3 hk3 hbK hgK
            have HK3 := Lib.hid (show Bk wK g3 (liC none 0 0) 32 from hk3)
            have HG3 := Lib.hid (Nat.le_trans hS.size hgK)
            try have HNE5 := Lib.hid (fun k (e : (Value.slice A8 (n + 1) c8).ownBlock = some k) => (show k ≠ g3 from by have h1 := (HO5.out.lt k e).2; omega))
            try have HNE := Lib.hid (fun k (e : vc.ownBlock = some k) => (show k ≠ g3 from by have h1 := (HOC.out.lt k e).2; omega))
            try replace HO5 := Lib.hid (HO5.out.below hbK)
            try replace HOC := Lib.hid (HOC.out.below hbK)
            try replace HAT := Lib.hid (HAT.out.below hbK)
            clear hgK hk3
            show Kr _ _
            refine hKr.out _ _ ?_ (fun _ => ?_)
            · exact since_trans hS hbK
            clear hKr Kr
            replace hS : Since w2 wK := since_trans hS hbK
            try simp only [Act.put, List.setIfInBounds_toArray, List.set_cons_zero, List.set_cons_succ]
            refine wpAnyH_ready (rs := [2]) (by kernel_rfl) (by simp) ?_
            refine AllReadyH.cons (o := ⟨some 27, _, _, _, _, _⟩) rfl (fun Kr hKr => ?_) AllReadyH.nil
            -- operation 2: a call
            go_simp
            refine (HCL.out _ hS).mono ?_
            rintro r wc ⟨vc, rfl, hoc, hbc⟩
            have HOC := Lib.hid (hoc.le hS.size)
            try have HNE := Lib.hid (fun k (e : vc.ownBlock = some k) => (show k ≠ g3 from by have h1 := (hoc.lt k e).1; have h2 := HK3.out.lt; omega))
            try replace HK3 := Lib.hid (HK3.out.below hbc)
            try replace HAT := Lib.hid (HAT.out.below hbc)
            clear hoc
            show Kr _ _
            refine hKr.out _ _ ?_ (fun _ => ?_)
            · exact since_trans hS hbc
            clear hKr Kr
            replace hS : Since w2 wc := since_trans hS hbc
            try simp only [Act.put, List.setIfInBounds_toArray, List.set_cons_zero, List.set_cons_succ]
            refine wpAnyH_ready (rs := [5]) (by kernel_rfl) (by simp) ?_
            refine AllReadyH.cons (o := ⟨some 30, _, _, _, _, _⟩) rfl (fun Kr hKr => ?_) AllReadyH.nil
            -- operation 5: a step
            refine Rk.wp_append re_oko (.tmp 27) (.tmp 29) rfl w2.heap.size vc l [⟨t, c, b, false⟩] rfl HOC.out _ 1 1 rfl HAT.out rfl (.inr ⟨_, _, rfl⟩) (by have := HLN.out; rw [List.length_singleton]; omega) hS.size ?_
            intro v5 w5 ho5 hg5 ha5
            try have HNE5 := Lib.hid (fun k (e : v5.ownBlock = some k) => (show k ≠ g3 from by rcases ha5 with h | h; exact HNE.out k (by rw [← h]; exact e); (rw [h] at e; injection e with e; have := HK3.out.lt; omega)))
            try replace HK3 := Lib.hid (HK3.out.far hg5 (fun e => HNE.out g3 e.symm rfl))
            have HO5 := Lib.hid ho5
            clear ho5 ha5
            show Kr _ _
            refine hKr.out _ _ ?_ (fun _ => ?_)
            · exact Below.grown hS hg5 hS.size (fun k e => (HOC.out.lt k e).1)
            clear hKr Kr
            replace hS : Since w2 w5 := Below.grown hS hg5 hS.size (fun k e => (HOC.out.lt k e).1)
            clear HOC HAT hg5
            try clear HNE
            obtain ⟨A8, c8, hv8⟩ := own_slice re_oko HO5.out (n := n + 1) (by rw [List.length_append, List.length_singleton]; have := HLN.out; omega)
            subst hv8
            try simp only [Act.put, List.setIfInBounds_toArray, List.set_cons_zero, List.set_cons_succ]
            refine wpAnyH_take (i := 6) (oi := ⟨some 31, _, _, _, _, _⟩) (v := ?_) rfl (by kernel_rfl) (by kernel_rfl) (by kernel_rfl) (fun _ _ _ h => h) (Or.inl ⟨by rfl, ?_⟩) hS ?_
            rotate_left
            · intro W hW; go_simp; with_reducible rfl
            try simp only [Act.put, List.setIfInBounds_toArray, List.set_cons_zero, List.set_cons_succ]
            refine wpAnyH_ready (rs := [8]) (by kernel_rfl) (by simp) ?_
            refine AllReadyH.cons (o := ⟨none, _, _, _, _, _⟩) rfl (fun Kr hKr => ?_) AllReadyH.nil
            -- operation 8: a step
            refine wp_store_bk 32 (.tmp 11) (.tmp 31) rfl g3 (liC A8 (n + 1) c8) rfl rfl 32 _ HK3.out (by kernel_rfl) rfl (by simp [Value.oneCell']) ?_
            intro wS hkS hgS
            have hT : Turn (fun q => q = g3) _ wS := (Turn.refl _ _).grown hgS (fun q e => .inl (by injection e with e; exact e.symm))
            have HOS := Lib.hid (HO5.out.turn hT (fun k e h => HNE5.out k e h))
            have HKS := Lib.hid (show Bk wS g3 (liC A8 (n + 1) c8) 32 from hkS)
            clear hT hkS
            show Kr _ _
            refine hKr.out _ _ ?_ (fun _ => ?_)
            · exact Below.grown hS hgS hS.size (fun q e => by injection e with e; have := HG3.out; omega)
            clear hKr Kr
            replace hS : Since w2 wS := Below.grown hS hgS hS.size (fun q e => by injection e with e; have := HG3.out; omega)
            try simp only [Act.put, List.setIfInBounds_toArray, List.set_cons_zero, List.set_cons_succ]
            refine wpAnyH_done (by kernel_rfl) ?_ _
            have HSS2 := Lib.hid hS
            clear hS
            go_wp2_with fail
            go_meet
            case rel => exact ⟨g3, A8, c8, rfl, HKS, HOS, HSS2⟩
        · skip
          -- operation 7: a step
          refine wp_alloc_bk 32 rfl #[.slice none 0 0] (by kernel_rfl) ?_
          intro wK g3 hk3 hbK hgK
          have HK3 := Lib.hid (show Bk wK g3 (liC none 0 0) 32 from hk3)
          have HG3 := Lib.hid (Nat.le_trans hS.size hgK)
          try have HNE5 := Lib.hid (fun k (e : (Value.slice A8 (n + 1) c8).ownBlock = some k) => (show k ≠ g3 from by have h1 := (HO5.out.lt k e).2; omega))
          try have HNE := Lib.hid (fun k (e : vc.ownBlock = some k) => (show k ≠ g3 from by have h1 := (HOC.out.lt k e).2; omega))
          try replace HO5 := Lib.hid (HO5.out.below hbK)
          try replace HOC := Lib.hid (HOC.out.below hbK)
          try replace HAT := Lib.hid (HAT.out.below hbK)
          clear hgK hk3
          show Kr _ _
          refine hKr.out _ _ ?_ (fun _ => ?_)
          · exact since_trans hS hbK
          clear hKr Kr
          replace hS : Since w2 wK := since_trans hS hbK
          try simp only [Act.put, List.setIfInBounds_toArray, List.set_cons_zero, List.set_cons_succ]
          refine wpAnyH_ready (rs := [2, 4]) (by kernel_rfl) (by simp) ?_
          refine AllReadyH.cons (o := ⟨some 27, _, _, _, _, _⟩) rfl (fun Kr hKr => ?_) (AllReadyH.cons (o := ⟨some 29, _, _, _, _, _⟩) rfl (fun Kr hKr => ?_) AllReadyH.nil)
          · skip
            -- operation 2: a call
            go_simp
            refine (HCL.out _ hS).mono ?_
            rintro r wc ⟨vc, rfl, hoc, hbc⟩
            have HOC := Lib.hid (hoc.le hS.size)
            try have HNE := Lib.hid (fun k (e : vc.ownBlock = some k) => (show k ≠ g3 from by have h1 := (hoc.lt k e).1; have h2 := HK3.out.lt; omega))
            try replace HK3 := Lib.hid (HK3.out.below hbc)
            try replace HAT := Lib.hid (HAT.out.below hbc)
            clear hoc
            show Kr _ _
            refine hKr.out _ _ ?_ (fun _ => ?_)
            · exact since_trans hS hbc
            clear hKr Kr
            replace hS : Since w2 wc := since_trans hS hbc
            try simp only [Act.put, List.setIfInBounds_toArray, List.set_cons_zero, List.set_cons_succ]
            refine wpAnyH_ready (rs := [4]) (by kernel_rfl) (by simp) ?_
            refine AllReadyH.cons (o := ⟨some 29, _, _, _, _, _⟩) rfl (fun Kr hKr => ?_) AllReadyH.nil
            -- operation 4: a step
            refine wp_build_en (e := ⟨t, c, b, false⟩) (.tmp 28) rfl rfl ?_
            intro wB gB hgB hatB hbB
            have HAT := Lib.hid hatB
            try replace HOC := Lib.hid (HOC.out.below hbB)
            try replace HK3 := Lib.hid (HK3.out.below hbB)
            clear hgB hatB
            show Kr _ _
            refine hKr.out _ _ ?_ (fun _ => ?_)
            · exact since_trans hS hbB
            clear hKr Kr
            replace hS : Since w2 wB := since_trans hS hbB
            try simp only [Act.put, List.setIfInBounds_toArray, List.set_cons_zero, List.set_cons_succ]
            refine wpAnyH_ready (rs := [5]) (by kernel_rfl) (by simp) ?_
            refine AllReadyH.cons (o := ⟨some 30, _, _, _, _, _⟩) rfl (fun Kr hKr => ?_) AllReadyH.nil
            -- operation 5: a step
            refine Rk.wp_append re_oko (.tmp 27) (.tmp 29) rfl w2.heap.size vc l [⟨t, c, b, false⟩] rfl HOC.out _ 1 1 rfl HAT.out rfl (.inr ⟨_, _, rfl⟩) (by have := HLN.out; rw [List.length_singleton]; omega) hS.size ?_
            intro v5 w5 ho5 hg5 ha5
            try have HNE5 := Lib.hid (fun k (e : v5.ownBlock = some k) => (show k ≠ g3 from by rcases ha5 with h | h; exact HNE.out k (by rw [← h]; exact e); (rw [h] at e; injection e with e; have := HK3.out.lt; omega)))
            try replace HK3 := Lib.hid (HK3.out.far hg5 (fun e => HNE.out g3 e.symm rfl))
            have HO5 := Lib.hid ho5
            clear ho5 ha5
            show Kr _ _
            refine hKr.out _ _ ?_ (fun _ => ?_)
            · exact Below.grown hS hg5 hS.size (fun k e => (HOC.out.lt k e).1)
            clear hKr Kr
            replace hS : Since w2 w5 := Below.grown hS hg5 hS.size (fun k e => (HOC.out.lt k e).1)
            clear HOC HAT hg5
            try clear HNE
            obtain ⟨A8, c8, hv8⟩ := own_slice re_oko HO5.out (n := n + 1) (by rw [List.length_append, List.length_singleton]; have := HLN.out; omega)
            subst hv8
            try simp only [Act.put, List.setIfInBounds_toArray, List.set_cons_zero, List.set_cons_succ]
            refine wpAnyH_take (i := 6) (oi := ⟨some 31, _, _, _, _, _⟩) (v := ?_) rfl (by kernel_rfl) (by kernel_rfl) (by kernel_rfl) (fun _ _ _ h => h) (Or.inl ⟨by rfl, ?_⟩) hS ?_
            rotate_left
            · intro W hW; go_simp; with_reducible rfl
            try simp only [Act.put, List.setIfInBounds_toArray, List.set_cons_zero, List.set_cons_succ]
            refine wpAnyH_ready (rs := [8]) (by kernel_rfl) (by simp) ?_
            refine AllReadyH.cons (o := ⟨none, _, _, _, _, _⟩) rfl (fun Kr hKr => ?_) AllReadyH.nil
            -- operation 8: a step
            refine wp_store_bk 32 (.tmp 11) (.tmp 31) rfl g3 (liC A8 (n + 1) c8) rfl rfl 32 _ HK3.out (by kernel_rfl) rfl (by simp [Value.oneCell']) ?_
            intro wS hkS hgS
            have hT : Turn (fun q => q = g3) _ wS := (Turn.refl _ _).grown hgS (fun q e => .inl (by injection e with e; exact e.symm))
            have HOS := Lib.hid (HO5.out.turn hT (fun k e h => HNE5.out k e h))
            have HKS := Lib.hid (show Bk wS g3 (liC A8 (n + 1) c8) 32 from hkS)
            clear hT hkS
            show Kr _ _
            refine hKr.out _ _ ?_ (fun _ => ?_)
            · exact Below.grown hS hgS hS.size (fun q e => by injection e with e; have := HG3.out; omega)
            clear hKr Kr
            replace hS : Since w2 wS := Below.grown hS hgS hS.size (fun q e => by injection e with e; have := HG3.out; omega)
            try simp only [Act.put, List.setIfInBounds_toArray, List.set_cons_zero, List.set_cons_succ]
            refine wpAnyH_done (by kernel_rfl) ?_ _
            have HSS2 := Lib.hid hS
            clear hS
            go_wp2_with fail
            go_meet
            case rel => exact ⟨g3, A8, c8, rfl, HKS, HOS, HSS2⟩
          · skip
            -- operation 4: a step
            refine wp_build_en (e := ⟨t, c, b, false⟩) (.tmp 28) rfl rfl ?_
            intro wB gB hgB hatB hbB
            have HAT := Lib.hid hatB
            try replace HOC := Lib.hid (HOC.out.below hbB)
            try replace HK3 := Lib.hid (HK3.out.below hbB)
            clear hgB hatB
            show Kr _ _
            refine hKr.out _ _ ?_ (fun _ => ?_)
            · exact since_trans hS hbB
            clear hKr Kr
            replace hS : Since w2 wB := since_trans hS hbB
            try simp only [Act.put, List.setIfInBounds_toArray, List.set_cons_zero, List.set_cons_succ]
            refine wpAnyH_ready (rs := [2]) (by kernel_rfl) (by simp) ?_
            refine AllReadyH.cons (o := ⟨some 27, _, _, _, _, _⟩) rfl (fun Kr hKr => ?_) AllReadyH.nil
            -- operation 2: a call
            go_simp
            refine (HCL.out _ hS).mono ?_
            rintro r wc ⟨vc, rfl, hoc, hbc⟩
            have HOC := Lib.hid (hoc.le hS.size)
            try have HNE := Lib.hid (fun k (e : vc.ownBlock = some k) => (show k ≠ g3 from by have h1 := (hoc.lt k e).1; have h2 := HK3.out.lt; omega))
            try replace HK3 := Lib.hid (HK3.out.below hbc)
            try replace HAT := Lib.hid (HAT.out.below hbc)
            clear hoc
            show Kr _ _
            refine hKr.out _ _ ?_ (fun _ => ?_)
            · exact since_trans hS hbc
            clear hKr Kr
            replace hS : Since w2 wc := since_trans hS hbc
            try simp only [Act.put, List.setIfInBounds_toArray, List.set_cons_zero, List.set_cons_succ]
            refine wpAnyH_ready (rs := [5]) (by kernel_rfl) (by simp) ?_
            refine AllReadyH.cons (o := ⟨some 30, _, _, _, _, _⟩) rfl (fun Kr hKr => ?_) AllReadyH.nil
            -- operation 5: a step
            refine Rk.wp_append re_oko (.tmp 27) (.tmp 29) rfl w2.heap.size vc l [⟨t, c, b, false⟩] rfl HOC.out _ 1 1 rfl HAT.out rfl (.inr ⟨_, _, rfl⟩) (by have := HLN.out; rw [List.length_singleton]; omega) hS.size ?_
            intro v5 w5 ho5 hg5 ha5
            try have HNE5 := Lib.hid (fun k (e : v5.ownBlock = some k) => (show k ≠ g3 from by rcases ha5 with h | h; exact HNE.out k (by rw [← h]; exact e); (rw [h] at e; injection e with e; have := HK3.out.lt; omega)))
            try replace HK3 := Lib.hid (HK3.out.far hg5 (fun e => HNE.out g3 e.symm rfl))
            have HO5 := Lib.hid ho5
            clear ho5 ha5
            show Kr _ _
            refine hKr.out _ _ ?_ (fun _ => ?_)
            · exact Below.grown hS hg5 hS.size (fun k e => (HOC.out.lt k e).1)
            clear hKr Kr
            replace hS : Since w2 w5 := Below.grown hS hg5 hS.size (fun k e => (HOC.out.lt k e).1)
            clear HOC HAT hg5
            try clear HNE
            obtain ⟨A8, c8, hv8⟩ := own_slice re_oko HO5.out (n := n + 1) (by rw [List.length_append, List.length_singleton]; have := HLN.out; omega)
            subst hv8
            try simp only [Act.put, List.setIfInBounds_toArray, List.set_cons_zero, List.set_cons_succ]
            refine wpAnyH_take (i := 6) (oi := ⟨some 31, _, _, _, _, _⟩) (v := ?_) rfl (by kernel_rfl) (by kernel_rfl) (by kernel_rfl) (fun _ _ _ h => h) (Or.inl ⟨by rfl, ?_⟩) hS ?_
            rotate_left
            · intro W hW; go_simp; with_reducible rfl
            try simp only [Act.put, List.setIfInBounds_toArray, List.set_cons_zero, List.set_cons_succ]
            refine wpAnyH_ready (rs := [8]) (by kernel_rfl) (by simp) ?_
            refine AllReadyH.cons (o := ⟨none, _, _, _, _, _⟩) rfl (fun Kr hKr => ?_) AllReadyH.nil
            -- operation 8: a step
            refine wp_store_bk 32 (.tmp 11) (.tmp 31) rfl g3 (liC A8 (n + 1) c8) rfl rfl 32 _ HK3.out (by kernel_rfl) rfl (by simp [Value.oneCell']) ?_
            intro wS hkS hgS
            have hT : Turn (fun q => q = g3) _ wS := (Turn.refl _ _).grown hgS (fun q e => .inl (by injection e with e; exact e.symm))
            have HOS := Lib.hid (HO5.out.turn hT (fun k e h => HNE5.out k e h))
            have HKS := Lib.hid (show Bk wS g3 (liC A8 (n + 1) c8) 32 from hkS)
            clear hT hkS
            show Kr _ _
            refine hKr.out _ _ ?_ (fun _ => ?_)
            · exact Below.grown hS hgS hS.size (fun q e => by injection e with e; have := HG3.out; omega)
            clear hKr Kr
            replace hS : Since w2 wS := Below.grown hS hgS hS.size (fun q e => by injection e with e; have := HG3.out; omega)
            try simp only [Act.put, List.setIfInBounds_toArray, List.set_cons_zero, List.set_cons_succ]
            refine wpAnyH_done (by kernel_rfl) ?_ _
            have HSS2 := Lib.hid hS
            clear hS
            go_wp2_with fail
            go_meet
            case rel => exact ⟨g3, A8, c8, rfl, HKS, HOS, HSS2⟩
      case rest =>
        obtain ⟨g3, A8, c8, rfl, HKS, HOS, HSS2⟩ := hcut
        obtain ⟨w8, hw8⟩ : ∃ w8, w8 = wc := ⟨_, rfl⟩
        subst hw8
        have HZ8 := Lib.hid (HZ.out.below HSS2.out)
        have HB8 := Lib.hid (HB.out.trans (Below.mono HSS2.out HB.out.size))
        have HZL := Lib.hid HZ.out.lt
        have hok8 : ∀ e ∈ l ++ [newE t c b], e.Ok := fun e he => by
          rcases List.mem_append.mp he with he | he
          · exact HL.out.ok e he
          · simp at he; rw [he]; exact HOKE.out
        have HE8 := Lib.hid (own_es re_oko HOS.out hok8)
        have HOF := Lib.hid (fun g o (e : A8 = some ⟨g, o, none⟩) => show w2.heap.size ≤ g from by have h := (HOS.out.lt g (by rw [e]; rfl)).1; exact h)
        have HSP8 := Lib.hid (show Sp A8 ∧ n + 1 ≤ c8 from by
          obtain ⟨A9, c9, e, hle, _, h⟩ := HOS.out.form re_oko
          injection e with e1 e2 e3
          subst e1; subst e3
          exact ⟨by rcases h with h | ⟨g, h, _⟩; exact .inl h; exact .inr ⟨g, 0, h⟩, by rw [List.length_append, List.length_singleton, HLN.out] at hle; exact hle⟩)
        have x0 := HKS.out.c 0 _ rfl
        clear hok8 HOS HE HX HZ HB HCL e0 e1 e2 e3 HXL HEL HL2
        go_wp2_with fail
        refine (sane_any A8 (n + 1) c8 (l ++ [newE t c b]) (by omega) w8 HE8.out).mono ?_
        rintro r w9 ⟨rfl, hb⟩
        have HZ9 := Lib.hid (HZ8.out.below hb)
        have HK9 := Lib.hid (HKS.out.below hb)
        have HB9 := Lib.hid (HB8.out.trans (hb.mono HB8.out.size))
        have HE9 := Lib.hid (HE8.out.below hb)
        clear hb x0
        have x0 := HK9.out.c 0 _ rfl
        have z0 : w9.cell? ⟨w.heap.size + 1, 0, none⟩ = some (.slice none 0 0) := HZ9.out.c 0 _ rfl
        have f0 := HZ9.out.fr 0
        have HEN := Lib.hid (fun v => show EsAt REo (w9.setCell ⟨w.heap.size + 1, 0, none⟩ v) A8 (n + 1) (l ++ [newE t c b]) from HE9.out.turn ((Turn.refl (fun q => q = w.heap.size + 1) w9).setCell _ _ (.inl rfl)) (fun g o e h => by have h1 := HOF.out g o e; have := HZL.out; omega))
        cases hsb : saneE (l ++ [newE t c b]) with
        | false =>
          rw [hsb] at HD2
          have HD3 := Lib.hid (show doE l (newE t c b) = ([], 13) from by rw [HD2.out]; rfl)
          clear hsb
          go_wp2_with fail
          refine bodyPost_ret (v := .tuple #[liV none 0 0, .int .i64 13]) (by rw [results_cell_tmp rfl]; go_simp) rfl ⟨HF.out _ HB9.out HZ9.out _, none, 0, 0, by rw [HD3.out], by rw [HD3.out]; exact ⟨rfl, by simp, .inl rfl⟩, by rw [HD3.out]; exact .inl rfl, Nat.le_refl _⟩
        | true =>
          rw [hsb] at HD2
          have HD3 := Lib.hid (show doE l (newE t c b) = (l ++ [newE t c b], 0) from by rw [HD2.out]; rfl)
          clear hsb
          go_wp2_with fail
          refine bodyPost_ret (v := .tuple #[liV A8 (n + 1) c8, .int .i64 0]) (by rw [results_cell_tmp rfl]; go_simp) rfl ⟨HF.out _ HB9.out HZ9.out _, A8, n + 1, c8, by rw [HD3.out], by rw [HD3.out]; exact HEN.out _, .inr HSP8.out.1, HSP8.out.2⟩
end Go.Proofs.Ytpphhhalmccnbaa
