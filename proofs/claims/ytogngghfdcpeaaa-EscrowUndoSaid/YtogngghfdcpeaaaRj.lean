/-
  One more added: the document's Add.
-/
import Derived.Test.YtogngghfdcpeaaaRi
namespace Go.Proofs.Ytogngghfdcpeaaa
set_option maxRecDepth 100000
set_option linter.unusedVariables false
set_option linter.unusedSimpArgs false
open Go.RowKit

def Tb.addE (t : Tb) (T : Tr) (x k z : Int) : Int := if t.may T x k = 0 then (if t.fits k.toNat z = true then 0 else 8) else t.may T x k
def Tb.addT (t : Tb) (T : Tr) (x k z : Int) : Tb := if t.addE T x k z = 0 then ⟨t.C, withL t.P ⟨k, x, max z 0, min z 0⟩⟩ else ⟨[], []⟩

theorem Ws.step_ok {s : Ws} {q : Pd} (h1 : ∀ p ∈ s.out, p.Ok) (h2 : s.p.Ok) (h3 : q.Ok) : (∀ p ∈ (s.step q).out, p.Ok) ∧ (s.step q).p.Ok := by
  unfold Ws.step
  split
  · exact ⟨h1, ⟨h2.c, h2.x, w64_ok _, w64_ok _⟩⟩
  · split
    · refine ⟨fun p hp => ?_, h2⟩
      simp only [List.mem_append, List.mem_singleton] at hp
      rcases hp with (hp | rfl) | rfl
      · exact h1 p hp
      · exact h2
      · exact h3
    · refine ⟨fun p hp => ?_, h2⟩
      simp only [List.mem_append, List.mem_singleton] at hp
      rcases hp with hp | rfl
      · exact h1 p hp
      · exact h3
theorem Ws.go_ok (l : List Pd) : ∀ s : Ws, (∀ p ∈ s.out, p.Ok) → s.p.Ok → (∀ p ∈ l, p.Ok) → (∀ p ∈ (l.foldl Ws.step s).out, p.Ok) ∧ (l.foldl Ws.step s).p.Ok := by
  induction l with
  | nil => intro s h1 h2 _; exact ⟨h1, h2⟩
  | cons q l ih =>
    intro s h1 h2 h3
    have h := Ws.step_ok h1 h2 (h3 q (by simp))
    exact ih (s.step q) h.1 h.2 (fun p hp => h3 p (List.mem_cons_of_mem _ hp))
theorem withL_ok {l : List Pd} {p : Pd} (hl : ∀ q ∈ l, q.Ok) (hp : p.Ok) : ∀ q ∈ withL l p, q.Ok := by
  have h := Ws.go_ok l ⟨[], false, p⟩ (by simp) hp hl
  unfold withL
  split
  · exact hl
  · split
    · exact h.1
    · intro q hq
      rcases List.mem_append.1 hq with hq | hq
      · exact h.1 q hq
      · rw [List.mem_singleton.1 hq]; exact h.2
theorem withL_len (l : List Pd) (p : Pd) : (withL l p).length ≤ 2 * l.length + 1 := by
  have h := Ws.all_len p l
  unfold withL
  split
  · omega
  · split
    · omega
    · rw [List.length_append, List.length_singleton]; omega
theorem mm_ok {z : Int} (h : okI z) : okI (max z 0) ∧ okI (min z 0) := by unfold okI at *; omega

/-- with, whatever is added -/
theorem refwith_all (A : Option Addr) (n a : Nat) (l : List Pd) (c x u d : Int) (hn : n ≤ 1000) (w : World) (hln : l.length = n) (hl : RPr.At w A l) :
    Calls Try.prog 37 #[.slice A n a, pdV c x u d] w fun e w' => ∃ A' n' a', e = .returned (.slice A' n' a') ∧ RPr.At w' A' (withL l ⟨c, x, u, d⟩) ∧ (withL l ⟨c, x, u, d⟩).length = n' ∧ ((A' = A ∧ withL l ⟨c, x, u, d⟩ = l) ∨ ∀ b o, A' = some ⟨b, o, none⟩ → w.heap.size ≤ b) ∧ Below w.heap.size w w' := by
  rcases Classical.em (u = 0 ∧ d = 0) with h | h
  · have hw : withL l ⟨c, x, u, d⟩ = l := by unfold withL; rw [if_pos h]
    obtain ⟨rfl, rfl⟩ := h
    refine (refwith_none A n a c x w).mono ?_
    rintro e w' ⟨rfl, hb⟩
    exact ⟨A, n, a, rfl, by rw [hw]; exact hl.below hb, by rw [hw]; exact hln, .inl ⟨rfl, hw⟩, hb⟩
  · refine (refwith_any A n a l c x u d h hn w hln hl).mono ?_
    rintro e w' ⟨v, rfl, ho, hb, hs⟩
    obtain ⟨A', a', e', _, ha, hb2⟩ := ho.form rp_okr
    subst e'
    refine ⟨A', _, a', rfl, ha, rfl, .inr (fun b o e => ?_), hb⟩
    rcases hb2 with h | ⟨g, h, hg, _⟩
    · rw [h] at e; cases e
    · rw [h] at e; injection e with e; injection e with e1; omega

theorem tb_none (w : World) : TbAt w none 0 none 0 ⟨[], []⟩ := ⟨rfl, rfl, by simp, by simp, .inl rfl, .inl rfl⟩
set_option maxHeartbeats 2000000 in
theorem refadd_any (A B : Option Addr) (n a m b : Nat) (t : Tb) (D : Option Addr) (N d : Nat) (c : Int) (T : Tr) (x k z : Int) (hx : okI x) (hk : okI k) (hz : okI z) (hnn : n ≤ 1000) (hm : m ≤ 1000) (hsp : t.C = [] ∨ Sp A) (w : World) (ht : TbAt w A n B m t) (hr : TrAt w D N T) :
    Calls Try.prog 10 #[tbV A n a B m b, trV D N d c, .int .i64 x, .int .i64 k, .int .i64 z] w fun e w' => ∃ A' n' a' B' m' b', e = .returned (.tuple #[tbV A' n' a' B' m' b', .int .i64 (t.addE T x k z)]) ∧ TbAt w' A' n' B' m' (t.addT T x k z) ∧ Below w.heap.size w w' := by
  have HT := Lib.hid ht
  have HR := Lib.hid hr
  have HSP := Lib.hid hsp
  have HOZ := Lib.hid hz
  have HOX := Lib.hid hx
  have HOK := Lib.hid hk
  have HX := Lib.hid (((Bk.new w (tbC A n a B m b) 25).al (.cells (trC D N d c) 28)).al (.cells #[.slice none 0 0, .slice none 0 0] 25))
  have HY := Bk.new (w.alloc (.cells (tbC A n a B m b) 25)) (trC D N d c) 28
  rw [size_al] at HY
  have HY := Lib.hid (HY.al (.cells #[.slice none 0 0, .slice none 0 0] 25))
  have HZ := Bk.new ((w.alloc (.cells (tbC A n a B m b) 25)).alloc (.cells (trC D N d c) 28)) #[.slice none 0 0, .slice none 0 0] 25
  rw [size_al, size_al] at HZ
  have HZ := Lib.hid HZ
  have HB := Lib.hid (below_two (below_two (below_new w (.cells (tbC A n a B m b) 25)) (below_new _ (.cells (trC D N d c) 28))) (below_new _ (.cells #[.slice none 0 0, .slice none 0 0] 25)))
  have hmy := fun V hV => refmay_any A B n a m b t D N d c T x k hm V (HT.out.below hV) (HR.out.below hV)
  have HSE : Hid (t.addE T x k z = if t.may T x k = 0 then (if t.fits k.toNat z = true then 0 else 8) else t.may T x k) := rfl
  have HST : Hid (t.addT T x k z = if t.addE T x k z = 0 then ⟨t.C, withL t.P ⟨k, x, max z 0, min z 0⟩⟩ else ⟨[], []⟩) := rfl
  have HMZ := Lib.hid (fun h => may_zero (t := t) (T := T) (x := x) (k := k) h)
  clear ht hr hz hx hk hsp
  generalize t.addT T x k z = st at *
  generalize t.addE T x k z = se at *
  generalize hmm : t.may T x k = mm at *
  clear hmm
  rcases Classical.em (mm = 0) with h0 | h0
  · subst h0
    obtain ⟨_, ⟨hk0, hk1⟩, _, _⟩ := HMZ.out rfl
    obtain ⟨kn, rfl⟩ : ∃ kn : Nat, k = kn := ⟨k.toNat, by omega⟩
    have hkn : kn < n := by rw [HT.out.cl] at hk1; omega
    rw [Int.toNat_natCast, if_pos rfl] at HSE
    have hfi := fun V hV => reftfits_any A B n a m b t kn z hkn hm HOZ.out V (HT.out.below hV)
    clear hk0 hk1 HMZ
    go_enter Try.func10, Try.ntmps10
    go_wp2_with fail
    refine (hmy _ HB.out).mono ?_
    rintro e w1 ⟨rfl, hb⟩
    replace HX := Lib.hid (HX.out.below hb)
    replace HZ := Lib.hid (HZ.out.below hb)
    replace HB := Lib.hid (HB.out.trans (hb.mono HB.out.size))
    clear hb hmy
    have x0 := HX.out.t0
    have x1 := HX.out.t1
    go_wp2_with fail
    refine (hfi _ HB.out).mono ?_
    rintro e w4 ⟨rfl, hb⟩
    replace HX := Lib.hid (HX.out.below hb)
    replace HZ := Lib.hid (HZ.out.below hb)
    replace HB := Lib.hid (HB.out.trans (hb.mono HB.out.size))
    clear hb hfi x0 x1
    generalize t.fits kn z = fb at *
    cases fb with
    | false =>
      rw [if_neg (by decide)] at HSE
      rw [HSE.out, if_neg (by decide)] at HST
      have z0 : w4.cell? ⟨w.heap.size + 1 + 1, 0, none⟩ = some (.slice none 0 0) := HZ.out.c 0 _ rfl
      have z1 : w4.cell? ⟨w.heap.size + 1 + 1, 1, none⟩ = some (.slice none 0 0) := HZ.out.c 1 _ rfl
      have f0 := HZ.out.fr 0
      have f1 := HZ.out.fr 1
      go_wp2_with fail
      refine bodyPost_ret (v := .tuple #[tbV none 0 0 none 0 0, .int .i64 8]) (by rw [results_cell_tmp rfl]; go_simp) rfl ⟨none, 0, 0, none, 0, 0, by rw [HSE.out], by rw [HST.out]; exact tb_none _, (HB.out.setCell (show w.heap.size ≤ w.heap.size + 1 + 1 from by omega) _).setCell (show w.heap.size ≤ w.heap.size + 1 + 1 from by omega) _⟩
    | true =>
      rw [if_pos rfl] at HSE
      rw [HSE.out, if_pos rfl] at HST
      have HBL := Lib.hid (HB.out.size)
      go_upto_region 6 with fail
      have X0 : ∀ V, Turn (fun q => q = w.heap.size + 1 + 1) w4 V → V.cell? ⟨w.heap.size, 0, none⟩ = some (.slice A n a) := fun V hV => (HX.out.turn hV (by omega)).t0
      have X1 : ∀ V, Turn (fun q => q = w.heap.size + 1 + 1) w4 V → V.cell? ⟨w.heap.size, 1, none⟩ = some (.slice B m b) := fun V hV => (HX.out.turn hV (by omega)).t1
      have HT4 := Lib.hid (HT.out.below HB.out)
      have hwi := fun V (hV : Below w4.heap.size w4 V) => refwith_all B m b t.P (kn : Int) x (max z 0) (min z 0) hm V HT4.out.pl (HT4.out.below hV).atP
      refine wp_region_turn (X := (fun q => q = w.heap.size + 1 + 1)) (by kernel_rfl) ?_
      have hS : Turn (fun q => q = w.heap.size + 1 + 1) w4 (World.drew w4) := (Turn.refl _ _).drew
      refine wpAnyH_take (i := 1) (oi := ⟨some 29, _, _, _, _, _⟩) (v := ?_) rfl (by kernel_rfl) (by kernel_rfl) (by kernel_rfl) (fun _ _ _ h => h) (Or.inl ⟨by rfl, ?_⟩) hS ?_
      rotate_left
      · intro W hW; go_simp; with_reducible rfl
      try simp only [Act.put, List.setIfInBounds_toArray, List.set_cons_zero, List.set_cons_succ]
      refine wpAnyH_take (i := 2) (oi := ⟨some 30, _, _, _, _, _⟩) (v := ?_) rfl (by kernel_rfl) (by kernel_rfl) (by kernel_rfl) (fun _ _ _ h => h) (Or.inl ⟨by rfl, ?_⟩) hS ?_
      rotate_left
      · intro W hW; go_simp; with_reducible rfl
      try simp only [Act.put, List.setIfInBounds_toArray, List.set_cons_zero, List.set_cons_succ]
      refine wpAnyH_take (i := 4) (oi := ⟨some 32, _, _, _, _, _⟩) (v := ?_) rfl (by kernel_rfl) (by kernel_rfl) (by kernel_rfl) (fun _ _ _ h => h) (Or.inl ⟨by rfl, ?_⟩) hS ?_
      rotate_left
      · intro W hW; go_simp; with_reducible rfl
      try simp only [Act.put, List.setIfInBounds_toArray, List.set_cons_zero, List.set_cons_succ]
      refine wpAnyH_take (i := 5) (oi := ⟨some 33, _, _, _, _, _⟩) (v := ?_) rfl (by kernel_rfl) (by kernel_rfl) (by kernel_rfl) (fun _ _ _ h => h) (Or.inl ⟨by rfl, ?_⟩) hS ?_
      rotate_left
      · intro W hW; go_simp; with_reducible rfl
      try simp only [Act.put, List.setIfInBounds_toArray, List.set_cons_zero, List.set_cons_succ]
      refine wpAnyH_take (i := 6) (oi := ⟨some 34, _, _, _, _, _⟩) (v := ?_) rfl (by kernel_rfl) (by kernel_rfl) (by kernel_rfl) (fun _ _ _ h => h) (Or.inl ⟨by rfl, ?_⟩) hS ?_
      rotate_left
      · intro W hW; go_simp; with_reducible rfl
      try simp only [Act.put, List.setIfInBounds_toArray, List.set_cons_zero, List.set_cons_succ]
      refine wpAnyH_take (i := 7) (oi := ⟨some 35, _, _, _, _, _⟩) (v := ?_) rfl (by kernel_rfl) (by kernel_rfl) (by kernel_rfl) (fun _ _ _ h => h) (Or.inl ⟨by rfl, ?_⟩) hS ?_
      rotate_left
      · intro W hW; go_simp; with_reducible rfl
      try simp only [Act.put, List.setIfInBounds_toArray, List.set_cons_zero, List.set_cons_succ]
      refine wpAnyH_take (i := 8) (oi := ⟨some 36, _, _, _, _, _⟩) (v := ?_) rfl (by kernel_rfl) (by kernel_rfl) (by kernel_rfl) (fun _ _ _ h => h) (Or.inl ⟨by rfl, ?_⟩) hS ?_
      rotate_left
      · intro W hW; go_simp; with_reducible rfl
      try simp only [Act.put, List.setIfInBounds_toArray, List.set_cons_zero, List.set_cons_succ]
      refine wpAnyH_take (i := 9) (oi := ⟨some 37, _, _, _, _, _⟩) (v := ?_) rfl (by kernel_rfl) (by kernel_rfl) (by kernel_rfl) (fun _ _ _ h => h) (Or.inl ⟨by rfl, ?_⟩) hS ?_
      rotate_left
      · intro W hW; go_simp; with_reducible rfl
      try simp only [Act.put, List.setIfInBounds_toArray, List.set_cons_zero, List.set_cons_succ]
      refine wpAnyH_take (i := 10) (oi := ⟨some 38, _, _, _, _, _⟩) (v := ?_) rfl (by kernel_rfl) (by kernel_rfl) (by kernel_rfl) (fun _ _ _ h => h) (Or.inl ⟨by rfl, ?_⟩) hS ?_
      rotate_left
      · intro W hW; go_simp; with_reducible rfl
      try simp only [Act.put, List.setIfInBounds_toArray, List.set_cons_zero, List.set_cons_succ]
      refine wpAnyH_take (i := 11) (oi := ⟨some 39, _, _, _, _, _⟩) (v := ?_) rfl (by kernel_rfl) (by kernel_rfl) (by kernel_rfl) (fun _ _ _ h => h) (Or.inl ⟨by rfl, ?_⟩) hS ?_
      rotate_left
      · intro W hW; go_simp; with_reducible rfl
      try simp only [Act.put, List.setIfInBounds_toArray, List.set_cons_zero, List.set_cons_succ]
      refine wpAnyH_take (i := 12) (oi := ⟨some 40, _, _, _, _, _⟩) (v := ?_) rfl (by kernel_rfl) (by kernel_rfl) (by kernel_rfl) (fun _ _ _ h => h) (Or.inl ⟨by rfl, ?_⟩) hS ?_
      rotate_left
      · intro W hW; go_simp; with_reducible rfl
      try simp only [Act.put, List.setIfInBounds_toArray, List.set_cons_zero, List.set_cons_succ]
      refine wpAnyH_ready (rs := [0]) (by kernel_rfl) (by simp) ?_
      refine AllReadyH.cons (o := ⟨some 28, _, _, _, _, _⟩) rfl (fun Kr hKr => ?_) AllReadyH.nil
      -- operation 0: a step
      try rw [if_pos (by kernel_rfl)]
      go_simp
      show Kr _ _
      refine hKr.out _ _ ?_ (fun _ => ?_)
      · exact Turn.trans hS (Turn.ofBelow (below_new _ _))
      clear hKr Kr
      replace hS : Turn (fun q => q = w.heap.size + 1 + 1) w4 ((World.drew w4).alloc (.cells #[] 72)) := Turn.trans hS (Turn.ofBelow (below_new _ _))
      try simp only [Act.put, List.setIfInBounds_toArray, List.set_cons_zero, List.set_cons_succ]
      refine wpAnyH_ready (rs := [3]) (by kernel_rfl) (by simp) ?_
      refine AllReadyH.cons (o := ⟨some 31, _, _, _, _, _⟩) rfl (fun Kr hKr => ?_) AllReadyH.nil
      -- operation 3: a step
      try rw [if_pos (by kernel_rfl)]
      refine Rk.wp_append2 rc_okr (.tmp 28) (.tmp 30) rfl w4.heap.size (.slice (some ⟨w4.heap.size, 0, none⟩) 0 0) [] t.C rfl (own_litC (World.drew w4) _ (Nat.le_refl _)) A n a rfl (HT4.out.atC.below ((below_new w4 (.cells #[] 72)).drew)) HT4.out.cl HSP.out (by rw [HT4.out.cl, List.length_nil]; omega) (by simp) ?_
      intro cv w5 hx1 hg1 ha1
      rw [List.nil_append] at hx1
      obtain ⟨A5, c5, rfl⟩ := own_slice rc_okr hx1 HT4.out.cl
      have HC5 := Lib.hid hx1
      have HG5 := Lib.hid (show Below w4.heap.size w4 w5 from Below.grown ((below_new w4 (.cells #[] 72)).drew) hg1 (by simp) (fun k e => by have e : some w4.heap.size = some k := e; injection e with e; omega))
      show Kr _ _
      refine hKr.out _ _ ?_ (fun _ => ?_)
      · exact Turn.ofBelow HG5.out
      clear hKr Kr
      replace hS : Turn (fun q => q = w.heap.size + 1 + 1) w4 w5 := Turn.ofBelow HG5.out
      try simp only [Act.put, List.setIfInBounds_toArray, List.set_cons_zero, List.set_cons_succ]
      refine wpAnyH_ready (rs := [13]) (by kernel_rfl) (by simp) ?_
      refine AllReadyH.cons (o := ⟨some 41, _, _, _, _, _⟩) rfl (fun Kr hKr => ?_) AllReadyH.nil
      -- operation 13: a call
      go_simp
      refine (hwi _ HG5.out).mono ?_
      rintro e w6 ⟨A6, n6, a6, rfl, hp6, hl6, ha6, hb6⟩
      have HP6 := Lib.hid hp6
      have HL6 := Lib.hid hl6
      have HC6 := Lib.hid (HC5.out.below hb6)
      have HG6 := Lib.hid (HG5.out.trans (hb6.mono HG5.out.size))
      have HZ6 := Lib.hid (HZ.out.below HG6.out)
      have HA6 := Lib.hid ha6
      clear hp6 hl6 ha6
      show Kr _ _
      refine hKr.out _ _ ?_ (fun _ => ?_)
      · exact Turn.trans hS (Turn.ofBelow hb6)
      clear hKr Kr
      replace hS : Turn (fun q => q = w.heap.size + 1 + 1) w4 w6 := Turn.trans hS (Turn.ofBelow hb6)
      try simp only [Act.put, List.setIfInBounds_toArray, List.set_cons_zero, List.set_cons_succ]
      refine wpAnyH_take (i := 14) (oi := ⟨some 42, _, _, _, _, _⟩) (v := ?_) rfl (by kernel_rfl) (by kernel_rfl) (by kernel_rfl) (fun _ _ _ h => h) (Or.inl ⟨by rfl, ?_⟩) hS ?_
      rotate_left
      · intro W hW; go_simp; with_reducible rfl
      try simp only [Act.put, List.setIfInBounds_toArray, List.set_cons_zero, List.set_cons_succ]
      refine wpAnyH_ready (rs := [15]) (by kernel_rfl) (by simp) ?_
      refine AllReadyH.cons (o := ⟨none, _, _, _, _, _⟩) rfl (fun Kr hKr => ?_) AllReadyH.nil
      -- operation 15: a step
      refine wp_store_bk 25 _ _ rfl (w.heap.size + 1 + 1) (tbC A5 n c5 A6 n6 a6) rfl rfl 25 #[.slice none 0 0, .slice none 0 0] (HZ6.out) (by kernel_rfl) rfl (by simp [Value.oneCell']) ?_
      intro w9 hk9 hg9
      show Kr _ _
      refine hKr.out _ _ ?_ (fun _ => ?_)
      · exact Turn.grown hS hg9 (fun j e => .inl (by injection e with e; exact e.symm))
      clear hKr Kr
      replace hS : Turn (fun q => q = w.heap.size + 1 + 1) w4 w9 := Turn.grown hS hg9 (fun j e => .inl (by injection e with e; exact e.symm))
      try simp only [Act.put, List.setIfInBounds_toArray, List.set_cons_zero, List.set_cons_succ]
      refine wpAnyH_take (i := 16) (oi := ⟨some 11, _, _, _, _, _⟩) (v := ?_) rfl (by kernel_rfl) (by kernel_rfl) (by kernel_rfl) (fun _ _ _ h => h) (Or.inl ⟨by rfl, ?_⟩) hS ?_
      rotate_left
      · intro W hW; go_simp; with_reducible rfl
      try simp only [Act.put, List.setIfInBounds_toArray, List.set_cons_zero, List.set_cons_succ]
      refine wpAnyH_done (by kernel_rfl) ?_ _
      have HK9 : Hid (Bk w9 (w.heap.size + 1 + 1) (tbC A5 n c5 A6 n6 a6) 25) := hk9
      have z0 := HK9.out.t0
      have z1 := HK9.out.t1
      have HS9 := Lib.hid hS
      have HG9 := Lib.hid (Turn.grown (S := fun q => q = w.heap.size + 1 + 1) (Turn.refl _ w6) hg9 (fun j e => .inl (by injection e with e; exact e.symm)))
      clear hS hk9 hg9 ha1 hx1 hg1 hb6
      go_wp2_with fail
      refine bodyPost_ret (v := .tuple #[tbV A5 n c5 A6 n6 a6, .int .i64 0]) (by rw [results_cell_tmp rfl]; go_simp) rfl ⟨A5, n, c5, A6, n6, a6, by rw [HSE.out], ?_, HB.out.trans (HS9.out.below (B := w.heap.size) (fun q e => by omega) HBL.out)⟩
      rw [HST.out]
      have HZL := HZ.out.lt
      have hm := mm_ok HOZ.out
      refine ⟨HT.out.cl, HL6.out, HT.out.okC, withL_ok HT.out.okP ⟨HOK.out, HOX.out, hm.1, hm.2⟩, ?_, HP6.out.turn HG9.out (fun b o e => ?_)⟩
      · have hc9 := HC6.out.turn HG9.out (fun q e h => by have := (HC6.out.lt q e).1; omega)
        obtain ⟨A7, c7, e7, _, h7, _⟩ := hc9.form rc_okr
        injection e7 with e7
        rw [e7]
        exact h7
      · rcases HA6.out with ⟨h, h5⟩ | h
        · rw [h] at e
          rcases HT.out.atP.lt b o e with h2 | h2
          · exact .inl (h5.trans h2)
          · exact .inr (by omega)
        · have := h b o e; have := HG5.out.size; exact .inr (by omega)
  · rw [if_neg h0] at HSE
    rw [HSE.out, if_neg h0] at HST
    have q1 : (mm == 0) = false := by simpa using h0
    have q2 : (mm != 0) = true := by simpa using h0
    clear h0
    go_enter Try.func10, Try.ntmps10
    go_wp2_with fail
    refine (hmy _ HB.out).mono ?_
    rintro e w1 ⟨rfl, hb⟩
    replace HZ := Lib.hid (HZ.out.below hb)
    replace HB := Lib.hid (HB.out.trans (hb.mono HB.out.size))
    clear hb hmy
    have z0 : w1.cell? ⟨w.heap.size + 1 + 1, 0, none⟩ = some (.slice none 0 0) := HZ.out.c 0 _ rfl
    have z1 : w1.cell? ⟨w.heap.size + 1 + 1, 1, none⟩ = some (.slice none 0 0) := HZ.out.c 1 _ rfl
    have f0 := HZ.out.fr 0
    have f1 := HZ.out.fr 1
    go_wp2_with fail
    refine bodyPost_ret (v := .tuple #[tbV none 0 0 none 0 0, .int .i64 mm]) (by rw [results_cell_tmp rfl]; go_simp) rfl ⟨none, 0, 0, none, 0, 0, by rw [HSE.out], by rw [HST.out]; exact tb_none _, (HB.out.setCell (show w.heap.size ≤ w.heap.size + 1 + 1 from by omega) _).setCell (show w.heap.size ≤ w.heap.size + 1 + 1 from by omega) _⟩
end Go.Proofs.Ytogngghfdcpeaaa
