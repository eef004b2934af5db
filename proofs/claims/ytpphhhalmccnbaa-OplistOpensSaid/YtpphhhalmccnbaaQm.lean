/-
  Ops: what stays of what was done in one.
-/
import Derived.Test.YtpphhhalmccnbaaQl
namespace Go.Proofs.Ytpphhhalmccnbaa
set_option maxRecDepth 100000
set_option linter.unusedVariables false
set_option linter.unusedSimpArgs false
open Go.RowKit

def selO (F : Nat → Bool) (t : Int) : Bool := (decide (0 ≤ t) && decide (t < 64)) && F t.toNat
/-- the function value of Ops -/
theorem px_ops (w : World) (g : Nat) (F : Nat → Bool) (k : Bk w g (arrB F) 92) : Px w 44 g (selO F) := by
  refine ⟨enters_of Try.func44 (by kernel_rfl) rfl, fun V hV x hx => ?_⟩
  have HK := Lib.hid (k.below hV)
  have ha := among_any x 64 V
  by_cases h : 0 ≤ x ∧ x < 64
  · obtain ⟨j, rfl⟩ := Int.eq_ofNat_of_zero_le h.1
    have hj : j < 64 := by omega
    have hj2 : (j : Int) < 64 := by omega
    have c0 := HK.out.c j _ (get_arrB F j hj)
    have hs : selO F (j : Int) = F j := by unfold selO; rw [decide_eq_true h.1, decide_eq_true h.2]; simp
    rw [decide_eq_true h.1, decide_eq_true h.2] at ha
    rw [hs]
    have HA := Lib.hid ha
    clear ha hs h
    go_enter Try.func44, Try.ntmps44
    go_wp2_with fail
    refine HA.out.mono ?_
    rintro r w2 ⟨rfl, rfl⟩
    go_wp2_with fail
    go_ret
    exact ⟨rfl, Below.refl _ _⟩
  · have hs : selO F x = false := by
      unfold selO
      by_cases h1 : 0 ≤ x
      · rw [decide_eq_false (p := x < 64) (fun h2 => h ⟨h1, h2⟩)]; simp
      · rw [decide_eq_false h1]; simp
    have hq : (decide (0 ≤ x) && decide (x < 64)) = false := by
      by_cases h1 : 0 ≤ x
      · rw [decide_eq_false (p := x < 64) (fun h2 => h ⟨h1, h2⟩)]; simp
      · rw [decide_eq_false h1]; simp
    rw [hq] at ha
    rw [hs]
    have HA := Lib.hid ha
    clear ha hs h hq
    go_enter Try.func44, Try.ntmps44
    go_wp2_with fail
    refine HA.out.mono ?_
    rintro r w2 ⟨rfl, rfl⟩
    go_wp2_with fail
    go_ret
    exact ⟨rfl, Below.refl _ _⟩

theorem selO_pick {l : List En} {P : List Pe} (hf : Fit l P) (hm : ∀ e ∈ l, e.may = true) (f : Int → Bool) : pickO (fun e => selO (fun j => f (j : Int)) e.t) P = pickO (fun e => f e.t) P := by
  unfold pickO
  congr 1
  apply List.filter_congr
  intro p hp
  have h := En.may_iff.mp (hm _ (List.mem_of_getElem? (hf.at' p hp)))
  unfold selO
  dsimp only
  rw [decide_eq_true h.1, decide_eq_true (show p.2.t < 64 by omega)]
  simp only [Bool.and_self, Bool.true_and]
  rw [Int.toNat_of_nonneg h.1]

set_option maxHeartbeats 4000000 in
theorem ops_any (A : Option Addr) (n a : Nat) (l : List En) (P : List Pe) (D : Option Addr) (N d : Nat) (T : Tr) (c of : Int) (hP : openO l = some P) (hm : ∀ e ∈ l, e.may = true) (hn : n ≤ 1000) (hN : T.l.length = N) (hN6 : N ≤ 1000) (w : World) (hl : EsAt REo w A n l) (ht : RTo.At w D T.l) :
    Calls Try.prog 23 #[liV A n a, trV D N d c, .int .i64 of] w fun r w' => ∃ v, r = .returned v ∧ RQ.Own w' w.heap.size v (opsO (pickO (fun e => standsR T e.t of) P)) ∧ Below w.heap.size w w' := by
  have HL := Lib.hid hl
  have HX := Lib.hid ((Bk.new w (liC A n a) 32).al (.cells (trC D N d c) 55))
  have HY := Bk.new (w.alloc (.cells (liC A n a) 32)) (trC D N d c) 55
  rw [size_al] at HY
  have HY := Lib.hid HY
  have HB := Lib.hid (below_two (below_new w (.cells (liC A n a) 32)) (below_new _ (.cells (trC D N d c) 55)))
  obtain ⟨F, hF⟩ : ∃ F : Nat → Bool, F = fun j : Nat => standsR T (j : Int) of := ⟨_, rfl⟩
  have hpk : pickO (fun e => selO F e.t) P = pickO (fun e => standsR T e.t of) P := by rw [hF]; exact selO_pick (open_fit hP) hm (fun x => standsR T x of)
  rw [← hpk]
  obtain ⟨G, hG⟩ : ∃ G, G = pickO (fun e => selO F e.t) P := ⟨_, rfl⟩
  rw [← hG]
  have HGG := Lib.hid hG
  have HWT := Lib.hid (table_any D N d T c of hN hN6 _ (ht.below HB.out))
  rw [← hF] at HWT
  have HP := Lib.hid hP
  have HZ := Lib.hid arrB_zero
  clear hl ht hF hpk hP hm hG
  have x0 := HX.out.c 0 _ rfl
  have y0 : ((w.alloc (.cells (liC A n a) 32)).alloc (.cells (trC D N d c) 55)).cell? ⟨w.heap.size + 1, 0, none⟩ = some (.slice D N d) := HY.out.r_0
  have y1 : ((w.alloc (.cells (liC A n a) 32)).alloc (.cells (trC D N d c) 55)).cell? ⟨w.heap.size + 1, 1, none⟩ = some (.int .i64 c) := HY.out.r_1
  go_enter Try.func23, Try.ntmps23
  go_wp2_with fail
  refine HWT.out.mono ?_
  rintro r w2 ⟨rfl, hb2⟩
  obtain ⟨w3, hw3⟩ : ∃ w3, w3 = (w2.alloc (.cells (arrB fun _ => false) 92)).setRow w2.heap.size (arrB F) := ⟨_, rfl⟩
  have hk3 : Bk w3 w2.heap.size (arrB F) 92 := by rw [hw3]; exact setRow_heap _ _ _ _ _ _ (Bk.new w2 _ _)
  have hb3 : Below w2.heap.size w2 w3 := by rw [hw3]; exact below_setRow (below_new w2 _) (Nat.le_refl _) _
  have HX3 := Lib.hid ((HX.out.below hb2).below hb3)
  have HB3 := Lib.hid (HB.out.trans ((hb2.trans (hb3.mono hb2.size)).mono HB.out.size))
  have HOP := Lib.hid (opened_any 44 w2.heap.size (selO F) A n a l P HP.out hn w3 (HL.out.below HB3.out) (px_ops w3 w2.heap.size F hk3))
  clear hk3 hb2 hb3 HWT HX HY HB x0 y0 y1
  have x0 := HX3.out.c 0 _ rfl
  go_upto_region 2 with (first
    | (with_reducible refine wpList_alloc_zero (by rfl) 92 (by rfl) _ HZ.out ?_)
    | (refine wpList_store_row rfl 92 (.tmp 7) (.tmp 13) rfl w2.heap.size (arrB F) rfl rfl _ _ (Bk.new w2 _ _) (by rw [size_arrB]; exact arrB_size) (by rw [size_arrB, size_arrB]) (arrB_one _) ?_)
    | fail)
  rw [← hw3]
  clear hw3 HZ
  go_wp2_with fail
  refine HOP.out.mono ?_
  rintro r w4 ⟨vg, rfl, hog, hbg, _⟩
  have hG := HGG.out
  rw [← hG] at hog
  obtain ⟨L, hLG⟩ : ∃ L, G.length = L := ⟨_, rfl⟩
  obtain ⟨AG, cg, rfl⟩ := own_slice re_oko hog hLG
  have HOKG : ∀ e ∈ G, e.Ok := fun e he => by
    rw [hG] at he
    unfold pickO at he
    obtain ⟨p, hp, rfl⟩ := List.mem_map.mp he
    exact HL.out.ok _ (List.mem_of_getElem? ((open_fit HP.out).at' p (List.mem_filter.mp hp).1))
  have HEG := Lib.hid (own_es re_oko hog HOKG)
  have HLN := Lib.hid (show L ≤ 1000 from by have h1 := pickO_le (sel := fun e => selO F e.t) (P := P); have h2 := (open_fit HP.out).len; have h3 := HL.out.len; rw [← hLG, hG]; omega)
  have HB4 := Lib.hid (HB3.out.trans (hbg.mono HB3.out.size))
  have hL1000 : L ≤ 1000 := HLN.out
  clear HOKG hog hbg hG hLG HX3 HB3 HOP x0
  go_wp2_with fail
  go_loopw [8, 18] (fun v u wr => ∃ i : Nat, u = .int .i64 (i : Int) ∧ i ≤ L ∧ Hid (RQ.Own wr w4.heap.size v (opsO (G.take i))) ∧ Hid (Below w4.heap.size w4 wr)) (fun _ u _ => L - (intOf u).toNat)
  case atStart => exact ⟨0, rfl, Nat.zero_le _, by rw [List.take_zero]; exact Rk.Own.nil _ _ _, Lib.hid (Below.refl _ _)⟩
  case round =>
    obtain ⟨i, rfl, hi, HVi, HBi⟩ := hrel
    rcases Nat.lt_or_ge i L with hlt | hge
    · obtain ⟨b2, o, hA, hbl, hok, hget, h0, h1, h2, h3⟩ := HEG.out.eo hlt
      subst hA
      have c0 := (HBi.out.cell (p := ⟨b2, o + i * 4, none⟩) hbl).trans h0
      have c1 := (HBi.out.cell (p := ⟨b2, o + i * 4 + 1, none⟩) hbl).trans h1
      have c2 := (HBi.out.cell (p := ⟨b2, o + i * 4 + 2, none⟩) hbl).trans h2
      have c3 := (HBi.out.cell (p := ⟨b2, o + i * 4 + 3, none⟩) hbl).trans h3
      have HUP := Lib.hid (show opsO (G.take (i + 1)) = opsO (G.take i) ++ [((G.getD i enD).c, (G.getD i enD).b)] from by rw [List.take_add_one, hget, opsO_append]; rfl)
      have HLA := Lib.hid (show (opsO (G.take i)).length ≤ 1000 from by rw [opsO_len, List.length_take]; have := HLN.out; omega)
      generalize opsO (G.take i) = acc at *
      generalize G.getD i enD = e at *
      obtain ⟨t, k, b, u⟩ := e
      simp only at c0 c1 c2 c3 HUP
      have hd4 : decide ((i : Int) < (L : Int)) = true := decide_eq_true (by omega)
      have hd5 : decide (i < L) = true := decide_eq_true hlt
      have hi1 : (i : Int) < (L : Int) := by omega
      have hbw := below_new wr (.cells (etC ⟨t, k, b, u⟩) 62)
      have HKk := Lib.hid (Bk.new wr (etC ⟨t, k, b, u⟩) 62)
      have HVk := Lib.hid (HVi.out.below hbw)
      have HBk := Lib.hid (HBi.out.trans (hbw.mono HBi.out.size))
      have HVL := Lib.hid (fun q (e : u8.ownBlock = some q) => (HVi.out.lt q e).1)
      clear h0 h1 h2 h3 hbl hok hget hbw
      go_upto_region 6 with fail
      clear c0 c1 c2 c3 HVi HBi
      generalize wr.heap.size = gk at *
      generalize wr.alloc (.cells #[.int .i64 t, .int .i64 k, .int .i64 b, .bool u] 62) = wk at *
      have k1 : wk.cell? ⟨gk, 1, none⟩ = some (.int .i64 k) := HKk.out.c 1 _ rfl
      have k2 : wk.cell? ⟨gk, 2, none⟩ = some (.int .i64 b) := HKk.out.c 2 _ rfl
      go_wp2_with (first
        | (at_builtin; refine Rk.wpList_append rq_ok rfl (.tmp 22) (.tmp 28) rfl w4.heap.size u8 acc [(k, b)] rfl (HVk.out.below (below_new wk (.cells #[.int .i64 k, .int .i64 b] 70))) _ 1 1 rfl (op_at wk k b) rfl (.inr ⟨_, _, rfl⟩) (by have := HLA.out; rw [List.length_singleton]; omega) (Nat.le_trans HBk.out.size (below_new wk _).size) ?_; intro v7 w7 hx1 hg1 ha1; have HO7 := Lib.hid hx1; have HG7 := Lib.hid hg1; clear hx1 hg1 ha1)
        | fail)
      exact ⟨⟨i + 1, rfl, hlt, by rw [HUP.out]; exact HO7, Lib.hid (Below.grown (HBk.out.trans ((below_new wk _).mono HBk.out.size)) HG7.out (Nat.le_trans HBk.out.size (below_new wk _).size) (fun q e => HVL.out q e))⟩, by simp [intOf] <;> omega⟩
    · obtain rfl : i = L := by omega
      have hd4 : decide ((i : Int) < (i : Int)) = false := decide_eq_false (by omega)
      have hd5 : decide (i < i) = false := decide_eq_false (by omega)
      have HV9 := Lib.hid (show RQ.Own wr w4.heap.size u8 (opsO G) from by have h := HVi.out; rwa [List.take_of_length_le (by rw [HEG.out.len]; omega)] at h)
      clear HVi
      go_wp2_with fail
      go_ret
      exact ⟨u8, rfl, HV9.out.le HB4.out.size, HB4.out.trans (HBi.out.mono HB4.out.size)⟩
end Go.Proofs.Ytpphhhalmccnbaa
