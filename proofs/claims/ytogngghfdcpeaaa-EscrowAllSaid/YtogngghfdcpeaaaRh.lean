/-
  Those of some have nothing: the document's Free.
-/
import Derived.Test.YtogngghfdcpeaaaRg
namespace Go.Proofs.Ytogngghfdcpeaaa
set_option maxRecDepth 100000
set_option linter.unusedVariables false
set_option linter.unusedSimpArgs false
open Go.RowKit

theorem own_litC (w : World) (base : Nat) (h : base ≤ w.heap.size) : RCr.Own (w.alloc (.cells #[] 72)) base (.slice (some ⟨w.heap.size, 0, none⟩) 0 0) [] :=
  World.ownsRow_lit w #[] 0 h (by simp [maxLen]) rfl
theorem own_slice {α : Type} {R : Rk α} (hR : R.Ok) {w : World} {base n : Nat} {v : Value} {l : List α} (h : R.Own w base v l) (hn : l.length = n) : ∃ A c, v = .slice A n c := by
  obtain ⟨A, c, e, _⟩ := h.form hR
  exact ⟨A, c, by rw [e, hn]⟩
def inB (l : List Int) (x : Int) : Bool := l.any fun y => decide (y = x)
theorem freeL_take {P : List Pd} {l : List Int} {i : Nat} {p : Pd} (h : P[i]? = some p) : freeL (P.take (i + 1)) l = if inB l p.x = true then freeL (P.take i) l else freeL (P.take i) l ++ [p] := by
  unfold freeL inB
  rw [List.take_add_one, h, Option.toList_some, List.filter_append]
  cases hx : (l.any fun y => decide (y = p.x)) <;> simp [hx]
theorem freeL_len (P : List Pd) (l : List Int) : (freeL P l).length ≤ P.length := List.length_filter_le ..
theorem freeL_mem {P : List Pd} {l : List Int} {p : Pd} (h : p ∈ freeL P l) : p ∈ P := (List.mem_filter.1 h).1
theorem inB_take {l : List Int} {i : Nat} {y x : Int} (h : l[i]? = some y) : inB (l.take (i + 1)) x = (inB (l.take i) x || decide (y = x)) := by
  unfold inB
  rw [List.take_add_one, h, Option.toList_some, List.any_append]
  simp
/-- a table of the call's own: its counters' row, its pends', each in a block of its own -/
structure TbOwn (W : World) (L g : Nat) (cv pv : Value) (C : List Ct) (P : List Pd) : Prop where
  c : RCr.Own W L cv C
  p : RPr.Own W (g + 1) pv P
  lt : ∀ k, cv.ownBlock = some k → k < g
  le : L ≤ g
  sz : g + 1 ≤ W.heap.size

set_option maxHeartbeats 2000000 in
theorem reffree_any (A B : Option Addr) (n a m b : Nat) (t : Tb) (E : Option Addr) (q r : Nat) (l : List Int) (hn : n ≤ 1000) (hm : m ≤ 1000) (hql : q ≤ 1000) (hsp : t.C = [] ∨ Sp A) (w : World) (ht : TbAt w A n B m t) (hl : Ls w E q l) :
    Calls Try.prog 21 #[tbV A n a B m b, .slice E q r] w fun e w' => ∃ cv pv g, e = .returned (.agg #[cv, pv]) ∧ TbOwn w' (w.heap.size + 1) g cv pv t.C (freeL t.P l) ∧ Below w.heap.size w w' := by
  have HT := Lib.hid ht
  have HLS := Lib.hid hl
  have HSP := Lib.hid hsp
  have HX := Lib.hid ((Bk.new w (tbC A n a B m b) 25).al (.cells #[.slice none 0 0, .slice none 0 0] 25))
  have HZ := Bk.new (w.alloc (.cells (tbC A n a B m b) 25)) #[.slice none 0 0, .slice none 0 0] 25
  rw [size_al] at HZ
  have HZ := Lib.hid HZ
  have HB := Lib.hid (below_two (below_new w (.cells (tbC A n a B m b) 25)) (below_new _ (.cells #[.slice none 0 0, .slice none 0 0] 25)))
  clear ht hl hsp
  go_enter Try.func21, Try.ntmps21
  go_upto_region 1 with fail
  have hsz : ((w.alloc (.cells (tbC A n a B m b) 25)).alloc (.cells #[.slice none 0 0, .slice none 0 0] 25)).heap.size = w.heap.size + 1 + 1 := by rw [size_al, size_al]
  have HSZ := Lib.hid hsz
  clear hsz
  generalize (w.alloc (.cells (tbC A n a B m b) 25)).alloc (.cells #[.slice none 0 0, .slice none 0 0] 25) = w0 at *
  have HT0 := Lib.hid (HT.out.below HB.out)
  have x0 := HX.out.t0
  have x1 := HX.out.t1
  have x2 := (HX.out.al (.cells #[] 72)).t0
  go_upto_region 2 with (first
    | (at_builtin; refine Rk.wpList_append2 rc_okr rfl (.tmp 9) (.tmp 11) rfl w0.heap.size (.slice (some ⟨w0.heap.size, 0, none⟩) 0 0) [] t.C rfl (own_litC w0 _ (Nat.le_refl _)) A n a rfl (HT0.out.atC.below (below_new w0 _)) HT0.out.cl HSP.out (by rw [HT0.out.cl, List.length_nil]; omega) (by simp) ?_; intro cv w5 hx1 hg1 ha1; have HC5 := Lib.hid hx1; have HG5 := Lib.hid (show Below w0.heap.size w0 w5 from Below.grown (below_new w0 _) hg1 (by simp) (fun k e => by have e : some w0.heap.size = some k := e; injection e with e; omega)); clear hx1 hg1 ha1; obtain ⟨A5, c5, rfl⟩ := own_slice rc_okr HC5.out (show ([] ++ t.C).length = n from HT0.out.cl))
    | fail)
  rw [List.nil_append] at HC5
  have HXw := Lib.hid ((HX.out.below HG5.out).al (.cells #[.slice A5 n c5, .slice none 0 0] 25))
  have HZw := Lib.hid ((HZ.out.below HG5.out).al (.cells #[.slice A5 n c5, .slice none 0 0] 25))
  have HKw := Lib.hid (Bk.new w5 #[.slice A5 n c5, .slice none 0 0] 25)
  have HBw := Lib.hid ((HB.out.trans (HG5.out.mono HB.out.size)).trans ((below_new w5 (.cells #[.slice A5 n c5, .slice none 0 0] 25)).mono (HB.out.trans (HG5.out.mono HB.out.size)).size))
  have HCw := Lib.hid ((HC5.out.below (below_new w5 (.cells #[.slice A5 n c5, .slice none 0 0] 25))).le (b := w.heap.size + 1) (by have := HSZ.out; omega))
  have HCB := Lib.hid (show ∀ k, (Value.slice A5 n c5).ownBlock = some k → k < w5.heap.size ∧ w.heap.size + 1 < k from fun k e => ⟨(HC5.out.lt k e).2, by have h := (HC5.out.lt k e).1; have := HSZ.out; omega⟩)
  have HG1 := Lib.hid (show w.heap.size + 1 < w5.heap.size from by have h := HG5.out.size; have := HSZ.out; omega)
  have HSw := Lib.hid (show w5.heap.size + 1 ≤ (w5.alloc (.cells #[.slice A5 n c5, .slice none 0 0] 25)).heap.size from by simp)
  clear x0 x1 x2 HX HZ HT0 HG5 HB HC5 HSP
  generalize w5.heap.size = g1 at *
  generalize w5.alloc (.cells #[.slice A5 n c5, .slice none 0 0] 25) = wv at *
  go_wp2_with fail
  go_loopw [6] (fun u wr => ∃ (j : Nat) (pv : Value), u = .int .i64 (j : Int) ∧ j ≤ m ∧ Hid (RPr.Own wr (g1 + 1) pv (freeL (t.P.take j) l)) ∧ Hid (RCr.Own wr (w.heap.size + 1) (.slice A5 n c5) t.C) ∧ Hid (Bk wr g1 #[.slice A5 n c5, pv] 25) ∧ Hid (Bk wr w.heap.size (tbC A n a B m b) 25) ∧ Hid (Below w.heap.size w wr) ∧ Hid (g1 + 1 ≤ wr.heap.size) ∧ Hid (Bk wr (w.heap.size + 1) #[.slice none 0 0, .slice none 0 0] 25)) (fun u _ => m - (intOf u).toNat)
  case atStart => exact ⟨0, _, rfl, Nat.zero_le _, Rk.Own.nil _ _ _, HCw, HKw, HXw, HBw, HSw, HZw⟩
  case round =>
    obtain ⟨j, pv, rfl, hj, HOj, HCj, HKj, HXj, HBj, HSj, HZj⟩ := hrel
    obtain ⟨wa, rfl⟩ : ∃ wa, wa = wr := ⟨_, rfl⟩
    have x0 := HXj.out.t0
    have x1 := HXj.out.t1
    rcases Nat.lt_or_ge j m with hlt | hge
    · obtain ⟨b2, o, hA, hbl, hok, hget, h0, h1, h2, h3⟩ := HT.out.p hlt
      subst hA
      have HSJ := Lib.hid (freeL_take (l := l) hget)
      have HLN : Hid ((freeL (t.P.take j) l).length ≤ 1000) := by have h := freeL_len (t.P.take j) l; rw [List.length_take] at h; show _ ≤ _; omega
      generalize t.P.getD j pdD = p at *
      obtain ⟨pc, px, u, d⟩ := p
      simp only at HSJ h0 h1 h2 h3
      have HC0 := Lib.hid ((HBj.out.cell (p := ⟨b2, o + j * 4, none⟩) hbl).trans h0)
      have HC1 := Lib.hid ((HBj.out.cell (p := ⟨b2, o + j * 4 + 1, none⟩) hbl).trans h1)
      have HC2 := Lib.hid ((HBj.out.cell (p := ⟨b2, o + j * 4 + 2, none⟩) hbl).trans h2)
      have HC3 := Lib.hid ((HBj.out.cell (p := ⟨b2, o + j * 4 + 3, none⟩) hbl).trans h3)
      have HBL2 := Lib.hid hbl
      have HBL := Lib.hid (Nat.lt_of_lt_of_le hbl HBj.out.size)
      have hd4 : decide ((j : Int) < (m : Int)) = true := decide_eq_true (by omega)
      have hd5 : decide (j < m) = true := decide_eq_true hlt
      have hi1 : (j : Int) < (m : Int) := by omega
      generalize freeL (t.P.take j) l = acc at *
      clear h0 h1 h2 h3 hbl hok hget
      go_wp2_with fail
      go_loopw [7, 8] (fun v u wq => ∃ k : Nat, v = .bool (inB (l.take k) px) ∧ u = .int .i64 (k : Int) ∧ k ≤ q ∧ Hid (Below wa.heap.size wa wq)) (fun _ u _ => q - (intOf u).toNat)
      case atStart => exact ⟨0, rfl, rfl, Nat.zero_le _, Lib.hid (Below.refl _ _)⟩
      case round =>
        obtain ⟨k, rfl, rfl, hk, HW⟩ := hrel
        rcases Nat.lt_or_ge k q with hlt2 | hge2
        · have hd6 : decide ((k : Int) < (q : Int)) = true := decide_eq_true (by omega)
          have hd7 : decide (k < q) = true := decide_eq_true hlt2
          have hi2 : (k : Int) < (q : Int) := by omega
          obtain ⟨b4, o4, hE, hbl4, hz4, hget4, hc4⟩ := HLS.out.get hlt2
          subst hE
          have HIB := Lib.hid (inB_take (x := px) hget4)
          have c4 := (HW.out.cell (p := ⟨b4, o4 + k, none⟩) (Nat.lt_of_lt_of_le hbl4 HBj.out.size)).trans ((HBj.out.cell (p := ⟨b4, o4 + k, none⟩) hbl4).trans hc4)
          have c1 := (HW.out.cell (p := ⟨b2, o + j * 4 + 1, none⟩) HBL.out).trans HC1.out
          have x1 := (HXj.out.below HW.out).t1
          generalize l.getD k 0 = y at *
          clear hbl4 hz4 hget4 hc4
          cases hib : inB (l.take k) px with
          | true =>
            rw [hib, Bool.true_or] at HIB
            clear hib
            go_wp2_with fail
            go_quiet (fail)
            go_wp2_with fail
            exact ⟨⟨k + 1, by rw [HIB.out], rfl, hlt2, Lib.hid (below_drewN HW.out _)⟩, by simp [intOf]; omega⟩
          | false =>
            rw [hib, Bool.false_or] at HIB
            clear hib
            have hyy : decide (y = px) = (y == px) := by by_cases h : y = px <;> simp [h]
            rw [hyy] at HIB
            clear hyy
            go_wp2_with fail
            go_quiet (fail)
            go_wp2_with fail
            exact ⟨⟨k + 1, by rw [HIB.out], rfl, hlt2, Lib.hid (below_drewN HW.out _)⟩, by simp [intOf]; omega⟩
        · obtain rfl : k = q := by omega
          have hd6 : decide ((k : Int) < (k : Int)) = false := decide_eq_false (by omega)
          have hd7 : decide (k < k) = false := decide_eq_false (by omega)
          have hlk : l.take k = l := List.take_of_length_le (by rw [HLS.out.len]; exact Nat.le_refl _)
          rw [hlk]
          clear hlk
          clear hd6 hd7 x0 x1
          have HOq := Lib.hid (HOj.out.below HW.out)
          have HCq := Lib.hid (HCj.out.below HW.out)
          have HKq := Lib.hid (HKj.out.below HW.out)
          have HXq := Lib.hid (HXj.out.below HW.out)
          have HZq := Lib.hid (HZj.out.below HW.out)
          have HBq := Lib.hid (HBj.out.trans (HW.out.mono HBj.out.size))
          have HSq := Lib.hid (Nat.le_trans HSj.out HW.out.size)
          cases hib : inB l px with
          | true =>
            rw [hib, if_pos rfl] at HSJ
            clear hib
            go_wp2_with fail
            exact ⟨⟨j + 1, pv, rfl, hlt, by rw [HSJ.out]; exact HOq, HCq, HKq, HXq, HBq, HSq, HZq⟩, by simp [intOf]; omega⟩
          | false =>
            rw [hib, if_neg (by decide)] at HSJ
            clear hib
            go_upto_region 11 with fail
            have HKd := Lib.hid (HKq.out.below (V := World.drew wr) ((Below.refl _ _).drew))
            have HOd := Lib.hid (HOq.out.below (w' := World.drew wr) ((Below.refl _ _).drew))
            have HKA := Lib.hid (HKd.out.al (.cells #[.int .i64 pc, .int .i64 px, .int .i64 u, .int .i64 d] 74))
            have HOA := Lib.hid (HOd.out.below (below_new (World.drew wr) (.cells #[.int .i64 pc, .int .i64 px, .int .i64 u, .int .i64 d] 74)))
            have HSA := Lib.hid (Nat.le_trans HSq.out (show wr.heap.size ≤ ((World.drew wr).alloc (.cells #[.int .i64 pc, .int .i64 px, .int .i64 u, .int .i64 d] 74)).heap.size from (below_new (World.drew wr) _).size))
            have k1 : wr.cell? ⟨g1, 1, none⟩ = some pv := HKq.out.c 1 _ rfl
            have k2 : (wr.alloc (.cells #[.int .i64 pc, .int .i64 px, .int .i64 u, .int .i64 d] 74)).cell? ⟨g1, 1, none⟩ = some pv := HKA.out.c 1 _ rfl
            have HNX := Lib.hid (show ∀ z, (z = g1 ∨ pv.ownBlock = some z) → w.heap.size + 1 < z from fun z h => by
              have h1 := HG1.out
              rcases h with h | h
              · omega
              · have := (HOq.out.lt z h).1; omega)
            have X1 : ∀ V, Turn (fun z => z = g1 ∨ pv.ownBlock = some z) wr V → V.cell? ⟨w.heap.size, 1, none⟩ = some (.slice (some ⟨b2, o, none⟩) m b) := fun V hV => (HXq.out.turn hV (fun h => by have := HNX.out _ h; omega)).t1
            have D0 : ∀ V, Turn (fun z => z = g1 ∨ pv.ownBlock = some z) wr V → V.cell? ⟨b2, o + j * 4, none⟩ = some (.int .i64 pc) := fun V hV => hV.cell ((HW.out.cell (p := ⟨b2, o + j * 4, none⟩) HBL.out).trans HC0.out) (fun h => by have h1 := HNX.out _ h; have h2 := HBL2.out; simp only at h1; omega)
            have D1 : ∀ V, Turn (fun z => z = g1 ∨ pv.ownBlock = some z) wr V → V.cell? ⟨b2, o + j * 4 + 1, none⟩ = some (.int .i64 px) := fun V hV => hV.cell ((HW.out.cell (p := ⟨b2, o + j * 4 + 1, none⟩) HBL.out).trans HC1.out) (fun h => by have h1 := HNX.out _ h; have h2 := HBL2.out; simp only at h1; omega)
            have D2 : ∀ V, Turn (fun z => z = g1 ∨ pv.ownBlock = some z) wr V → V.cell? ⟨b2, o + j * 4 + 2, none⟩ = some (.int .i64 u) := fun V hV => hV.cell ((HW.out.cell (p := ⟨b2, o + j * 4 + 2, none⟩) HBL.out).trans HC2.out) (fun h => by have h1 := HNX.out _ h; have h2 := HBL2.out; simp only at h1; omega)
            have D3 : ∀ V, Turn (fun z => z = g1 ∨ pv.ownBlock = some z) wr V → V.cell? ⟨b2, o + j * 4 + 3, none⟩ = some (.int .i64 d) := fun V hV => hV.cell ((HW.out.cell (p := ⟨b2, o + j * 4 + 3, none⟩) HBL.out).trans HC3.out) (fun h => by have h1 := HNX.out _ h; have h2 := HBL2.out; simp only at h1; omega)
            refine wp_region_turn (X := (fun q => q = g1 ∨ pv.ownBlock = some q)) (by kernel_rfl) ?_
            have hS : Turn (fun q => q = g1 ∨ pv.ownBlock = some q) wr (World.drew wr) := (Turn.refl _ _).drew
            refine wpAnyH_take (i := 0) (oi := ⟨some 43, _, _, _, _, _⟩) (v := ?_) rfl (by kernel_rfl) (by kernel_rfl) (by kernel_rfl) (fun _ _ _ h => h) (Or.inl ⟨by rfl, ?_⟩) hS ?_
            rotate_left
            · intro W hW; go_simp; with_reducible rfl
            try simp only [Act.put, List.setIfInBounds_toArray, List.set_cons_zero, List.set_cons_succ]
            refine wpAnyH_take (i := 2) (oi := ⟨some 45, _, _, _, _, _⟩) (v := ?_) rfl (by kernel_rfl) (by kernel_rfl) (by kernel_rfl) (fun _ _ _ h => h) (Or.inl ⟨by rfl, ?_⟩) hS ?_
            rotate_left
            · intro W hW; go_simp; with_reducible rfl
            try simp only [Act.put, List.setIfInBounds_toArray, List.set_cons_zero, List.set_cons_succ]
            refine wpAnyH_take (i := 3) (oi := ⟨some 46, _, _, _, _, _⟩) (v := ?_) rfl (by kernel_rfl) (by kernel_rfl) (by kernel_rfl) (fun _ _ _ h => h) (Or.inl ⟨by rfl, ?_⟩) hS ?_
            rotate_left
            · intro W hW; go_simp; with_reducible rfl
            try simp only [Act.put, List.setIfInBounds_toArray, List.set_cons_zero, List.set_cons_succ]
            refine wpAnyH_take (i := 4) (oi := ⟨some 47, _, _, _, _, _⟩) (v := ?_) rfl (by kernel_rfl) (by kernel_rfl) (by kernel_rfl) (fun _ _ _ h => h) (Or.inl ⟨by rfl, ?_⟩) hS ?_
            rotate_left
            · intro W hW; go_simp; with_reducible rfl
            try simp only [Act.put, List.setIfInBounds_toArray, List.set_cons_zero, List.set_cons_succ]
            refine wpAnyH_take (i := 5) (oi := ⟨some 48, _, _, _, _, _⟩) (v := ?_) rfl (by kernel_rfl) (by kernel_rfl) (by kernel_rfl) (fun _ _ _ h => h) (Or.inl ⟨by rfl, ?_⟩) hS ?_
            rotate_left
            · intro W hW; go_simp; with_reducible rfl
            try simp only [Act.put, List.setIfInBounds_toArray, List.set_cons_zero, List.set_cons_succ]
            refine wpAnyH_take (i := 6) (oi := ⟨some 49, _, _, _, _, _⟩) (v := ?_) rfl (by kernel_rfl) (by kernel_rfl) (by kernel_rfl) (fun _ _ _ h => h) (Or.inl ⟨by rfl, ?_⟩) hS ?_
            rotate_left
            · intro W hW; go_simp; with_reducible rfl
            try simp only [Act.put, List.setIfInBounds_toArray, List.set_cons_zero, List.set_cons_succ]
            refine wpAnyH_ready (rs := [1, 7]) (by kernel_rfl) (by simp) ?_
            refine AllReadyH.cons (o := ⟨some 44, _, _, _, _, _⟩) rfl (fun Kr hKr => ?_) (AllReadyH.cons (o := ⟨some 50, _, _, _, _, _⟩) rfl (fun Kr hKr => ?_) AllReadyH.nil)
            · skip
              -- operation 1: a step
              try rw [if_pos (by kernel_rfl)]
              go_simp
              show Kr _ _
              refine hKr.out _ _ ?_ (fun _ => ?_)
              · exact hS
              clear hKr Kr
              try simp only [Act.put, List.setIfInBounds_toArray, List.set_cons_zero, List.set_cons_succ]
              refine wpAnyH_ready (rs := [7]) (by kernel_rfl) (by simp) ?_
              refine AllReadyH.cons (o := ⟨some 50, _, _, _, _, _⟩) rfl (fun Kr hKr => ?_) AllReadyH.nil
              -- operation 7: a step
              try rw [if_pos (by kernel_rfl)]
              go_simp
              show Kr _ _
              refine hKr.out _ _ ?_ (fun _ => ?_)
              · exact Turn.trans hS (Turn.ofBelow (below_new _ _))
              clear hKr Kr
              replace hS : Turn (fun q => q = g1 ∨ pv.ownBlock = some q) wr ((World.drew wr).alloc (.cells #[.int .i64 pc, .int .i64 px, .int .i64 u, .int .i64 d] 74)) := Turn.trans hS (Turn.ofBelow (below_new _ _))
              try simp only [Act.put, List.setIfInBounds_toArray, List.set_cons_zero, List.set_cons_succ]
              refine wpAnyH_ready (rs := [8]) (by kernel_rfl) (by simp) ?_
              refine AllReadyH.cons (o := ⟨some 51, _, _, _, _, _⟩) rfl (fun Kr hKr => ?_) AllReadyH.nil
              -- operation 8: a step
              try rw [if_pos (by kernel_rfl)]
              refine Rk.wp_append rp_okr (.tmp 44) (.tmp 50) rfl (g1 + 1) pv acc [⟨pc, px, u, d⟩] rfl HOA.out _ 1 1 rfl (pd_at (World.drew wr) pc px u d) rfl (.inr ⟨_, _, rfl⟩) (by have := HLN.out; rw [List.length_singleton]; omega) HSA.out ?_
              intro v8 w8 hx1 hg1 ha1
              obtain ⟨n8, hn8⟩ : ∃ n8, (acc ++ [(⟨pc, px, u, d⟩ : Pd)]).length = n8 := ⟨_, rfl⟩
              obtain ⟨A8, c8, rfl⟩ := own_slice rp_okr hx1 hn8
              clear hn8
              have HO8 := Lib.hid hx1
              have HG8 := Lib.hid hg1
              have HK8 := Lib.hid (HKA.out.far hg1 (fun e => by have := (HOA.out.lt _ e.symm).1; omega))
              have k1 : w8.cell? ⟨g1, 1, none⟩ = some pv := HK8.out.c 1 _ rfl
              have k2 := HK8.out.fr 1
              show Kr _ _
              refine hKr.out _ _ ?_ (fun _ => ?_)
              · exact Turn.trans hS (Turn.grown (Turn.refl _ _) hg1 (fun j e => .inl (.inr e)))
              clear hKr Kr
              replace hS : Turn (fun q => q = g1 ∨ pv.ownBlock = some q) wr w8 := Turn.trans hS (Turn.grown (Turn.refl _ _) hg1 (fun j e => .inl (.inr e)))
              try simp only [Act.put, List.setIfInBounds_toArray, List.set_cons_zero, List.set_cons_succ]
              refine wpAnyH_take (i := 9) (oi := ⟨some 52, _, _, _, _, _⟩) (v := ?_) rfl (by kernel_rfl) (by kernel_rfl) (by kernel_rfl) (fun _ _ _ h => h) (Or.inl ⟨by rfl, ?_⟩) hS ?_
              rotate_left
              · intro W hW; go_simp; with_reducible rfl
              try simp only [Act.put, List.setIfInBounds_toArray, List.set_cons_zero, List.set_cons_succ]
              refine wpAnyH_ready (rs := [10]) (by kernel_rfl) (by simp) ?_
              refine AllReadyH.cons (o := ⟨none, _, _, _, _, _⟩) rfl (fun Kr hKr => ?_) AllReadyH.nil
              -- operation 10: a step
              try rw [if_pos (by kernel_rfl)]
              go_simp
              show Kr _ _
              refine hKr.out _ _ ?_ (fun _ => ?_)
              · exact Turn.trans hS ((Turn.refl _ _).setCell _ _ (.inl (.inl rfl)))
              clear hKr Kr
              replace hS : Turn (fun q => q = g1 ∨ pv.ownBlock = some q) wr (w8.setCell ⟨g1, 1, none⟩ (.slice A8 n8 c8)) := Turn.trans hS ((Turn.refl _ _).setCell _ _ (.inl (.inl rfl)))
              try simp only [Act.put, List.setIfInBounds_toArray, List.set_cons_zero, List.set_cons_succ]
              refine wpAnyH_done (by kernel_rfl) ?_ _
              go_wp2_with fail
              have HK9 := Lib.hid (show Bk (w8.setCell ⟨g1, 1, none⟩ (.slice A8 n8 c8)) g1 #[.slice A5 n c5, (.slice A8 n8 c8)] 25 from heap_setCell_same w8 g1 1 _ _ (.slice A8 n8 c8) HK8.out)
              have HO9 : Hid (RPr.Own (w8.setCell ⟨g1, 1, none⟩ (.slice A8 n8 c8)) (g1 + 1) (.slice A8 n8 c8) (acc ++ [⟨pc, px, u, d⟩])) := HO8.out.turn (S := fun q => q = g1) ((Turn.refl _ _).setCell _ _ (.inl rfl)) (fun q e h => by have := (HO8.out.lt q e).1; omega)
              have HT9 := Lib.hid hS
              exact ⟨⟨j + 1, (.slice A8 n8 c8), rfl, hlt, by rw [HSJ.out]; exact HO9, Lib.hid (HCq.out.turn HT9.out (fun z e h => by have h1 := HCB.out z e; rcases h with h | h; omega; have := (HOq.out.lt z h).1; omega)), HK9, Lib.hid (HXq.out.turn HT9.out (fun h => by have := HNX.out _ h; omega)), Lib.hid (HBq.out.trans (HT9.out.below (B := w.heap.size) (fun z h => by have := HNX.out _ h; omega) HBq.out.size)), Lib.hid (Nat.le_trans HSq.out HT9.out.size), Lib.hid (HZq.out.turn HT9.out (fun h => by have := HNX.out _ h; omega))⟩, by simp [intOf]; omega⟩
            · skip
              -- operation 7: a step
              try rw [if_pos (by kernel_rfl)]
              go_simp
              show Kr _ _
              refine hKr.out _ _ ?_ (fun _ => ?_)
              · exact Turn.trans hS (Turn.ofBelow (below_new _ _))
              clear hKr Kr
              replace hS : Turn (fun q => q = g1 ∨ pv.ownBlock = some q) wr ((World.drew wr).alloc (.cells #[.int .i64 pc, .int .i64 px, .int .i64 u, .int .i64 d] 74)) := Turn.trans hS (Turn.ofBelow (below_new _ _))
              try simp only [Act.put, List.setIfInBounds_toArray, List.set_cons_zero, List.set_cons_succ]
              refine wpAnyH_ready (rs := [1]) (by kernel_rfl) (by simp) ?_
              refine AllReadyH.cons (o := ⟨some 44, _, _, _, _, _⟩) rfl (fun Kr hKr => ?_) AllReadyH.nil
              -- operation 1: a step
              try rw [if_pos (by kernel_rfl)]
              go_simp
              show Kr _ _
              refine hKr.out _ _ ?_ (fun _ => ?_)
              · exact hS
              clear hKr Kr
              try simp only [Act.put, List.setIfInBounds_toArray, List.set_cons_zero, List.set_cons_succ]
              refine wpAnyH_ready (rs := [8]) (by kernel_rfl) (by simp) ?_
              refine AllReadyH.cons (o := ⟨some 51, _, _, _, _, _⟩) rfl (fun Kr hKr => ?_) AllReadyH.nil
              -- operation 8: a step
              try rw [if_pos (by kernel_rfl)]
              refine Rk.wp_append rp_okr (.tmp 44) (.tmp 50) rfl (g1 + 1) pv acc [⟨pc, px, u, d⟩] rfl HOA.out _ 1 1 rfl (pd_at (World.drew wr) pc px u d) rfl (.inr ⟨_, _, rfl⟩) (by have := HLN.out; rw [List.length_singleton]; omega) HSA.out ?_
              intro v8 w8 hx1 hg1 ha1
              obtain ⟨n8, hn8⟩ : ∃ n8, (acc ++ [(⟨pc, px, u, d⟩ : Pd)]).length = n8 := ⟨_, rfl⟩
              obtain ⟨A8, c8, rfl⟩ := own_slice rp_okr hx1 hn8
              clear hn8
              have HO8 := Lib.hid hx1
              have HG8 := Lib.hid hg1
              have HK8 := Lib.hid (HKA.out.far hg1 (fun e => by have := (HOA.out.lt _ e.symm).1; omega))
              have k1 : w8.cell? ⟨g1, 1, none⟩ = some pv := HK8.out.c 1 _ rfl
              have k2 := HK8.out.fr 1
              show Kr _ _
              refine hKr.out _ _ ?_ (fun _ => ?_)
              · exact Turn.trans hS (Turn.grown (Turn.refl _ _) hg1 (fun j e => .inl (.inr e)))
              clear hKr Kr
              replace hS : Turn (fun q => q = g1 ∨ pv.ownBlock = some q) wr w8 := Turn.trans hS (Turn.grown (Turn.refl _ _) hg1 (fun j e => .inl (.inr e)))
              try simp only [Act.put, List.setIfInBounds_toArray, List.set_cons_zero, List.set_cons_succ]
              refine wpAnyH_take (i := 9) (oi := ⟨some 52, _, _, _, _, _⟩) (v := ?_) rfl (by kernel_rfl) (by kernel_rfl) (by kernel_rfl) (fun _ _ _ h => h) (Or.inl ⟨by rfl, ?_⟩) hS ?_
              rotate_left
              · intro W hW; go_simp; with_reducible rfl
              try simp only [Act.put, List.setIfInBounds_toArray, List.set_cons_zero, List.set_cons_succ]
              refine wpAnyH_ready (rs := [10]) (by kernel_rfl) (by simp) ?_
              refine AllReadyH.cons (o := ⟨none, _, _, _, _, _⟩) rfl (fun Kr hKr => ?_) AllReadyH.nil
              -- operation 10: a step
              try rw [if_pos (by kernel_rfl)]
              go_simp
              show Kr _ _
              refine hKr.out _ _ ?_ (fun _ => ?_)
              · exact Turn.trans hS ((Turn.refl _ _).setCell _ _ (.inl (.inl rfl)))
              clear hKr Kr
              replace hS : Turn (fun q => q = g1 ∨ pv.ownBlock = some q) wr (w8.setCell ⟨g1, 1, none⟩ (.slice A8 n8 c8)) := Turn.trans hS ((Turn.refl _ _).setCell _ _ (.inl (.inl rfl)))
              try simp only [Act.put, List.setIfInBounds_toArray, List.set_cons_zero, List.set_cons_succ]
              refine wpAnyH_done (by kernel_rfl) ?_ _
              go_wp2_with fail
              have HK9 := Lib.hid (show Bk (w8.setCell ⟨g1, 1, none⟩ (.slice A8 n8 c8)) g1 #[.slice A5 n c5, (.slice A8 n8 c8)] 25 from heap_setCell_same w8 g1 1 _ _ (.slice A8 n8 c8) HK8.out)
              have HO9 : Hid (RPr.Own (w8.setCell ⟨g1, 1, none⟩ (.slice A8 n8 c8)) (g1 + 1) (.slice A8 n8 c8) (acc ++ [⟨pc, px, u, d⟩])) := HO8.out.turn (S := fun q => q = g1) ((Turn.refl _ _).setCell _ _ (.inl rfl)) (fun q e h => by have := (HO8.out.lt q e).1; omega)
              have HT9 := Lib.hid hS
              exact ⟨⟨j + 1, (.slice A8 n8 c8), rfl, hlt, by rw [HSJ.out]; exact HO9, Lib.hid (HCq.out.turn HT9.out (fun z e h => by have h1 := HCB.out z e; rcases h with h | h; omega; have := (HOq.out.lt z h).1; omega)), HK9, Lib.hid (HXq.out.turn HT9.out (fun h => by have := HNX.out _ h; omega)), Lib.hid (HBq.out.trans (HT9.out.below (B := w.heap.size) (fun z h => by have := HNX.out _ h; omega) HBq.out.size)), Lib.hid (Nat.le_trans HSq.out HT9.out.size), Lib.hid (HZq.out.turn HT9.out (fun h => by have := HNX.out _ h; omega))⟩, by simp [intOf]; omega⟩
    · obtain rfl : j = m := by omega
      have hd4 : decide ((j : Int) < (j : Int)) = false := decide_eq_false (by omega)
      have hd5 : decide (j < j) = false := decide_eq_false (by omega)
      have hlj : t.P.take j = t.P := List.take_of_length_le (by rw [HT.out.pl]; exact Nat.le_refl _)
      rw [hlj] at HOj
      clear hlj
      obtain ⟨A6, c6, e6⟩ := own_slice rp_okr HOj.out rfl
      subst e6
      have k0 : wa.cell? ⟨g1, 0, none⟩ = some (.slice A5 n c5) := HKj.out.c 0 _ rfl
      have k1 : wa.cell? ⟨g1, 1, none⟩ = some (.slice A6 (freeL t.P l).length c6) := HKj.out.c 1 _ rfl
      have z0 : wa.cell? ⟨w.heap.size + 1, 0, none⟩ = some (.slice none 0 0) := HZj.out.c 0 _ rfl
      have z1 : wa.cell? ⟨w.heap.size + 1, 1, none⟩ = some (.slice none 0 0) := HZj.out.c 1 _ rfl
      have f0 := HZj.out.fr 0
      have f1 := HZj.out.fr 1
      go_wp2_with fail
      refine bodyPost_ret (v := .agg #[.slice A5 n c5, .slice A6 (freeL t.P l).length c6]) (by rw [results_cell_one rfl]; go_simp) rfl ⟨_, _, g1, rfl, ?_, (HBj.out.setCell (Nat.le_succ _) _).setCell (Nat.le_succ _) _⟩
      have hT := ((Turn.refl (fun z => z = w.heap.size + 1) wa).setCell ⟨w.heap.size + 1, 0, none⟩ (.slice A5 n c5) (.inl rfl)).setCell ⟨w.heap.size + 1, 1, none⟩ (.slice A6 (freeL t.P l).length c6) (.inl rfl)
      exact ⟨HCj.out.turn hT (fun k e h => by have := HCB.out k e; omega), HOj.out.turn hT (fun k e h => by have := (HOj.out.lt k e).1; have := HG1.out; omega), fun k e => (HCB.out k e).1, by have := HG1.out; omega, Nat.le_trans HSj.out hT.size⟩
end Go.Proofs.Ytogngghfdcpeaaa
