/-
  The law's own: the program's table as the document's.
-/
import Derived.Test.YtogngghfdcpeaaaLw
namespace Go.Proofs.Ytogngghfdcpeaaa
set_option maxRecDepth 100000
set_option linter.unusedVariables false
set_option linter.unusedSimpArgs false
open Go.RowKit

/-- a table's rows lie there, the program's -/
structure TbAto (W : World) (A : Option Addr) (n : Nat) (B : Option Addr) (m : Nat) (t : Tb) : Prop where
  cl : t.C.length = n
  pl : t.P.length = m
  okC : ∀ c ∈ t.C, c.Ok
  okP : ∀ p ∈ t.P, p.Ok
  atC : RCo.At W A t.C
  atP : RPo.At W B t.P
theorem TbAto.below {W V : World} {A B : Option Addr} {n m : Nat} {t : Tb} (h : TbAto W A n B m t) (hb : Below W.heap.size W V) : TbAto V A n B m t := ⟨h.cl, h.pl, h.okC, h.okP, h.atC.below hb, h.atP.below hb⟩
theorem ct_cellso {W : World} {A : Option Addr} {l : List Ct} {n i : Nat} (h : RCo.At W A l) (hn : l.length = n) (hi : i < n) : ∃ b o, A = some ⟨b, o, none⟩ ∧ b < W.heap.size ∧ l[i]? = some (l.getD i ctD) ∧
    W.cell? ⟨b, o + i * 3, none⟩ = some (.int .i64 (l.getD i ctD).lo) ∧ W.cell? ⟨b, o + i * 3 + 1, none⟩ = some (.int .i64 (l.getD i ctD).hi) ∧
    W.cell? ⟨b, o + i * 3 + 2, none⟩ = some (.int .i64 (l.getD i ctD).v) := by
  have hl : i < l.length := by rw [hn]; exact hi
  have hx : l[i]? = some (l.getD i ctD) := by rw [List.getD_eq_getElem?_getD, List.getElem?_eq_getElem hl]; rfl
  obtain ⟨b, o, e, hb, hc⟩ := h.get rc_oko hx
  exact ⟨b, o, e, hb, hx, hc 0 _ rfl, hc 1 _ rfl, hc 2 _ rfl⟩
theorem ct_at (w : World) (lo hi v : Int) : RCr.At (w.alloc (.cells #[.int .i64 lo, .int .i64 hi, .int .i64 v] 72)) (some ⟨w.heap.size, 0, none⟩) [⟨lo, hi, v⟩] := Rk.At.new rc_okr w ⟨lo, hi, v⟩ 72

set_option maxHeartbeats 2000000 in
theorem theirs_any (A B : Option Addr) (n a m b : Nat) (t : Tb) (hn : n ≤ 3000) (hm : m ≤ 3000) (w : World) (ht : TbAto w A n B m t) :
    Calls Try.prog 14 #[tbV A n a B m b] w fun e w' => ∃ A' a' B' b', e = .returned (tbV A' n a' B' m b') ∧ TbAt w' A' n B' m t ∧ Below w.heap.size w w' := by
  have HT := Lib.hid ht
  have HX := Lib.hid ((Bk.new w (tbC A n a B m b) 34).al (.cells #[.slice none 0 0, .slice none 0 0] 25))
  have HZ := Bk.new (w.alloc (.cells (tbC A n a B m b) 34)) #[.slice none 0 0, .slice none 0 0] 25
  rw [size_al] at HZ
  have HZ := Lib.hid HZ
  have HB := Lib.hid (below_two (below_new w (.cells (tbC A n a B m b) 34)) (below_new _ (.cells #[.slice none 0 0, .slice none 0 0] 25)))
  have hpe := fun V hV => pends_any B m b t.P HT.out.pl hm V (HT.out.below hV).atP
  have x1 := HX.out.t1
  clear ht
  go_enter Try.func14, Try.ntmps14
  go_wp2_with fail
  have HZL := Lib.hid HZ.out.lt
  refine (hpe _ HB.out).mono ?_
  generalize (w.alloc (.cells (tbC A n a B m b) 34)).alloc (.cells #[.slice none 0 0, .slice none 0 0] 25) = w0 at *
  rintro e w1 ⟨pv, rfl, hown, hb⟩
  obtain ⟨B', b', rfl⟩ := own_slice rp_okr hown HT.out.pl
  have HPL := Lib.hid (show ∀ bb o, B' = some ⟨bb, o, none⟩ → w.heap.size + 1 < bb ∧ bb < w1.heap.size from fun bb o e => by have h := hown.lt bb (by rw [e]; rfl); have := HZL.out; omega)
  have HP1 := Lib.hid ((hown.at_ rp_okr).below (below_new w1 (.cells #[.slice none 0 0, .slice B' m b'] 25)))
  replace HX := Lib.hid ((HX.out.below hb).al (.cells #[.slice none 0 0, .slice B' m b'] 25))
  replace HZ := Lib.hid ((HZ.out.below hb).al (.cells #[.slice none 0 0, .slice B' m b'] 25))
  have HGo := Lib.hid (Bk.new w1 #[.slice none 0 0, .slice B' m b'] 25)
  have HGZ := Lib.hid (show w.heap.size + 1 < w1.heap.size from Nat.lt_of_lt_of_le HZL.out hb.size)
  replace HB := Lib.hid ((HB.out.trans (hb.mono HB.out.size)).trans ((below_new w1 (.cells #[.slice none 0 0, .slice B' m b'] 25)).mono (HB.out.trans (hb.mono HB.out.size)).size))
  clear hb hpe hown x1 HZL
  go_upto_region 2 with fail
  generalize hgo : w1.heap.size = go at *
  clear hgo
  generalize w1.alloc (.cells #[.slice none 0 0, .slice B' m b'] 25) = w4 at *
  have HGL := Lib.hid HGo.out.lt
  go_wp2_with fail
  go_loopw [4] (fun u wr => ∃ (j : Nat) (cv : Value), u = .int .i64 (j : Int) ∧ j ≤ n ∧ Hid (RCr.Own wr (go + 1) cv (t.C.take j)) ∧ Hid (RPr.At wr B' t.P) ∧ Hid (Bk wr go #[cv, .slice B' m b'] 25) ∧ Hid (Bk wr w.heap.size (tbC A n a B m b) 34) ∧ Hid (Bk wr (w.heap.size + 1) #[.slice none 0 0, .slice none 0 0] 25) ∧ Hid (Below w.heap.size w wr) ∧ Hid (go + 1 ≤ wr.heap.size)) (fun u _ => n - (intOf u).toNat)
  case atStart => exact ⟨0, _, rfl, Nat.zero_le _, Rk.Own.nil _ _ _, HP1, HGo, HX, HZ, HB, HGL⟩
  case round =>
    obtain ⟨j, cv, rfl, hj, HOj, HPj, HKj, HXj, HZj, HBj, HSj⟩ := hrel
    have x0 := HXj.out.t0
    rcases Nat.lt_or_ge j n with hlt | hge
    · obtain ⟨b2, o2, hA, hbl, hget, h0, h1, h2⟩ := ct_cellso HT.out.atC HT.out.cl hlt
      subst hA
      have HTK := Lib.hid (show t.C.take (j + 1) = t.C.take j ++ [t.C.getD j ctD] from by rw [List.take_add_one, hget]; rfl)
      have HLN := Lib.hid (show (t.C.take j).length ≤ 3000 from by rw [List.length_take]; omega)
      generalize t.C.getD j ctD = p at *
      obtain ⟨lo, hi, v⟩ := p
      simp only at h0 h1 h2
      generalize t.C.take j = acc at *
      have HBL := Lib.hid (show b2 < w.heap.size from hbl)
      have HC0 := Lib.hid ((HBj.out.cell (p := ⟨b2, o2 + j * 3, none⟩) hbl).trans h0)
      have HC1 := Lib.hid ((HBj.out.cell (p := ⟨b2, o2 + j * 3 + 1, none⟩) hbl).trans h1)
      have HC2 := Lib.hid ((HBj.out.cell (p := ⟨b2, o2 + j * 3 + 2, none⟩) hbl).trans h2)
      have hd4 : decide ((j : Int) < (n : Int)) = true := decide_eq_true (by omega)
      have hd5 : decide (j < n) = true := decide_eq_true hlt
      have hi1 : (j : Int) < (n : Int) := by omega
      clear h0 h1 h2 hbl hget
      go_upto_region 5 with fail
      clear x0
      have HNX := Lib.hid (show ∀ z, (z = go ∨ cv.ownBlock = some z) → w.heap.size + 1 < z from fun z h => by
        have h1 := HGZ.out
        rcases h with h | h
        · omega
        · have := (HOj.out.lt z h).1; omega)
      have X0 : ∀ V, Turn (fun z => z = go ∨ cv.ownBlock = some z) wr V → V.cell? ⟨w.heap.size, 0, none⟩ = some (.slice (some ⟨b2, o2, none⟩) n a) := fun V hV => (HXj.out.turn hV (fun h => by have := HNX.out _ h; omega)).t0
      have D0 : ∀ V, Turn (fun z => z = go ∨ cv.ownBlock = some z) wr V → V.cell? ⟨b2, o2 + j * 3, none⟩ = some (.int .i64 lo) := fun V hV => hV.cell HC0.out (fun h => by have h1 := HNX.out _ h; have h2 := HBL.out; simp only at h1; omega)
      have D1 : ∀ V, Turn (fun z => z = go ∨ cv.ownBlock = some z) wr V → V.cell? ⟨b2, o2 + j * 3 + 1, none⟩ = some (.int .i64 hi) := fun V hV => hV.cell HC1.out (fun h => by have h1 := HNX.out _ h; have h2 := HBL.out; simp only at h1; omega)
      have D2 : ∀ V, Turn (fun z => z = go ∨ cv.ownBlock = some z) wr V → V.cell? ⟨b2, o2 + j * 3 + 2, none⟩ = some (.int .i64 v) := fun V hV => hV.cell HC2.out (fun h => by have h1 := HNX.out _ h; have h2 := HBL.out; simp only at h1; omega)
      have HKd := Lib.hid (HKj.out.below (V := World.drew wr) ((Below.refl _ _).drew))
      have HOd := Lib.hid (HOj.out.below (w' := World.drew wr) ((Below.refl _ _).drew))
      have HKA := Lib.hid (HKd.out.al (.cells #[.int .i64 lo, .int .i64 hi, .int .i64 v] 72))
      have HOA := Lib.hid (HOd.out.below (below_new (World.drew wr) (.cells #[.int .i64 lo, .int .i64 hi, .int .i64 v] 72)))
      have HSA := Lib.hid (Nat.le_trans HSj.out (show wr.heap.size ≤ ((World.drew wr).alloc (.cells #[.int .i64 lo, .int .i64 hi, .int .i64 v] 72)).heap.size from (below_new (World.drew wr) _).size))
      have k1 : wr.cell? ⟨go, 0, none⟩ = some cv := HKj.out.c 0 _ rfl
      have k2 : (wr.alloc (.cells #[.int .i64 lo, .int .i64 hi, .int .i64 v] 72)).cell? ⟨go, 0, none⟩ = some cv := HKA.out.c 0 _ rfl
      refine wp_region_turn (X := (fun q => q = go ∨ cv.ownBlock = some q)) (by kernel_rfl) ?_
      have hS : Turn (fun q => q = go ∨ cv.ownBlock = some q) wr (World.drew wr) := (Turn.refl _ _).drew
      refine wpAnyH_take (i := 0) (oi := ⟨some 16, _, _, _, _, _⟩) (v := ?_) rfl (by kernel_rfl) (by kernel_rfl) (by kernel_rfl) (fun _ _ _ h => h) (Or.inl ⟨by rfl, ?_⟩) hS ?_
      rotate_left
      · intro W hW; go_simp; with_reducible rfl
      try simp only [Act.put, List.setIfInBounds_toArray, List.set_cons_zero, List.set_cons_succ]
      refine wpAnyH_take (i := 2) (oi := ⟨some 18, _, _, _, _, _⟩) (v := ?_) rfl (by kernel_rfl) (by kernel_rfl) (by kernel_rfl) (fun _ _ _ h => h) (Or.inl ⟨by rfl, ?_⟩) hS ?_
      rotate_left
      · intro W hW; go_simp; with_reducible rfl
      try simp only [Act.put, List.setIfInBounds_toArray, List.set_cons_zero, List.set_cons_succ]
      refine wpAnyH_take (i := 3) (oi := ⟨some 19, _, _, _, _, _⟩) (v := ?_) rfl (by kernel_rfl) (by kernel_rfl) (by kernel_rfl) (fun _ _ _ h => h) (Or.inl ⟨by rfl, ?_⟩) hS ?_
      rotate_left
      · intro W hW; go_simp; with_reducible rfl
      try simp only [Act.put, List.setIfInBounds_toArray, List.set_cons_zero, List.set_cons_succ]
      refine wpAnyH_take (i := 4) (oi := ⟨some 20, _, _, _, _, _⟩) (v := ?_) rfl (by kernel_rfl) (by kernel_rfl) (by kernel_rfl) (fun _ _ _ h => h) (Or.inl ⟨by rfl, ?_⟩) hS ?_
      rotate_left
      · intro W hW; go_simp; with_reducible rfl
      try simp only [Act.put, List.setIfInBounds_toArray, List.set_cons_zero, List.set_cons_succ]
      refine wpAnyH_take (i := 5) (oi := ⟨some 21, _, _, _, _, _⟩) (v := ?_) rfl (by kernel_rfl) (by kernel_rfl) (by kernel_rfl) (fun _ _ _ h => h) (Or.inl ⟨by rfl, ?_⟩) hS ?_
      rotate_left
      · intro W hW; go_simp; with_reducible rfl
      try simp only [Act.put, List.setIfInBounds_toArray, List.set_cons_zero, List.set_cons_succ]
      refine wpAnyH_take (i := 6) (oi := ⟨some 22, _, _, _, _, _⟩) (v := ?_) rfl (by kernel_rfl) (by kernel_rfl) (by kernel_rfl) (fun _ _ _ h => h) (Or.inl ⟨by rfl, ?_⟩) hS ?_
      rotate_left
      · intro W hW; go_simp; with_reducible rfl
      try simp only [Act.put, List.setIfInBounds_toArray, List.set_cons_zero, List.set_cons_succ]
      refine wpAnyH_take (i := 7) (oi := ⟨some 23, _, _, _, _, _⟩) (v := ?_) rfl (by kernel_rfl) (by kernel_rfl) (by kernel_rfl) (fun _ _ _ h => h) (Or.inl ⟨by rfl, ?_⟩) hS ?_
      rotate_left
      · intro W hW; go_simp; with_reducible rfl
      try simp only [Act.put, List.setIfInBounds_toArray, List.set_cons_zero, List.set_cons_succ]
      refine wpAnyH_take (i := 8) (oi := ⟨some 24, _, _, _, _, _⟩) (v := ?_) rfl (by kernel_rfl) (by kernel_rfl) (by kernel_rfl) (fun _ _ _ h => h) (Or.inl ⟨by rfl, ?_⟩) hS ?_
      rotate_left
      · intro W hW; go_simp; with_reducible rfl
      try simp only [Act.put, List.setIfInBounds_toArray, List.set_cons_zero, List.set_cons_succ]
      refine wpAnyH_take (i := 9) (oi := ⟨some 25, _, _, _, _, _⟩) (v := ?_) rfl (by kernel_rfl) (by kernel_rfl) (by kernel_rfl) (fun _ _ _ h => h) (Or.inl ⟨by rfl, ?_⟩) hS ?_
      rotate_left
      · intro W hW; go_simp; with_reducible rfl
      try simp only [Act.put, List.setIfInBounds_toArray, List.set_cons_zero, List.set_cons_succ]
      refine wpAnyH_take (i := 10) (oi := ⟨some 26, _, _, _, _, _⟩) (v := ?_) rfl (by kernel_rfl) (by kernel_rfl) (by kernel_rfl) (fun _ _ _ h => h) (Or.inl ⟨by rfl, ?_⟩) hS ?_
      rotate_left
      · intro W hW; go_simp; with_reducible rfl
      try simp only [Act.put, List.setIfInBounds_toArray, List.set_cons_zero, List.set_cons_succ]
      refine wpAnyH_take (i := 11) (oi := ⟨some 27, _, _, _, _, _⟩) (v := ?_) rfl (by kernel_rfl) (by kernel_rfl) (by kernel_rfl) (fun _ _ _ h => h) (Or.inl ⟨by rfl, ?_⟩) hS ?_
      rotate_left
      · intro W hW; go_simp; with_reducible rfl
      try simp only [Act.put, List.setIfInBounds_toArray, List.set_cons_zero, List.set_cons_succ]
      refine wpAnyH_take (i := 12) (oi := ⟨some 28, _, _, _, _, _⟩) (v := ?_) rfl (by kernel_rfl) (by kernel_rfl) (by kernel_rfl) (fun _ _ _ h => h) (Or.inl ⟨by rfl, ?_⟩) hS ?_
      rotate_left
      · intro W hW; go_simp; with_reducible rfl
      try simp only [Act.put, List.setIfInBounds_toArray, List.set_cons_zero, List.set_cons_succ]
      refine wpAnyH_take (i := 13) (oi := ⟨some 29, _, _, _, _, _⟩) (v := ?_) rfl (by kernel_rfl) (by kernel_rfl) (by kernel_rfl) (fun _ _ _ h => h) (Or.inl ⟨by rfl, ?_⟩) hS ?_
      rotate_left
      · intro W hW; go_simp; with_reducible rfl
      try simp only [Act.put, List.setIfInBounds_toArray, List.set_cons_zero, List.set_cons_succ]
      refine wpAnyH_take (i := 14) (oi := ⟨some 30, _, _, _, _, _⟩) (v := ?_) rfl (by kernel_rfl) (by kernel_rfl) (by kernel_rfl) (fun _ _ _ h => h) (Or.inl ⟨by rfl, ?_⟩) hS ?_
      rotate_left
      · intro W hW; go_simp; with_reducible rfl
      try simp only [Act.put, List.setIfInBounds_toArray, List.set_cons_zero, List.set_cons_succ]
      refine wpAnyH_take (i := 15) (oi := ⟨some 31, _, _, _, _, _⟩) (v := ?_) rfl (by kernel_rfl) (by kernel_rfl) (by kernel_rfl) (fun _ _ _ h => h) (Or.inl ⟨by rfl, ?_⟩) hS ?_
      rotate_left
      · intro W hW; go_simp; with_reducible rfl
      try simp only [Act.put, List.setIfInBounds_toArray, List.set_cons_zero, List.set_cons_succ]
      refine wpAnyH_take (i := 16) (oi := ⟨some 32, _, _, _, _, _⟩) (v := ?_) rfl (by kernel_rfl) (by kernel_rfl) (by kernel_rfl) (fun _ _ _ h => h) (Or.inl ⟨by rfl, ?_⟩) hS ?_
      rotate_left
      · intro W hW; go_simp; with_reducible rfl
      try simp only [Act.put, List.setIfInBounds_toArray, List.set_cons_zero, List.set_cons_succ]
      refine wpAnyH_take (i := 17) (oi := ⟨some 33, _, _, _, _, _⟩) (v := ?_) rfl (by kernel_rfl) (by kernel_rfl) (by kernel_rfl) (fun _ _ _ h => h) (Or.inl ⟨by rfl, ?_⟩) hS ?_
      rotate_left
      · intro W hW; go_simp; with_reducible rfl
      try simp only [Act.put, List.setIfInBounds_toArray, List.set_cons_zero, List.set_cons_succ]
      refine wpAnyH_take (i := 18) (oi := ⟨some 34, _, _, _, _, _⟩) (v := ?_) rfl (by kernel_rfl) (by kernel_rfl) (by kernel_rfl) (fun _ _ _ h => h) (Or.inl ⟨by rfl, ?_⟩) hS ?_
      rotate_left
      · intro W hW; go_simp; with_reducible rfl
      try simp only [Act.put, List.setIfInBounds_toArray, List.set_cons_zero, List.set_cons_succ]
      refine wpAnyH_take (i := 19) (oi := ⟨some 35, _, _, _, _, _⟩) (v := ?_) rfl (by kernel_rfl) (by kernel_rfl) (by kernel_rfl) (fun _ _ _ h => h) (Or.inl ⟨by rfl, ?_⟩) hS ?_
      rotate_left
      · intro W hW; go_simp; with_reducible rfl
      try simp only [Act.put, List.setIfInBounds_toArray, List.set_cons_zero, List.set_cons_succ]
      refine wpAnyH_take (i := 20) (oi := ⟨some 36, _, _, _, _, _⟩) (v := ?_) rfl (by kernel_rfl) (by kernel_rfl) (by kernel_rfl) (fun _ _ _ h => h) (Or.inl ⟨by rfl, ?_⟩) hS ?_
      rotate_left
      · intro W hW; go_simp; with_reducible rfl
      try simp only [Act.put, List.setIfInBounds_toArray, List.set_cons_zero, List.set_cons_succ]
      refine wpAnyH_ready (rs := [1, 21]) (by kernel_rfl) (by simp) ?_
      refine AllReadyH.cons (o := ⟨some 17, _, _, _, _, _⟩) rfl (fun Kr hKr => ?_) (AllReadyH.cons (o := ⟨some 37, _, _, _, _, _⟩) rfl (fun Kr hKr => ?_) AllReadyH.nil)
      · skip
        -- operation 1: a step
        try rw [if_pos (by kernel_rfl)]
        go_simp
        show Kr _ _
        refine hKr.out _ _ ?_ (fun _ => ?_)
        · exact hS
        clear hKr Kr
        try simp only [Act.put, List.setIfInBounds_toArray, List.set_cons_zero, List.set_cons_succ]
        refine wpAnyH_ready (rs := [21]) (by kernel_rfl) (by simp) ?_
        refine AllReadyH.cons (o := ⟨some 37, _, _, _, _, _⟩) rfl (fun Kr hKr => ?_) AllReadyH.nil
        -- operation 21: a step
        try rw [if_pos (by kernel_rfl)]
        go_simp
        show Kr _ _
        refine hKr.out _ _ ?_ (fun _ => ?_)
        · exact Turn.trans hS (Turn.ofBelow (below_new _ _))
        clear hKr Kr
        replace hS : Turn (fun q => q = go ∨ cv.ownBlock = some q) wr ((World.drew wr).alloc (.cells #[.int .i64 lo, .int .i64 hi, .int .i64 v] 72)) := Turn.trans hS (Turn.ofBelow (below_new _ _))
        try simp only [Act.put, List.setIfInBounds_toArray, List.set_cons_zero, List.set_cons_succ]
        refine wpAnyH_ready (rs := [22]) (by kernel_rfl) (by simp) ?_
        refine AllReadyH.cons (o := ⟨some 38, _, _, _, _, _⟩) rfl (fun Kr hKr => ?_) AllReadyH.nil
        -- operation 22: a step
        try rw [if_pos (by kernel_rfl)]
        refine Rk.wp_append rc_okr (.tmp 17) (.tmp 37) rfl (go + 1) cv acc [⟨lo, hi, v⟩] rfl HOA.out _ 1 1 rfl (ct_at (World.drew wr) lo hi v) rfl (.inr ⟨_, _, rfl⟩) (by have := HLN.out; rw [List.length_singleton]; omega) HSA.out ?_
        intro v8 w8 hx1 hg1 ha1
        obtain ⟨n8, hn8⟩ : ∃ n8, (acc ++ [(⟨lo, hi, v⟩ : Ct)]).length = n8 := ⟨_, rfl⟩
        obtain ⟨A8, c8, rfl⟩ := own_slice rc_okr hx1 hn8
        clear hn8
        have HO8 := Lib.hid hx1
        have HG8 := Lib.hid hg1
        have HK8 := Lib.hid (HKA.out.far hg1 (fun e => by have := (HOA.out.lt _ e.symm).1; omega))
        have k1 : w8.cell? ⟨go, 0, none⟩ = some cv := HK8.out.c 0 _ rfl
        have k2 := HK8.out.fr 0
        show Kr _ _
        refine hKr.out _ _ ?_ (fun _ => ?_)
        · exact Turn.trans hS (Turn.grown (Turn.refl _ _) hg1 (fun j e => .inl (.inr e)))
        clear hKr Kr
        replace hS : Turn (fun q => q = go ∨ cv.ownBlock = some q) wr w8 := Turn.trans hS (Turn.grown (Turn.refl _ _) hg1 (fun j e => .inl (.inr e)))
        try simp only [Act.put, List.setIfInBounds_toArray, List.set_cons_zero, List.set_cons_succ]
        refine wpAnyH_take (i := 23) (oi := ⟨some 39, _, _, _, _, _⟩) (v := ?_) rfl (by kernel_rfl) (by kernel_rfl) (by kernel_rfl) (fun _ _ _ h => h) (Or.inl ⟨by rfl, ?_⟩) hS ?_
        rotate_left
        · intro W hW; go_simp; with_reducible rfl
        try simp only [Act.put, List.setIfInBounds_toArray, List.set_cons_zero, List.set_cons_succ]
        refine wpAnyH_ready (rs := [24]) (by kernel_rfl) (by simp) ?_
        refine AllReadyH.cons (o := ⟨none, _, _, _, _, _⟩) rfl (fun Kr hKr => ?_) AllReadyH.nil
        -- operation 24: a step
        try rw [if_pos (by kernel_rfl)]
        go_simp
        show Kr _ _
        refine hKr.out _ _ ?_ (fun _ => ?_)
        · exact Turn.trans hS ((Turn.refl _ _).setCell _ _ (.inl (.inl rfl)))
        clear hKr Kr
        replace hS : Turn (fun q => q = go ∨ cv.ownBlock = some q) wr (w8.setCell ⟨go, 0, none⟩ (.slice A8 n8 c8)) := Turn.trans hS ((Turn.refl _ _).setCell _ _ (.inl (.inl rfl)))
        try simp only [Act.put, List.setIfInBounds_toArray, List.set_cons_zero, List.set_cons_succ]
        refine wpAnyH_done (by kernel_rfl) ?_ _
        have HK9 := Lib.hid (show Bk (w8.setCell ⟨go, 0, none⟩ (.slice A8 n8 c8)) go #[.slice A8 n8 c8, .slice B' m b'] 25 from heap_setCell_same w8 go 0 _ _ (.slice A8 n8 c8) HK8.out)
        have HO9 : Hid (RCr.Own (w8.setCell ⟨go, 0, none⟩ (.slice A8 n8 c8)) (go + 1) (.slice A8 n8 c8) (acc ++ [⟨lo, hi, v⟩])) := HO8.out.turn (S := fun q => q = go) ((Turn.refl _ _).setCell _ _ (.inl rfl)) (fun q e h => by have := (HO8.out.lt q e).1; omega)
        have HT9 := Lib.hid hS
        clear hS
        go_wp2_with fail
        exact ⟨⟨j + 1, .slice A8 n8 c8, rfl, hlt, by rw [HTK.out]; exact HO9, Lib.hid (HPj.out.turn HT9.out (fun bb o e => .inr (fun h => by have h1 := HPL.out bb o e; rcases h with h | h; omega; have := (HOj.out.lt _ h).1; omega))), HK9, Lib.hid (HXj.out.turn HT9.out (fun h => by have := HNX.out _ h; omega)), Lib.hid (HZj.out.turn HT9.out (fun h => by have := HNX.out _ h; omega)), Lib.hid (HBj.out.trans (HT9.out.below (B := w.heap.size) (fun z h => by have := HNX.out _ h; omega) HBj.out.size)), Lib.hid (Nat.le_trans HSj.out HT9.out.size)⟩, by simp [intOf]; omega⟩
      · skip
        -- operation 21: a step
        try rw [if_pos (by kernel_rfl)]
        go_simp
        show Kr _ _
        refine hKr.out _ _ ?_ (fun _ => ?_)
        · exact Turn.trans hS (Turn.ofBelow (below_new _ _))
        clear hKr Kr
        replace hS : Turn (fun q => q = go ∨ cv.ownBlock = some q) wr ((World.drew wr).alloc (.cells #[.int .i64 lo, .int .i64 hi, .int .i64 v] 72)) := Turn.trans hS (Turn.ofBelow (below_new _ _))
        try simp only [Act.put, List.setIfInBounds_toArray, List.set_cons_zero, List.set_cons_succ]
        refine wpAnyH_ready (rs := [1]) (by kernel_rfl) (by simp) ?_
        refine AllReadyH.cons (o := ⟨some 17, _, _, _, _, _⟩) rfl (fun Kr hKr => ?_) AllReadyH.nil
        -- operation 1: a step
        try rw [if_pos (by kernel_rfl)]
        go_simp
        show Kr _ _
        refine hKr.out _ _ ?_ (fun _ => ?_)
        · exact hS
        clear hKr Kr
        try simp only [Act.put, List.setIfInBounds_toArray, List.set_cons_zero, List.set_cons_succ]
        refine wpAnyH_ready (rs := [22]) (by kernel_rfl) (by simp) ?_
        refine AllReadyH.cons (o := ⟨some 38, _, _, _, _, _⟩) rfl (fun Kr hKr => ?_) AllReadyH.nil
        -- operation 22: a step
        try rw [if_pos (by kernel_rfl)]
        refine Rk.wp_append rc_okr (.tmp 17) (.tmp 37) rfl (go + 1) cv acc [⟨lo, hi, v⟩] rfl HOA.out _ 1 1 rfl (ct_at (World.drew wr) lo hi v) rfl (.inr ⟨_, _, rfl⟩) (by have := HLN.out; rw [List.length_singleton]; omega) HSA.out ?_
        intro v8 w8 hx1 hg1 ha1
        obtain ⟨n8, hn8⟩ : ∃ n8, (acc ++ [(⟨lo, hi, v⟩ : Ct)]).length = n8 := ⟨_, rfl⟩
        obtain ⟨A8, c8, rfl⟩ := own_slice rc_okr hx1 hn8
        clear hn8
        have HO8 := Lib.hid hx1
        have HG8 := Lib.hid hg1
        have HK8 := Lib.hid (HKA.out.far hg1 (fun e => by have := (HOA.out.lt _ e.symm).1; omega))
        have k1 : w8.cell? ⟨go, 0, none⟩ = some cv := HK8.out.c 0 _ rfl
        have k2 := HK8.out.fr 0
        show Kr _ _
        refine hKr.out _ _ ?_ (fun _ => ?_)
        · exact Turn.trans hS (Turn.grown (Turn.refl _ _) hg1 (fun j e => .inl (.inr e)))
        clear hKr Kr
        replace hS : Turn (fun q => q = go ∨ cv.ownBlock = some q) wr w8 := Turn.trans hS (Turn.grown (Turn.refl _ _) hg1 (fun j e => .inl (.inr e)))
        try simp only [Act.put, List.setIfInBounds_toArray, List.set_cons_zero, List.set_cons_succ]
        refine wpAnyH_take (i := 23) (oi := ⟨some 39, _, _, _, _, _⟩) (v := ?_) rfl (by kernel_rfl) (by kernel_rfl) (by kernel_rfl) (fun _ _ _ h => h) (Or.inl ⟨by rfl, ?_⟩) hS ?_
        rotate_left
        · intro W hW; go_simp; with_reducible rfl
        try simp only [Act.put, List.setIfInBounds_toArray, List.set_cons_zero, List.set_cons_succ]
        refine wpAnyH_ready (rs := [24]) (by kernel_rfl) (by simp) ?_
        refine AllReadyH.cons (o := ⟨none, _, _, _, _, _⟩) rfl (fun Kr hKr => ?_) AllReadyH.nil
        -- operation 24: a step
        try rw [if_pos (by kernel_rfl)]
        go_simp
        show Kr _ _
        refine hKr.out _ _ ?_ (fun _ => ?_)
        · exact Turn.trans hS ((Turn.refl _ _).setCell _ _ (.inl (.inl rfl)))
        clear hKr Kr
        replace hS : Turn (fun q => q = go ∨ cv.ownBlock = some q) wr (w8.setCell ⟨go, 0, none⟩ (.slice A8 n8 c8)) := Turn.trans hS ((Turn.refl _ _).setCell _ _ (.inl (.inl rfl)))
        try simp only [Act.put, List.setIfInBounds_toArray, List.set_cons_zero, List.set_cons_succ]
        refine wpAnyH_done (by kernel_rfl) ?_ _
        have HK9 := Lib.hid (show Bk (w8.setCell ⟨go, 0, none⟩ (.slice A8 n8 c8)) go #[.slice A8 n8 c8, .slice B' m b'] 25 from heap_setCell_same w8 go 0 _ _ (.slice A8 n8 c8) HK8.out)
        have HO9 : Hid (RCr.Own (w8.setCell ⟨go, 0, none⟩ (.slice A8 n8 c8)) (go + 1) (.slice A8 n8 c8) (acc ++ [⟨lo, hi, v⟩])) := HO8.out.turn (S := fun q => q = go) ((Turn.refl _ _).setCell _ _ (.inl rfl)) (fun q e h => by have := (HO8.out.lt q e).1; omega)
        have HT9 := Lib.hid hS
        clear hS
        go_wp2_with fail
        exact ⟨⟨j + 1, .slice A8 n8 c8, rfl, hlt, by rw [HTK.out]; exact HO9, Lib.hid (HPj.out.turn HT9.out (fun bb o e => .inr (fun h => by have h1 := HPL.out bb o e; rcases h with h | h; omega; have := (HOj.out.lt _ h).1; omega))), HK9, Lib.hid (HXj.out.turn HT9.out (fun h => by have := HNX.out _ h; omega)), Lib.hid (HZj.out.turn HT9.out (fun h => by have := HNX.out _ h; omega)), Lib.hid (HBj.out.trans (HT9.out.below (B := w.heap.size) (fun z h => by have := HNX.out _ h; omega) HBj.out.size)), Lib.hid (Nat.le_trans HSj.out HT9.out.size)⟩, by simp [intOf]; omega⟩
    · obtain rfl : j = n := by omega
      have hd4 : decide ((j : Int) < (j : Int)) = false := decide_eq_false (by omega)
      have hd5 : decide (j < j) = false := decide_eq_false (by omega)
      have hlj : t.C.take j = t.C := List.take_of_length_le (by rw [HT.out.cl]; exact Nat.le_refl _)
      rw [hlj] at HOj
      clear hlj
      obtain ⟨A6, c6, e6⟩ := own_slice rc_okr HOj.out HT.out.cl
      subst e6
      have g0 := HKj.out.t0
      have g1 := HKj.out.t1
      have z0 : wr.cell? ⟨w.heap.size + 1, 0, none⟩ = some (.slice none 0 0) := HZj.out.c 0 _ rfl
      have z1 : wr.cell? ⟨w.heap.size + 1, 1, none⟩ = some (.slice none 0 0) := HZj.out.c 1 _ rfl
      have f0 := HZj.out.fr 0
      have f1 := HZj.out.fr 1
      go_wp2_with fail
      refine bodyPost_ret (v := tbV A6 j c6 B' m b') (by rw [results_cell_one rfl]; go_simp) rfl ⟨A6, c6, B', b', rfl, ?_, (HBj.out.setCell (show w.heap.size ≤ w.heap.size + 1 from by omega) _).setCell (show w.heap.size ≤ w.heap.size + 1 from by omega) _⟩
      have hT := ((Turn.refl (fun q => q = w.heap.size + 1) wr).setCell ⟨w.heap.size + 1, 0, none⟩ (.slice A6 j c6) (.inl rfl)).setCell ⟨w.heap.size + 1, 1, none⟩ (.slice B' m b') (.inl rfl)
      exact ⟨HT.out.cl, HT.out.pl, HT.out.okC, HT.out.okP, (HOj.out.turn hT (fun k e h => by have h1 := (HOj.out.lt k e).1; have := HGZ.out; omega)).at_ rc_okr, HPj.out.turn hT (fun bb o e => .inr (fun h => by have := HPL.out bb o e; omega))⟩
end Go.Proofs.Ytogngghfdcpeaaa
