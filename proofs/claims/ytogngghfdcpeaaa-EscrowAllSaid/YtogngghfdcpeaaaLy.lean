/-
  The law's own: the document's table as the program's.
-/
import Derived.Test.YtogngghfdcpeaaaLx
namespace Go.Proofs.Ytogngghfdcpeaaa
set_option maxRecDepth 100000
set_option linter.unusedVariables false
set_option linter.unusedSimpArgs false
open Go.RowKit

theorem TbAt.c2 {W : World} {A B : Option Addr} {n m : Nat} {t : Tb} (h : TbAt W A n B m t) {i : Nat} (hi : i < n) : ∃ b o, A = some ⟨b, o, none⟩ ∧ b < W.heap.size ∧ t.C[i]? = some (t.C.getD i ctD) ∧
    W.cell? ⟨b, o + i * 3, none⟩ = some (.int .i64 (t.C.getD i ctD).lo) ∧ W.cell? ⟨b, o + i * 3 + 1, none⟩ = some (.int .i64 (t.C.getD i ctD).hi) ∧
    W.cell? ⟨b, o + i * 3 + 2, none⟩ = some (.int .i64 (t.C.getD i ctD).v) := by
  obtain ⟨b, o, e, hb, _, h0, h1, h2⟩ := h.c hi
  exact ⟨b, o, e, hb, ctget h.cl hi, h0, h1, h2⟩
theorem ct_ato (w : World) (lo hi v : Int) : RCo.At (w.alloc (.cells #[.int .i64 lo, .int .i64 hi, .int .i64 v] 67)) (some ⟨w.heap.size, 0, none⟩) [⟨lo, hi, v⟩] := Rk.At.new rc_oko w ⟨lo, hi, v⟩ 67
theorem pd_ato (w : World) (c x u d : Int) : RPo.At (w.alloc (.cells #[.int .i64 c, .int .i64 x, .int .i64 u, .int .i64 d] 75)) (some ⟨w.heap.size, 0, none⟩) [⟨c, x, u, d⟩] := Rk.At.new rp_oko w ⟨c, x, u, d⟩ 75

theorem own_parts {α : Type} {R : Rk α} (hR : R.Ok) {W : World} {base n c : Nat} {A : Option Addr} {l : List α} (h : R.Own W base (.slice A n c) l) (hn : l.length = n) : R.At W A l ∧ n ≤ c ∧ Sp A ∧ (∀ g o, A = some ⟨g, o, none⟩ → base ≤ g ∧ g < W.heap.size) := by
  obtain ⟨A', c', e, h1, h2, h3⟩ := h.form hR
  injection e with e1 e2 e3
  subst e1; subst e3
  refine ⟨h2, by omega, ?_, ?_⟩
  · rcases h3 with h3 | ⟨g, e, _⟩
    · exact .inl h3
    · exact .inr ⟨g, 0, e⟩
  · intro g o e
    rcases h3 with h3 | ⟨g', e', h4, h5⟩
    · rw [h3] at e; cases e
    · rw [e'] at e; injection e with e; injection e with e1 _; subst e1; exact ⟨h4, h5⟩

set_option maxHeartbeats 4000000 in
theorem ours_any (A B : Option Addr) (n a m b : Nat) (t : Tb) (hn : n ≤ 3000) (hm : m ≤ 3000) (w : World) (ht : TbAt w A n B m t) :
    Calls Try.prog 7 #[tbV A n a B m b] w fun e w' => ∃ A' a' B' b', e = .returned (tbV A' n a' B' m b') ∧ TbAto w' A' n B' m t ∧ (n ≤ a' ∧ Sp A' ∧ m ≤ b' ∧ Sp B' ∧ ∀ g o, B' = some ⟨g, o, none⟩ → g < w'.heap.size) ∧ Below w.heap.size w w' := by
  have HT := Lib.hid ht
  have HX := Lib.hid (((Bk.new w (tbC A n a B m b) 25).al (.cells #[.slice none 0 0, .slice none 0 0] 34)).al (.cells #[.slice none 0 0, .slice none 0 0] 34))
  have HZ := Bk.new (w.alloc (.cells (tbC A n a B m b) 25)) #[.slice none 0 0, .slice none 0 0] 34
  rw [size_al] at HZ
  have HZ := Lib.hid (HZ.al (.cells #[.slice none 0 0, .slice none 0 0] 34))
  have HGo := Bk.new ((w.alloc (.cells (tbC A n a B m b) 25)).alloc (.cells #[.slice none 0 0, .slice none 0 0] 34)) #[.slice none 0 0, .slice none 0 0] 34
  rw [size_al, size_al] at HGo
  have HGo := Lib.hid HGo
  have HB := Lib.hid (below_two (below_two (below_new w (.cells (tbC A n a B m b) 25)) (below_new _ (.cells #[.slice none 0 0, .slice none 0 0] 34))) (below_new _ (.cells #[.slice none 0 0, .slice none 0 0] 34)))
  clear ht
  go_enter Try.func7, Try.ntmps7
  go_upto_region 2 with fail
  obtain ⟨go, hgo⟩ : ∃ go, go = w.heap.size + 1 + 1 := ⟨_, rfl⟩
  rw [← hgo] at HGo
  have HGZ := Lib.hid (show w.heap.size + 1 < go from by omega)
  have HGE := Lib.hid hgo
  try simp only [Nat.add_assoc, Nat.reduceAdd]
  try rw [show w.heap.size + 2 = go from by omega]
  try rw [← hgo]
  clear hgo
  generalize ((w.alloc (.cells (tbC A n a B m b) 25)).alloc (.cells #[.slice none 0 0, .slice none 0 0] 34)).alloc (.cells #[.slice none 0 0, .slice none 0 0] 34) = w4 at *
  have HGL := Lib.hid HGo.out.lt
  go_wp2_with fail
  go_loopw [4] (fun u wr => ∃ (j : Nat) (cv : Value), u = .int .i64 (j : Int) ∧ j ≤ n ∧ Hid (RCo.Own wr (go + 1) cv (t.C.take j)) ∧ Hid (Bk wr go #[cv, .slice none 0 0] 34) ∧ Hid (Bk wr w.heap.size (tbC A n a B m b) 25) ∧ Hid (Bk wr (w.heap.size + 1) #[.slice none 0 0, .slice none 0 0] 34) ∧ Hid (Below w.heap.size w wr) ∧ Hid (go + 1 ≤ wr.heap.size)) (fun u _ => n - (intOf u).toNat)
  case atStart => exact ⟨0, _, rfl, Nat.zero_le _, Rk.Own.nil _ _ _, HGo, HX, HZ, HB, HGL⟩
  case round =>
    obtain ⟨j, cv, rfl, hj, HOj, HKj, HXj, HZj, HBj, HSj⟩ := hrel
    have x0 := HXj.out.t0
    rcases Nat.lt_or_ge j n with hlt | hge
    · obtain ⟨b2, o2, hA, hbl, hget, h0, h1, h2⟩ := HT.out.c2 hlt
      subst hA
      have HTK := Lib.hid (show t.C.take (j + 1) = t.C.take j ++ [t.C.getD j ctD] from by rw [List.take_add_one, hget]; rfl)
      have HLN := Lib.hid (show (t.C.take j).length ≤ 3000 from by rw [List.length_take]; omega)
      generalize t.C.getD j ctD = p at *
      obtain ⟨lo, hi, v⟩ := p
      simp only at h0 h1 h2
      generalize t.C.take j = acc at *
      have HBL := Lib.hid (show b2 < w.heap.size from hbl)
      have HC0 := Lib.hid ((HBj.out.cell (p := ⟨b2, o2 + j * 3, none⟩) hbl).trans h0)
      have HC1 := Lib.hid ((HBj.out.cell (p := ⟨b2, o2 + j * 3 + 1, none⟩) hbl).trans h1)
      have HC2 := Lib.hid ((HBj.out.cell (p := ⟨b2, o2 + j * 3 + 2, none⟩) hbl).trans h2)
      have hd4 : decide ((j : Int) < (n : Int)) = true := decide_eq_true (by omega)
      have hd5 : decide (j < n) = true := decide_eq_true hlt
      have hi1 : (j : Int) < (n : Int) := by omega
      clear h0 h1 h2 hbl hget
      go_upto_region 5 with fail
      clear x0
      have HNX := Lib.hid (show ∀ z, (z = go ∨ cv.ownBlock = some z) → w.heap.size + 1 < z from fun z h => by
        have h1 := HGZ.out
        rcases h with h | h
        · omega
        · have := (HOj.out.lt z h).1; omega)
      have X0 : ∀ V, Turn (fun z => z = go ∨ cv.ownBlock = some z) wr V → V.cell? ⟨w.heap.size, 0, none⟩ = some (.slice (some ⟨b2, o2, none⟩) n a) := fun V hV => (HXj.out.turn hV (fun h => by have := HNX.out _ h; omega)).t0
      have D0 : ∀ V, Turn (fun z => z = go ∨ cv.ownBlock = some z) wr V → V.cell? ⟨b2, o2 + j * 3, none⟩ = some (.int .i64 lo) := fun V hV => hV.cell HC0.out (fun h => by have h1 := HNX.out _ h; have h2 := HBL.out; simp only at h1; omega)
      have D1 : ∀ V, Turn (fun z => z = go ∨ cv.ownBlock = some z) wr V → V.cell? ⟨b2, o2 + j * 3 + 1, none⟩ = some (.int .i64 hi) := fun V hV => hV.cell HC1.out (fun h => by have h1 := HNX.out _ h; have h2 := HBL.out; simp only at h1; omega)
      have D2 : ∀ V, Turn (fun z => z = go ∨ cv.ownBlock = some z) wr V → V.cell? ⟨b2, o2 + j * 3 + 2, none⟩ = some (.int .i64 v) := fun V hV => hV.cell HC2.out (fun h => by have h1 := HNX.out _ h; have h2 := HBL.out; simp only at h1; omega)
      have HKd := Lib.hid (HKj.out.below (V := World.drew wr) ((Below.refl _ _).drew))
      have HOd := Lib.hid (HOj.out.below (w' := World.drew wr) ((Below.refl _ _).drew))
      have HKA := Lib.hid (HKd.out.al (.cells #[.int .i64 lo, .int .i64 hi, .int .i64 v] 67))
      have HOA := Lib.hid (HOd.out.below (below_new (World.drew wr) (.cells #[.int .i64 lo, .int .i64 hi, .int .i64 v] 67)))
      have HSA := Lib.hid (Nat.le_trans HSj.out (show wr.heap.size ≤ ((World.drew wr).alloc (.cells #[.int .i64 lo, .int .i64 hi, .int .i64 v] 67)).heap.size from (below_new (World.drew wr) _).size))
      have k1 : wr.cell? ⟨go, 0, none⟩ = some cv := HKj.out.c 0 _ rfl
      have k2 : (wr.alloc (.cells #[.int .i64 lo, .int .i64 hi, .int .i64 v] 67)).cell? ⟨go, 0, none⟩ = some cv := HKA.out.c 0 _ rfl
      refine wp_region_turn (X := (fun q => q = go ∨ cv.ownBlock = some q)) (by kernel_rfl) ?_
      have hS : Turn (fun q => q = go ∨ cv.ownBlock = some q) wr (World.drew wr) := (Turn.refl _ _).drew
      refine wpAnyH_take (i := 0) (oi := ⟨some 15, _, _, _, _, _⟩) (v := ?_) rfl (by kernel_rfl) (by kernel_rfl) (by kernel_rfl) (fun _ _ _ h => h) (Or.inl ⟨by rfl, ?_⟩) hS ?_
      rotate_left
      · intro W hW; go_simp; with_reducible rfl
      try simp only [Act.put, List.setIfInBounds_toArray, List.set_cons_zero, List.set_cons_succ]
      refine wpAnyH_take (i := 2) (oi := ⟨some 17, _, _, _, _, _⟩) (v := ?_) rfl (by kernel_rfl) (by kernel_rfl) (by kernel_rfl) (fun _ _ _ h => h) (Or.inl ⟨by rfl, ?_⟩) hS ?_
      rotate_left
      · intro W hW; go_simp; with_reducible rfl
      try simp only [Act.put, List.setIfInBounds_toArray, List.set_cons_zero, List.set_cons_succ]
      refine wpAnyH_take (i := 3) (oi := ⟨some 18, _, _, _, _, _⟩) (v := ?_) rfl (by kernel_rfl) (by kernel_rfl) (by kernel_rfl) (fun _ _ _ h => h) (Or.inl ⟨by rfl, ?_⟩) hS ?_
      rotate_left
      · intro W hW; go_simp; with_reducible rfl
      try simp only [Act.put, List.setIfInBounds_toArray, List.set_cons_zero, List.set_cons_succ]
      refine wpAnyH_take (i := 4) (oi := ⟨some 19, _, _, _, _, _⟩) (v := ?_) rfl (by kernel_rfl) (by kernel_rfl) (by kernel_rfl) (fun _ _ _ h => h) (Or.inl ⟨by rfl, ?_⟩) hS ?_
      rotate_left
      · intro W hW; go_simp; with_reducible rfl
      try simp only [Act.put, List.setIfInBounds_toArray, List.set_cons_zero, List.set_cons_succ]
      refine wpAnyH_take (i := 5) (oi := ⟨some 20, _, _, _, _, _⟩) (v := ?_) rfl (by kernel_rfl) (by kernel_rfl) (by kernel_rfl) (fun _ _ _ h => h) (Or.inl ⟨by rfl, ?_⟩) hS ?_
      rotate_left
      · intro W hW; go_simp; with_reducible rfl
      try simp only [Act.put, List.setIfInBounds_toArray, List.set_cons_zero, List.set_cons_succ]
      refine wpAnyH_take (i := 6) (oi := ⟨some 21, _, _, _, _, _⟩) (v := ?_) rfl (by kernel_rfl) (by kernel_rfl) (by kernel_rfl) (fun _ _ _ h => h) (Or.inl ⟨by rfl, ?_⟩) hS ?_
      rotate_left
      · intro W hW; go_simp; with_reducible rfl
      try simp only [Act.put, List.setIfInBounds_toArray, List.set_cons_zero, List.set_cons_succ]
      refine wpAnyH_take (i := 7) (oi := ⟨some 22, _, _, _, _, _⟩) (v := ?_) rfl (by kernel_rfl) (by kernel_rfl) (by kernel_rfl) (fun _ _ _ h => h) (Or.inl ⟨by rfl, ?_⟩) hS ?_
      rotate_left
      · intro W hW; go_simp; with_reducible rfl
      try simp only [Act.put, List.setIfInBounds_toArray, List.set_cons_zero, List.set_cons_succ]
      refine wpAnyH_take (i := 8) (oi := ⟨some 23, _, _, _, _, _⟩) (v := ?_) rfl (by kernel_rfl) (by kernel_rfl) (by kernel_rfl) (fun _ _ _ h => h) (Or.inl ⟨by rfl, ?_⟩) hS ?_
      rotate_left
      · intro W hW; go_simp; with_reducible rfl
      try simp only [Act.put, List.setIfInBounds_toArray, List.set_cons_zero, List.set_cons_succ]
      refine wpAnyH_take (i := 9) (oi := ⟨some 24, _, _, _, _, _⟩) (v := ?_) rfl (by kernel_rfl) (by kernel_rfl) (by kernel_rfl) (fun _ _ _ h => h) (Or.inl ⟨by rfl, ?_⟩) hS ?_
      rotate_left
      · intro W hW; go_simp; with_reducible rfl
      try simp only [Act.put, List.setIfInBounds_toArray, List.set_cons_zero, List.set_cons_succ]
      refine wpAnyH_take (i := 10) (oi := ⟨some 25, _, _, _, _, _⟩) (v := ?_) rfl (by kernel_rfl) (by kernel_rfl) (by kernel_rfl) (fun _ _ _ h => h) (Or.inl ⟨by rfl, ?_⟩) hS ?_
      rotate_left
      · intro W hW; go_simp; with_reducible rfl
      try simp only [Act.put, List.setIfInBounds_toArray, List.set_cons_zero, List.set_cons_succ]
      refine wpAnyH_take (i := 11) (oi := ⟨some 26, _, _, _, _, _⟩) (v := ?_) rfl (by kernel_rfl) (by kernel_rfl) (by kernel_rfl) (fun _ _ _ h => h) (Or.inl ⟨by rfl, ?_⟩) hS ?_
      rotate_left
      · intro W hW; go_simp; with_reducible rfl
      try simp only [Act.put, List.setIfInBounds_toArray, List.set_cons_zero, List.set_cons_succ]
      refine wpAnyH_take (i := 12) (oi := ⟨some 27, _, _, _, _, _⟩) (v := ?_) rfl (by kernel_rfl) (by kernel_rfl) (by kernel_rfl) (fun _ _ _ h => h) (Or.inl ⟨by rfl, ?_⟩) hS ?_
      rotate_left
      · intro W hW; go_simp; with_reducible rfl
      try simp only [Act.put, List.setIfInBounds_toArray, List.set_cons_zero, List.set_cons_succ]
      refine wpAnyH_take (i := 13) (oi := ⟨some 28, _, _, _, _, _⟩) (v := ?_) rfl (by kernel_rfl) (by kernel_rfl) (by kernel_rfl) (fun _ _ _ h => h) (Or.inl ⟨by rfl, ?_⟩) hS ?_
      rotate_left
      · intro W hW; go_simp; with_reducible rfl
      try simp only [Act.put, List.setIfInBounds_toArray, List.set_cons_zero, List.set_cons_succ]
      refine wpAnyH_take (i := 14) (oi := ⟨some 29, _, _, _, _, _⟩) (v := ?_) rfl (by kernel_rfl) (by kernel_rfl) (by kernel_rfl) (fun _ _ _ h => h) (Or.inl ⟨by rfl, ?_⟩) hS ?_
      rotate_left
      · intro W hW; go_simp; with_reducible rfl
      try simp only [Act.put, List.setIfInBounds_toArray, List.set_cons_zero, List.set_cons_succ]
      refine wpAnyH_take (i := 15) (oi := ⟨some 30, _, _, _, _, _⟩) (v := ?_) rfl (by kernel_rfl) (by kernel_rfl) (by kernel_rfl) (fun _ _ _ h => h) (Or.inl ⟨by rfl, ?_⟩) hS ?_
      rotate_left
      · intro W hW; go_simp; with_reducible rfl
      try simp only [Act.put, List.setIfInBounds_toArray, List.set_cons_zero, List.set_cons_succ]
      refine wpAnyH_take (i := 16) (oi := ⟨some 31, _, _, _, _, _⟩) (v := ?_) rfl (by kernel_rfl) (by kernel_rfl) (by kernel_rfl) (fun _ _ _ h => h) (Or.inl ⟨by rfl, ?_⟩) hS ?_
      rotate_left
      · intro W hW; go_simp; with_reducible rfl
      try simp only [Act.put, List.setIfInBounds_toArray, List.set_cons_zero, List.set_cons_succ]
      refine wpAnyH_take (i := 17) (oi := ⟨some 32, _, _, _, _, _⟩) (v := ?_) rfl (by kernel_rfl) (by kernel_rfl) (by kernel_rfl) (fun _ _ _ h => h) (Or.inl ⟨by rfl, ?_⟩) hS ?_
      rotate_left
      · intro W hW; go_simp; with_reducible rfl
      try simp only [Act.put, List.setIfInBounds_toArray, List.set_cons_zero, List.set_cons_succ]
      refine wpAnyH_take (i := 18) (oi := ⟨some 33, _, _, _, _, _⟩) (v := ?_) rfl (by kernel_rfl) (by kernel_rfl) (by kernel_rfl) (fun _ _ _ h => h) (Or.inl ⟨by rfl, ?_⟩) hS ?_
      rotate_left
      · intro W hW; go_simp; with_reducible rfl
      try simp only [Act.put, List.setIfInBounds_toArray, List.set_cons_zero, List.set_cons_succ]
      refine wpAnyH_take (i := 19) (oi := ⟨some 34, _, _, _, _, _⟩) (v := ?_) rfl (by kernel_rfl) (by kernel_rfl) (by kernel_rfl) (fun _ _ _ h => h) (Or.inl ⟨by rfl, ?_⟩) hS ?_
      rotate_left
      · intro W hW; go_simp; with_reducible rfl
      try simp only [Act.put, List.setIfInBounds_toArray, List.set_cons_zero, List.set_cons_succ]
      refine wpAnyH_take (i := 20) (oi := ⟨some 35, _, _, _, _, _⟩) (v := ?_) rfl (by kernel_rfl) (by kernel_rfl) (by kernel_rfl) (fun _ _ _ h => h) (Or.inl ⟨by rfl, ?_⟩) hS ?_
      rotate_left
      · intro W hW; go_simp; with_reducible rfl
      try simp only [Act.put, List.setIfInBounds_toArray, List.set_cons_zero, List.set_cons_succ]
      refine wpAnyH_ready (rs := [1, 21]) (by kernel_rfl) (by simp) ?_
      refine AllReadyH.cons (o := ⟨some 16, _, _, _, _, _⟩) rfl (fun Kr hKr => ?_) (AllReadyH.cons (o := ⟨some 36, _, _, _, _, _⟩) rfl (fun Kr hKr => ?_) AllReadyH.nil)
      · skip
        -- operation 1: a step
        try rw [if_pos (by kernel_rfl)]
        go_simp
        show Kr _ _
        refine hKr.out _ _ ?_ (fun _ => ?_)
        · exact hS
        clear hKr Kr
        try simp only [Act.put, List.setIfInBounds_toArray, List.set_cons_zero, List.set_cons_succ]
        refine wpAnyH_ready (rs := [21]) (by kernel_rfl) (by simp) ?_
        refine AllReadyH.cons (o := ⟨some 36, _, _, _, _, _⟩) rfl (fun Kr hKr => ?_) AllReadyH.nil
        -- operation 21: a step
        try rw [if_pos (by kernel_rfl)]
        go_simp
        show Kr _ _
        refine hKr.out _ _ ?_ (fun _ => ?_)
        · exact Turn.trans hS (Turn.ofBelow (below_new _ _))
        clear hKr Kr
        replace hS : Turn (fun q => q = go ∨ cv.ownBlock = some q) wr ((World.drew wr).alloc (.cells #[.int .i64 lo, .int .i64 hi, .int .i64 v] 67)) := Turn.trans hS (Turn.ofBelow (below_new _ _))
        try simp only [Act.put, List.setIfInBounds_toArray, List.set_cons_zero, List.set_cons_succ]
        refine wpAnyH_ready (rs := [22]) (by kernel_rfl) (by simp) ?_
        refine AllReadyH.cons (o := ⟨some 37, _, _, _, _, _⟩) rfl (fun Kr hKr => ?_) AllReadyH.nil
        -- operation 22: a step
        try rw [if_pos (by kernel_rfl)]
        refine Rk.wp_append rc_oko (.tmp 16) (.tmp 36) rfl (go + 1) cv acc [⟨lo, hi, v⟩] rfl HOA.out _ 1 1 rfl (ct_ato (World.drew wr) lo hi v) rfl (.inr ⟨_, _, rfl⟩) (by have := HLN.out; rw [List.length_singleton]; omega) HSA.out ?_
        intro v8 w8 hx1 hg1 ha1
        obtain ⟨n8, hn8⟩ : ∃ n8, (acc ++ [(⟨lo, hi, v⟩ : Ct)]).length = n8 := ⟨_, rfl⟩
        obtain ⟨A8, c8, rfl⟩ := own_slice rc_oko hx1 hn8
        clear hn8
        have HO8 := Lib.hid hx1
        have HG8 := Lib.hid hg1
        have HK8 := Lib.hid (HKA.out.far hg1 (fun e => by have := (HOA.out.lt _ e.symm).1; omega))
        have k1 : w8.cell? ⟨go, 0, none⟩ = some cv := HK8.out.c 0 _ rfl
        have k2 := HK8.out.fr 0
        show Kr _ _
        refine hKr.out _ _ ?_ (fun _ => ?_)
        · exact Turn.trans hS (Turn.grown (Turn.refl _ _) hg1 (fun j e => .inl (.inr e)))
        clear hKr Kr
        replace hS : Turn (fun q => q = go ∨ cv.ownBlock = some q) wr w8 := Turn.trans hS (Turn.grown (Turn.refl _ _) hg1 (fun j e => .inl (.inr e)))
        try simp only [Act.put, List.setIfInBounds_toArray, List.set_cons_zero, List.set_cons_succ]
        refine wpAnyH_take (i := 23) (oi := ⟨some 38, _, _, _, _, _⟩) (v := ?_) rfl (by kernel_rfl) (by kernel_rfl) (by kernel_rfl) (fun _ _ _ h => h) (Or.inl ⟨by rfl, ?_⟩) hS ?_
        rotate_left
        · intro W hW; go_simp; with_reducible rfl
        try simp only [Act.put, List.setIfInBounds_toArray, List.set_cons_zero, List.set_cons_succ]
        refine wpAnyH_ready (rs := [24]) (by kernel_rfl) (by simp) ?_
        refine AllReadyH.cons (o := ⟨none, _, _, _, _, _⟩) rfl (fun Kr hKr => ?_) AllReadyH.nil
        -- operation 24: a step
        try rw [if_pos (by kernel_rfl)]
        go_simp
        show Kr _ _
        refine hKr.out _ _ ?_ (fun _ => ?_)
        · exact Turn.trans hS ((Turn.refl _ _).setCell _ _ (.inl (.inl rfl)))
        clear hKr Kr
        replace hS : Turn (fun q => q = go ∨ cv.ownBlock = some q) wr (w8.setCell ⟨go, 0, none⟩ (.slice A8 n8 c8)) := Turn.trans hS ((Turn.refl _ _).setCell _ _ (.inl (.inl rfl)))
        try simp only [Act.put, List.setIfInBounds_toArray, List.set_cons_zero, List.set_cons_succ]
        refine wpAnyH_done (by kernel_rfl) ?_ _
        have HK9 := Lib.hid (show Bk (w8.setCell ⟨go, 0, none⟩ (.slice A8 n8 c8)) go #[.slice A8 n8 c8, .slice none 0 0] 34 from heap_setCell_same w8 go 0 _ _ (.slice A8 n8 c8) HK8.out)
        have HO9 : Hid (RCo.Own (w8.setCell ⟨go, 0, none⟩ (.slice A8 n8 c8)) (go + 1) (.slice A8 n8 c8) (acc ++ [⟨lo, hi, v⟩])) := HO8.out.turn (S := fun q => q = go) ((Turn.refl _ _).setCell _ _ (.inl rfl)) (fun q e h => by have := (HO8.out.lt q e).1; omega)
        have HT9 := Lib.hid hS
        clear hS
        go_wp2_with fail
        exact ⟨⟨j + 1, .slice A8 n8 c8, rfl, hlt, by rw [HTK.out]; exact HO9, HK9, Lib.hid (HXj.out.turn HT9.out (fun h => by have := HNX.out _ h; omega)), Lib.hid (HZj.out.turn HT9.out (fun h => by have := HNX.out _ h; omega)), Lib.hid (HBj.out.trans (HT9.out.below (B := w.heap.size) (fun z h => by have := HNX.out _ h; omega) HBj.out.size)), Lib.hid (Nat.le_trans HSj.out HT9.out.size)⟩, by simp [intOf]; omega⟩
      · skip
        -- operation 21: a step
        try rw [if_pos (by kernel_rfl)]
        go_simp
        show Kr _ _
        refine hKr.out _ _ ?_ (fun _ => ?_)
        · exact Turn.trans hS (Turn.ofBelow (below_new _ _))
        clear hKr Kr
        replace hS : Turn (fun q => q = go ∨ cv.ownBlock = some q) wr ((World.drew wr).alloc (.cells #[.int .i64 lo, .int .i64 hi, .int .i64 v] 67)) := Turn.trans hS (Turn.ofBelow (below_new _ _))
        try simp only [Act.put, List.setIfInBounds_toArray, List.set_cons_zero, List.set_cons_succ]
        refine wpAnyH_ready (rs := [1]) (by kernel_rfl) (by simp) ?_
        refine AllReadyH.cons (o := ⟨some 16, _, _, _, _, _⟩) rfl (fun Kr hKr => ?_) AllReadyH.nil
        -- operation 1: a step
        try rw [if_pos (by kernel_rfl)]
        go_simp
        show Kr _ _
        refine hKr.out _ _ ?_ (fun _ => ?_)
        · exact hS
        clear hKr Kr
        try simp only [Act.put, List.setIfInBounds_toArray, List.set_cons_zero, List.set_cons_succ]
        refine wpAnyH_ready (rs := [22]) (by kernel_rfl) (by simp) ?_
        refine AllReadyH.cons (o := ⟨some 37, _, _, _, _, _⟩) rfl (fun Kr hKr => ?_) AllReadyH.nil
        -- operation 22: a step
        try rw [if_pos (by kernel_rfl)]
        refine Rk.wp_append rc_oko (.tmp 16) (.tmp 36) rfl (go + 1) cv acc [⟨lo, hi, v⟩] rfl HOA.out _ 1 1 rfl (ct_ato (World.drew wr) lo hi v) rfl (.inr ⟨_, _, rfl⟩) (by have := HLN.out; rw [List.length_singleton]; omega) HSA.out ?_
        intro v8 w8 hx1 hg1 ha1
        obtain ⟨n8, hn8⟩ : ∃ n8, (acc ++ [(⟨lo, hi, v⟩ : Ct)]).length = n8 := ⟨_, rfl⟩
        obtain ⟨A8, c8, rfl⟩ := own_slice rc_oko hx1 hn8
        clear hn8
        have HO8 := Lib.hid hx1
        have HG8 := Lib.hid hg1
        have HK8 := Lib.hid (HKA.out.far hg1 (fun e => by have := (HOA.out.lt _ e.symm).1; omega))
        have k1 : w8.cell? ⟨go, 0, none⟩ = some cv := HK8.out.c 0 _ rfl
        have k2 := HK8.out.fr 0
        show Kr _ _
        refine hKr.out _ _ ?_ (fun _ => ?_)
        · exact Turn.trans hS (Turn.grown (Turn.refl _ _) hg1 (fun j e => .inl (.inr e)))
        clear hKr Kr
        replace hS : Turn (fun q => q = go ∨ cv.ownBlock = some q) wr w8 := Turn.trans hS (Turn.grown (Turn.refl _ _) hg1 (fun j e => .inl (.inr e)))
        try simp only [Act.put, List.setIfInBounds_toArray, List.set_cons_zero, List.set_cons_succ]
        refine wpAnyH_take (i := 23) (oi := ⟨some 38, _, _, _, _, _⟩) (v := ?_) rfl (by kernel_rfl) (by kernel_rfl) (by kernel_rfl) (fun _ _ _ h => h) (Or.inl ⟨by rfl, ?_⟩) hS ?_
        rotate_left
        · intro W hW; go_simp; with_reducible rfl
        try simp only [Act.put, List.setIfInBounds_toArray, List.set_cons_zero, List.set_cons_succ]
        refine wpAnyH_ready (rs := [24]) (by kernel_rfl) (by simp) ?_
        refine AllReadyH.cons (o := ⟨none, _, _, _, _, _⟩) rfl (fun Kr hKr => ?_) AllReadyH.nil
        -- operation 24: a step
        try rw [if_pos (by kernel_rfl)]
        go_simp
        show Kr _ _
        refine hKr.out _ _ ?_ (fun _ => ?_)
        · exact Turn.trans hS ((Turn.refl _ _).setCell _ _ (.inl (.inl rfl)))
        clear hKr Kr
        replace hS : Turn (fun q => q = go ∨ cv.ownBlock = some q) wr (w8.setCell ⟨go, 0, none⟩ (.slice A8 n8 c8)) := Turn.trans hS ((Turn.refl _ _).setCell _ _ (.inl (.inl rfl)))
        try simp only [Act.put, List.setIfInBounds_toArray, List.set_cons_zero, List.set_cons_succ]
        refine wpAnyH_done (by kernel_rfl) ?_ _
        have HK9 := Lib.hid (show Bk (w8.setCell ⟨go, 0, none⟩ (.slice A8 n8 c8)) go #[.slice A8 n8 c8, .slice none 0 0] 34 from heap_setCell_same w8 go 0 _ _ (.slice A8 n8 c8) HK8.out)
        have HO9 : Hid (RCo.Own (w8.setCell ⟨go, 0, none⟩ (.slice A8 n8 c8)) (go + 1) (.slice A8 n8 c8) (acc ++ [⟨lo, hi, v⟩])) := HO8.out.turn (S := fun q => q = go) ((Turn.refl _ _).setCell _ _ (.inl rfl)) (fun q e h => by have := (HO8.out.lt q e).1; omega)
        have HT9 := Lib.hid hS
        clear hS
        go_wp2_with fail
        exact ⟨⟨j + 1, .slice A8 n8 c8, rfl, hlt, by rw [HTK.out]; exact HO9, HK9, Lib.hid (HXj.out.turn HT9.out (fun h => by have := HNX.out _ h; omega)), Lib.hid (HZj.out.turn HT9.out (fun h => by have := HNX.out _ h; omega)), Lib.hid (HBj.out.trans (HT9.out.below (B := w.heap.size) (fun z h => by have := HNX.out _ h; omega) HBj.out.size)), Lib.hid (Nat.le_trans HSj.out HT9.out.size)⟩, by simp [intOf]; omega⟩
    · obtain rfl : j = n := by omega
      have hd4 : decide ((j : Int) < (j : Int)) = false := decide_eq_false (by omega)
      have hd5 : decide (j < j) = false := decide_eq_false (by omega)
      have hlj : t.C.take j = t.C := List.take_of_length_le (by rw [HT.out.cl]; exact Nat.le_refl _)
      rw [hlj] at HOj
      clear hlj
      obtain ⟨A6, c6, e6⟩ := own_slice rc_oko HOj.out HT.out.cl
      subst e6
      go_wp2_with fail
      clear hd4 hd5 x0
      have HM0 := Lib.hid (show ∀ k, (Value.slice A6 j c6).ownBlock = some k → go < k ∧ k < wr.heap.size from fun k e => by have h := HOj.out.lt k e; omega)
      obtain ⟨w5, hw5⟩ : ∃ w5, w5 = wr := ⟨_, rfl⟩
      subst hw5
      have HC5 := Lib.hid (HOj.out.at_ rc_oko)
      go_loopw [5] (fun u wq => ∃ (k : Nat) (pv : Value), u = .int .i64 (k : Int) ∧ k ≤ m ∧ Hid (RPo.Own wq w5.heap.size pv (t.P.take k)) ∧ Hid (RCo.Own wq (go + 1) (.slice A6 j c6) t.C) ∧ Hid (Bk wq go #[.slice A6 j c6, pv] 34) ∧ Hid (Bk wq w.heap.size (tbC A j a B m b) 25) ∧ Hid (Bk wq (w.heap.size + 1) #[.slice none 0 0, .slice none 0 0] 34) ∧ Hid (Below w.heap.size w wq) ∧ Hid (w5.heap.size ≤ wq.heap.size)) (fun u _ => m - (intOf u).toNat)
      case atStart => exact ⟨0, _, rfl, Nat.zero_le _, Rk.Own.nil _ _ _, HOj, HKj, HXj, HZj, HBj, Lib.hid (Nat.le_refl _)⟩
      case round =>
        obtain ⟨k, pv, rfl, hk, HOk, HCk, HKk, HXk, HZk, HBk, HSk⟩ := hrel
        have x1 := HXk.out.t1
        rcases Nat.lt_or_ge k m with hlt | hge
        · obtain ⟨b2, o2, hA, hbl, _, hget, h0, h1, h2, h3⟩ := HT.out.p hlt
          subst hA
          have HTK := Lib.hid (show t.P.take (k + 1) = t.P.take k ++ [t.P.getD k pdD] from by rw [List.take_add_one, hget]; rfl)
          have HLN := Lib.hid (show (t.P.take k).length ≤ 3000 from by rw [List.length_take]; omega)
          generalize t.P.getD k pdD = p at *
          obtain ⟨pc, px, u, d⟩ := p
          simp only at h0 h1 h2 h3
          generalize t.P.take k = acc at *
          have c0 := (HBk.out.cell (p := ⟨b2, o2 + k * 4, none⟩) hbl).trans h0
          have c1 := (HBk.out.cell (p := ⟨b2, o2 + k * 4 + 1, none⟩) hbl).trans h1
          have c2 := (HBk.out.cell (p := ⟨b2, o2 + k * 4 + 2, none⟩) hbl).trans h2
          have c3 := (HBk.out.cell (p := ⟨b2, o2 + k * 4 + 3, none⟩) hbl).trans h3
          have hd4 : decide ((k : Int) < (m : Int)) = true := decide_eq_true (by omega)
          have hd5 : decide (k < m) = true := decide_eq_true hlt
          have hi1 : (k : Int) < (m : Int) := by omega
          clear h0 h1 h2 h3 hbl hget
          have HPP := Lib.hid (Bk.new wr (pdC pc px u d) 74)
          have HBN := Lib.hid (below_new wr (.cells (pdC pc px u d) 74))
          go_upto_region 10 with fail
          have HOz := Lib.hid (HOk.out.below HBN.out)
          have HKz := Lib.hid (HKk.out.below HBN.out)
          have HSz := Lib.hid (Nat.le_trans HSk.out HBN.out.size)
          have HTz := Lib.hid (Turn.ofBelow (S := fun z => z = go ∨ pv.ownBlock = some z) HBN.out)
          clear c0 c1 c2 c3 x1 HBN
          generalize wr.alloc (.cells (pdC pc px u d) 74) = wz at *
          have p0 := HPP.out.p0
          have p1 := HPP.out.p1
          have p2 := HPP.out.p2
          have p3 := HPP.out.p3
          have k1 : wz.cell? ⟨go, 1, none⟩ = some pv := HKz.out.c 1 _ rfl
          go_wp2_with (first
            | (at_builtin; refine Rk.wpList_append rp_oko rfl (.tmp 52) (.tmp 62) rfl w5.heap.size pv acc [⟨pc, px, u, d⟩] rfl (HOz.out.below (below_new wz (.cells #[.int .i64 pc, .int .i64 px, .int .i64 u, .int .i64 d] 75))) _ 1 1 rfl (pd_ato wz pc px u d) rfl (.inr ⟨_, _, rfl⟩) (by have := HLN.out; rw [List.length_singleton]; omega) (Nat.le_trans HSz.out (below_new wz _).size) ?_; intro v8 w8 hx1 hg1 ha1; obtain ⟨n8, hn8⟩ : ∃ n8, (acc ++ [(⟨pc, px, u, d⟩ : Pd)]).length = n8 := ⟨_, rfl⟩; obtain ⟨A8, c8, rfl⟩ := own_slice rp_oko hx1 hn8; clear hn8; have HO8 := Lib.hid hx1; have HT8 := Lib.hid (Turn.grown (Turn.trans HTz.out (Turn.ofBelow (below_new wz (.cells #[.int .i64 pc, .int .i64 px, .int .i64 u, .int .i64 d] 75)))) hg1 (fun j e => .inl (.inr e))); have HK8 := Lib.hid ((HKz.out.al (.cells #[.int .i64 pc, .int .i64 px, .int .i64 u, .int .i64 d] 75)).far hg1 (fun e => by have := (HOz.out.lt _ e.symm).1; have := HSj.out; omega)); have k8 : w8.cell? ⟨go, 1, none⟩ = some pv := HK8.out.c 1 _ rfl; have f8 := HK8.out.fr 1; clear hx1 hg1 ha1)
            | fail)
          have HK9 := Lib.hid (show Bk (w8.setCell ⟨go, 1, none⟩ (.slice A8 n8 c8)) go #[.slice A6 j c6, .slice A8 n8 c8] 34 from heap_setCell_same w8 go 1 _ _ (.slice A8 n8 c8) HK8.out)
          have HO9 : Hid (RPo.Own (w8.setCell ⟨go, 1, none⟩ (.slice A8 n8 c8)) w5.heap.size (.slice A8 n8 c8) (acc ++ [⟨pc, px, u, d⟩])) := HO8.out.turn (S := fun q => q = go) ((Turn.refl _ _).setCell _ _ (.inl rfl)) (fun q e h => by have := (HO8.out.lt q e).1; have := HSj.out; omega)
          have HT9 := Lib.hid (Turn.setCell HT8.out ⟨go, 1, none⟩ (.slice A8 n8 c8) (.inl (.inl rfl)))
          have HNX := Lib.hid (show ∀ z, (z = go ∨ pv.ownBlock = some z) → w.heap.size + 1 < z from fun z h => by
            have h1 := HGZ.out
            have h2 := HSj.out
            rcases h with h | h
            · omega
            · have := (HOk.out.lt z h).1; omega)
          exact ⟨⟨k + 1, .slice A8 n8 c8, rfl, hlt, by rw [HTK.out]; exact HO9, Lib.hid (HCk.out.turn HT9.out (fun z e h => by have h1 := HM0.out z e; rcases h with h | h; omega; have := (HOk.out.lt z h).1; omega)), HK9, Lib.hid (HXk.out.turn HT9.out (fun h => by have := HNX.out _ h; omega)), Lib.hid (HZk.out.turn HT9.out (fun h => by have := HNX.out _ h; omega)), Lib.hid (HBk.out.trans (HT9.out.below (B := w.heap.size) (fun z h => by have := HNX.out _ h; omega) HBk.out.size)), Lib.hid (Nat.le_trans HSk.out HT9.out.size)⟩, by simp [intOf]; omega⟩
        · obtain rfl : k = m := by omega
          have hd4 : decide ((k : Int) < (k : Int)) = false := decide_eq_false (by omega)
          have hd5 : decide (k < k) = false := decide_eq_false (by omega)
          have hlk : t.P.take k = t.P := List.take_of_length_le (by rw [HT.out.pl]; exact Nat.le_refl _)
          rw [hlk] at HOk
          clear hlk
          obtain ⟨A7, c7, e7⟩ := own_slice rp_oko HOk.out HT.out.pl
          subst e7
          have g0 := HKk.out.t0
          have g1 := HKk.out.t1
          have z0 : wr.cell? ⟨w.heap.size + 1, 0, none⟩ = some (.slice none 0 0) := HZk.out.c 0 _ rfl
          have z1 : wr.cell? ⟨w.heap.size + 1, 1, none⟩ = some (.slice none 0 0) := HZk.out.c 1 _ rfl
          have f0 := HZk.out.fr 0
          have f1 := HZk.out.fr 1
          go_wp2_with fail
          have hT := ((Turn.refl (fun q => q = w.heap.size + 1) wr).setCell ⟨w.heap.size + 1, 0, none⟩ (.slice A6 j c6) (.inl rfl)).setCell ⟨w.heap.size + 1, 1, none⟩ (.slice A7 k c7) (.inl rfl)
          refine bodyPost_ret (v := tbV A6 j c6 A7 k c7) (by rw [results_cell_one rfl]; go_simp) rfl ⟨A6, c6, A7, c7, rfl, ?_, ?_, (HBk.out.setCell (show w.heap.size ≤ w.heap.size + 1 from by omega) _).setCell (show w.heap.size ≤ w.heap.size + 1 from by omega) _⟩
          rotate_left
          · obtain ⟨_, r2, r3, _⟩ := own_parts rc_oko HCk.out HT.out.cl
            obtain ⟨_, s2, s3, s4⟩ := own_parts rp_oko HOk.out HT.out.pl
            exact ⟨r2, r3, s2, s3, fun g o e => Nat.lt_of_lt_of_le (s4 g o e).2 hT.size⟩
          exact ⟨HT.out.cl, HT.out.pl, HT.out.okC, HT.out.okP, (HCk.out.turn hT (fun z e h => by have h1 := (HCk.out.lt z e).1; have := HGZ.out; omega)).at_ rc_oko, (HOk.out.turn hT (fun z e h => by have h1 := (HOk.out.lt z e).1; have := HGZ.out; have := HSj.out; omega)).at_ rp_oko⟩
end Go.Proofs.Ytogngghfdcpeaaa
