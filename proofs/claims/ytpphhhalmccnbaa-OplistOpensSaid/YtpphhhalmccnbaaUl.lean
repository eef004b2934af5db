/-
  The law's own: the document's transactions as the program's.
-/
import Derived.Test.YtpphhhalmccnbaaRc
namespace Go.Proofs.Ytpphhhalmccnbaa
set_option maxRecDepth 100000
set_option linter.unusedVariables false
set_option linter.unusedSimpArgs false
open Go.RowKit

/-- transactions lie there, whatever they are, the program's -/
structure TrAto (W : World) (A : Option Addr) (N : Nat) (T : Tr) : Prop where
  len : T.l.length = N
  ok : ∀ x ∈ T.l, TxOk x
  at_ : RTo.At W A T.l
theorem TrAto.below {W V : World} {A : Option Addr} {N : Nat} {T : Tr} (h : TrAto W A N T) (hb : Below W.heap.size W V) : TrAto V A N T := ⟨h.len, h.ok, h.at_.below hb⟩
theorem TrAt.get2 {W : World} {A : Option Addr} {N : Nat} {T : Tr} (h : TrAt W A N T) {i : Nat} (hi : i < N) : ∃ b o, A = some ⟨b, o, none⟩ ∧ b < W.heap.size ∧ T.l[i]? = some (T.tx i) ∧
    W.cell? ⟨b, o + i * 4, none⟩ = some (.int .i64 (T.tx i).p) ∧ W.cell? ⟨b, o + i * 4 + 1, none⟩ = some (.int .i64 (T.tx i).s) ∧
    W.cell? ⟨b, o + i * 4 + 2, none⟩ = some (.int .i64 (T.tx i).b) ∧ W.cell? ⟨b, o + i * 4 + 3, none⟩ = some (.int .i64 (T.tx i).e) := by
  obtain ⟨b, o, e, hb, _, h0, h1, h2, h3⟩ := h.get hi
  have hl : i < T.l.length := by rw [h.len]; exact hi
  exact ⟨b, o, e, hb, by unfold Tr.tx; rw [List.getD_eq_getElem?_getD, List.getElem?_eq_getElem hl]; rfl, h0, h1, h2, h3⟩
theorem tx_ato (w : World) (p s b e : Int) : RTo.At (w.alloc (.cells #[.int .i64 p, .int .i64 s, .int .i64 b, .int .i64 e] 97)) (some ⟨w.heap.size, 0, none⟩) [⟨p, s, b, e⟩] := Rk.At.new rt_oko w ⟨p, s, b, e⟩ 97

set_option maxHeartbeats 4000000 in
theorem grove_any (A : Option Addr) (N d : Nat) (c : Int) (T : Tr) (hn : N ≤ 3000) (w : World) (ht : TrAt w A N T) :
    Calls Try.prog 24 #[trV A N d c] w fun e w' => ∃ A' a', e = .returned (trV A' N a' c) ∧ TrAto w' A' N T ∧ Below w.heap.size w w' := by
  have HT := Lib.hid ht
  have HX := Lib.hid (((Bk.new w (trC A N d c) 27).al (.cells #[.slice none 0 0, .int .i64 0] 55)).al (.cells #[.slice none 0 0, .int .i64 c] 55))
  have HZ := Bk.new (w.alloc (.cells (trC A N d c) 27)) #[.slice none 0 0, .int .i64 0] 55
  rw [size_al] at HZ
  have HZ := Lib.hid (HZ.al (.cells #[.slice none 0 0, .int .i64 c] 55))
  have HGo := Bk.new ((w.alloc (.cells (trC A N d c) 27)).alloc (.cells #[.slice none 0 0, .int .i64 0] 55)) #[.slice none 0 0, .int .i64 c] 55
  rw [size_al, size_al] at HGo
  have HGo := Lib.hid HGo
  have HB := Lib.hid (below_two (below_two (below_new w (.cells (trC A N d c) 27)) (below_new _ (.cells #[.slice none 0 0, .int .i64 0] 55))) (below_new _ (.cells #[.slice none 0 0, .int .i64 c] 55)))
  clear ht
  go_enter Try.func24, Try.ntmps24
  go_upto_region 2 with fail
  obtain ⟨go, hgo⟩ : ∃ go, go = w.heap.size + 1 + 1 := ⟨_, rfl⟩
  rw [← hgo] at HGo
  have HGZ := Lib.hid (show w.heap.size + 1 < go from by omega)
  try rw [show w.heap.size + 2 = go from by omega]
  try rw [← hgo]
  clear hgo
  generalize ((w.alloc (.cells (trC A N d c) 27)).alloc (.cells #[.slice none 0 0, .int .i64 0] 55)).alloc (.cells #[.slice none 0 0, .int .i64 c] 55) = w4 at *
  have HGL := Lib.hid HGo.out.lt
  go_wp2_with fail
  go_loopw [4] (fun u wr => ∃ (j : Nat) (cv : Value), u = .int .i64 (j : Int) ∧ j ≤ N ∧ Hid (RTo.Own wr (go + 1) cv (T.l.take j)) ∧ Hid (Bk wr go #[cv, .int .i64 c] 55) ∧ Hid (Bk wr w.heap.size (trC A N d c) 27) ∧ Hid (Bk wr (w.heap.size + 1) #[.slice none 0 0, .int .i64 0] 55) ∧ Hid (Below w.heap.size w wr) ∧ Hid (go + 1 ≤ wr.heap.size)) (fun u _ => N - (intOf u).toNat)
  case atStart => exact ⟨0, _, rfl, Nat.zero_le _, Rk.Own.nil _ _ _, HGo, HX, HZ, HB, HGL⟩
  case round =>
    obtain ⟨j, cv, rfl, hj, HOj, HKj, HXj, HZj, HBj, HSj⟩ := hrel
    have x0 := HXj.out.r_0
    rcases Nat.lt_or_ge j N with hlt | hge
    · obtain ⟨b2, o2, hA, hbl, hget, h0, h1, h2, h3⟩ := HT.out.get2 hlt
      subst hA
      have HTK := Lib.hid (show T.l.take (j + 1) = T.l.take j ++ [T.tx j] from by rw [List.take_add_one, hget]; rfl)
      have HLN := Lib.hid (show (T.l.take j).length ≤ 3000 from by rw [List.length_take]; omega)
      generalize T.tx j = p at *
      obtain ⟨tp, ts, tb, te⟩ := p
      simp only at h0 h1 h2 h3
      generalize T.l.take j = acc at *
      have HBL := Lib.hid (show b2 < w.heap.size from hbl)
      have HC0 := Lib.hid ((HBj.out.cell (p := ⟨b2, o2 + j * 4, none⟩) hbl).trans h0)
      have HC1 := Lib.hid ((HBj.out.cell (p := ⟨b2, o2 + j * 4 + 1, none⟩) hbl).trans h1)
      have HC2 := Lib.hid ((HBj.out.cell (p := ⟨b2, o2 + j * 4 + 2, none⟩) hbl).trans h2)
      have HC3 := Lib.hid ((HBj.out.cell (p := ⟨b2, o2 + j * 4 + 3, none⟩) hbl).trans h3)
      have hd4 : decide ((j : Int) < (N : Int)) = true := decide_eq_true (by omega)
      have hd5 : decide (j < N) = true := decide_eq_true hlt
      have hi1 : (j : Int) < (N : Int) := by omega
      clear h0 h1 h2 h3 hbl hget
      go_upto_region 5 with fail
      clear x0
      have HNX := Lib.hid (show ∀ z, (z = go ∨ cv.ownBlock = some z) → w.heap.size + 1 < z from fun z h => by
        have h1 := HGZ.out
        rcases h with h | h
        · omega
        · have := (HOj.out.lt z h).1; omega)
      have X0 : ∀ V, Turn (fun z => z = go ∨ cv.ownBlock = some z) wr V → V.cell? ⟨w.heap.size, 0, none⟩ = some (.slice (some ⟨b2, o2, none⟩) N d) := fun V hV => (HXj.out.turn hV (fun h => by have := HNX.out _ h; omega)).r_0
      have D0 : ∀ V, Turn (fun z => z = go ∨ cv.ownBlock = some z) wr V → V.cell? ⟨b2, o2 + j * 4, none⟩ = some (.int .i64 tp) := fun V hV => hV.cell HC0.out (fun h => by have h1 := HNX.out _ h; have h2 := HBL.out; simp only at h1; omega)
      have D1 : ∀ V, Turn (fun z => z = go ∨ cv.ownBlock = some z) wr V → V.cell? ⟨b2, o2 + j * 4 + 1, none⟩ = some (.int .i64 ts) := fun V hV => hV.cell HC1.out (fun h => by have h1 := HNX.out _ h; have h2 := HBL.out; simp only at h1; omega)
      have D2 : ∀ V, Turn (fun z => z = go ∨ cv.ownBlock = some z) wr V → V.cell? ⟨b2, o2 + j * 4 + 2, none⟩ = some (.int .i64 tb) := fun V hV => hV.cell HC2.out (fun h => by have h1 := HNX.out _ h; have h2 := HBL.out; simp only at h1; omega)
      have D3 : ∀ V, Turn (fun z => z = go ∨ cv.ownBlock = some z) wr V → V.cell? ⟨b2, o2 + j * 4 + 3, none⟩ = some (.int .i64 te) := fun V hV => hV.cell HC3.out (fun h => by have h1 := HNX.out _ h; have h2 := HBL.out; simp only at h1; omega)
      have HKd := Lib.hid (HKj.out.below (V := World.drew wr) ((Below.refl _ _).drew))
      have HOd := Lib.hid (HOj.out.below (w' := World.drew wr) ((Below.refl _ _).drew))
      have HKA := Lib.hid (HKd.out.al (.cells #[.int .i64 tp, .int .i64 ts, .int .i64 tb, .int .i64 te] 97))
      have HOA := Lib.hid (HOd.out.below (below_new (World.drew wr) (.cells #[.int .i64 tp, .int .i64 ts, .int .i64 tb, .int .i64 te] 97)))
      have HSA := Lib.hid (Nat.le_trans HSj.out (show wr.heap.size ≤ ((World.drew wr).alloc (.cells #[.int .i64 tp, .int .i64 ts, .int .i64 tb, .int .i64 te] 97)).heap.size from (below_new (World.drew wr) _).size))
      have k1 : wr.cell? ⟨go, 0, none⟩ = some cv := HKj.out.c 0 _ rfl
      have k2 : (wr.alloc (.cells #[.int .i64 tp, .int .i64 ts, .int .i64 tb, .int .i64 te] 97)).cell? ⟨go, 0, none⟩ = some cv := HKA.out.c 0 _ rfl
      refine wp_region_turn (X := (fun q => q = go ∨ cv.ownBlock = some q)) (by kernel_rfl) ?_
      have hS : Turn (fun q => q = go ∨ cv.ownBlock = some q) wr (World.drew wr) := (Turn.refl _ _).drew
      refine wpAnyH_take (i := 0) (oi := ⟨some 15, _, _, _, _, _⟩) (v := ?_) rfl (by kernel_rfl) (by kernel_rfl) (by kernel_rfl) (fun _ _ _ h => h) (Or.inl ⟨by rfl, ?_⟩) hS ?_
      rotate_left
      · intro W hW; go_simp; with_reducible rfl
      try simp only [Act.put, List.setIfInBounds_toArray, List.set_cons_zero, List.set_cons_succ]
      refine wpAnyH_take (i := 2) (oi := ⟨some 17, _, _, _, _, _⟩) (v := ?_) rfl (by kernel_rfl) (by kernel_rfl) (by kernel_rfl) (fun _ _ _ h => h) (Or.inl ⟨by rfl, ?_⟩) hS ?_
      rotate_left
      · intro W hW; go_simp; with_reducible rfl
      try simp only [Act.put, List.setIfInBounds_toArray, List.set_cons_zero, List.set_cons_succ]
      refine wpAnyH_take (i := 3) (oi := ⟨some 18, _, _, _, _, _⟩) (v := ?_) rfl (by kernel_rfl) (by kernel_rfl) (by kernel_rfl) (fun _ _ _ h => h) (Or.inl ⟨by rfl, ?_⟩) hS ?_
      rotate_left
      · intro W hW; go_simp; with_reducible rfl
      try simp only [Act.put, List.setIfInBounds_toArray, List.set_cons_zero, List.set_cons_succ]
      refine wpAnyH_take (i := 4) (oi := ⟨some 19, _, _, _, _, _⟩) (v := ?_) rfl (by kernel_rfl) (by kernel_rfl) (by kernel_rfl) (fun _ _ _ h => h) (Or.inl ⟨by rfl, ?_⟩) hS ?_
      rotate_left
      · intro W hW; go_simp; with_reducible rfl
      try simp only [Act.put, List.setIfInBounds_toArray, List.set_cons_zero, List.set_cons_succ]
      refine wpAnyH_take (i := 5) (oi := ⟨some 20, _, _, _, _, _⟩) (v := ?_) rfl (by kernel_rfl) (by kernel_rfl) (by kernel_rfl) (fun _ _ _ h => h) (Or.inl ⟨by rfl, ?_⟩) hS ?_
      rotate_left
      · intro W hW; go_simp; with_reducible rfl
      try simp only [Act.put, List.setIfInBounds_toArray, List.set_cons_zero, List.set_cons_succ]
      refine wpAnyH_take (i := 6) (oi := ⟨some 21, _, _, _, _, _⟩) (v := ?_) rfl (by kernel_rfl) (by kernel_rfl) (by kernel_rfl) (fun _ _ _ h => h) (Or.inl ⟨by rfl, ?_⟩) hS ?_
      rotate_left
      · intro W hW; go_simp; with_reducible rfl
      try simp only [Act.put, List.setIfInBounds_toArray, List.set_cons_zero, List.set_cons_succ]
      refine wpAnyH_take (i := 7) (oi := ⟨some 22, _, _, _, _, _⟩) (v := ?_) rfl (by kernel_rfl) (by kernel_rfl) (by kernel_rfl) (fun _ _ _ h => h) (Or.inl ⟨by rfl, ?_⟩) hS ?_
      rotate_left
      · intro W hW; go_simp; with_reducible rfl
      try simp only [Act.put, List.setIfInBounds_toArray, List.set_cons_zero, List.set_cons_succ]
      refine wpAnyH_take (i := 8) (oi := ⟨some 23, _, _, _, _, _⟩) (v := ?_) rfl (by kernel_rfl) (by kernel_rfl) (by kernel_rfl) (fun _ _ _ h => h) (Or.inl ⟨by rfl, ?_⟩) hS ?_
      rotate_left
      · intro W hW; go_simp; with_reducible rfl
      try simp only [Act.put, List.setIfInBounds_toArray, List.set_cons_zero, List.set_cons_succ]
      refine wpAnyH_take (i := 9) (oi := ⟨some 24, _, _, _, _, _⟩) (v := ?_) rfl (by kernel_rfl) (by kernel_rfl) (by kernel_rfl) (fun _ _ _ h => h) (Or.inl ⟨by rfl, ?_⟩) hS ?_
      rotate_left
      · intro W hW; go_simp; with_reducible rfl
      try simp only [Act.put, List.setIfInBounds_toArray, List.set_cons_zero, List.set_cons_succ]
      refine wpAnyH_take (i := 10) (oi := ⟨some 25, _, _, _, _, _⟩) (v := ?_) rfl (by kernel_rfl) (by kernel_rfl) (by kernel_rfl) (fun _ _ _ h => h) (Or.inl ⟨by rfl, ?_⟩) hS ?_
      rotate_left
      · intro W hW; go_simp; with_reducible rfl
      try simp only [Act.put, List.setIfInBounds_toArray, List.set_cons_zero, List.set_cons_succ]
      refine wpAnyH_take (i := 11) (oi := ⟨some 26, _, _, _, _, _⟩) (v := ?_) rfl (by kernel_rfl) (by kernel_rfl) (by kernel_rfl) (fun _ _ _ h => h) (Or.inl ⟨by rfl, ?_⟩) hS ?_
      rotate_left
      · intro W hW; go_simp; with_reducible rfl
      try simp only [Act.put, List.setIfInBounds_toArray, List.set_cons_zero, List.set_cons_succ]
      refine wpAnyH_take (i := 12) (oi := ⟨some 27, _, _, _, _, _⟩) (v := ?_) rfl (by kernel_rfl) (by kernel_rfl) (by kernel_rfl) (fun _ _ _ h => h) (Or.inl ⟨by rfl, ?_⟩) hS ?_
      rotate_left
      · intro W hW; go_simp; with_reducible rfl
      try simp only [Act.put, List.setIfInBounds_toArray, List.set_cons_zero, List.set_cons_succ]
      refine wpAnyH_take (i := 13) (oi := ⟨some 28, _, _, _, _, _⟩) (v := ?_) rfl (by kernel_rfl) (by kernel_rfl) (by kernel_rfl) (fun _ _ _ h => h) (Or.inl ⟨by rfl, ?_⟩) hS ?_
      rotate_left
      · intro W hW; go_simp; with_reducible rfl
      try simp only [Act.put, List.setIfInBounds_toArray, List.set_cons_zero, List.set_cons_succ]
      refine wpAnyH_take (i := 14) (oi := ⟨some 29, _, _, _, _, _⟩) (v := ?_) rfl (by kernel_rfl) (by kernel_rfl) (by kernel_rfl) (fun _ _ _ h => h) (Or.inl ⟨by rfl, ?_⟩) hS ?_
      rotate_left
      · intro W hW; go_simp; with_reducible rfl
      try simp only [Act.put, List.setIfInBounds_toArray, List.set_cons_zero, List.set_cons_succ]
      refine wpAnyH_take (i := 15) (oi := ⟨some 30, _, _, _, _, _⟩) (v := ?_) rfl (by kernel_rfl) (by kernel_rfl) (by kernel_rfl) (fun _ _ _ h => h) (Or.inl ⟨by rfl, ?_⟩) hS ?_
      rotate_left
      · intro W hW; go_simp; with_reducible rfl
      try simp only [Act.put, List.setIfInBounds_toArray, List.set_cons_zero, List.set_cons_succ]
      refine wpAnyH_take (i := 16) (oi := ⟨some 31, _, _, _, _, _⟩) (v := ?_) rfl (by kernel_rfl) (by kernel_rfl) (by kernel_rfl) (fun _ _ _ h => h) (Or.inl ⟨by rfl, ?_⟩) hS ?_
      rotate_left
      · intro W hW; go_simp; with_reducible rfl
      try simp only [Act.put, List.setIfInBounds_toArray, List.set_cons_zero, List.set_cons_succ]
      refine wpAnyH_take (i := 17) (oi := ⟨some 32, _, _, _, _, _⟩) (v := ?_) rfl (by kernel_rfl) (by kernel_rfl) (by kernel_rfl) (fun _ _ _ h => h) (Or.inl ⟨by rfl, ?_⟩) hS ?_
      rotate_left
      · intro W hW; go_simp; with_reducible rfl
      try simp only [Act.put, List.setIfInBounds_toArray, List.set_cons_zero, List.set_cons_succ]
      refine wpAnyH_take (i := 18) (oi := ⟨some 33, _, _, _, _, _⟩) (v := ?_) rfl (by kernel_rfl) (by kernel_rfl) (by kernel_rfl) (fun _ _ _ h => h) (Or.inl ⟨by rfl, ?_⟩) hS ?_
      rotate_left
      · intro W hW; go_simp; with_reducible rfl
      try simp only [Act.put, List.setIfInBounds_toArray, List.set_cons_zero, List.set_cons_succ]
      refine wpAnyH_take (i := 19) (oi := ⟨some 34, _, _, _, _, _⟩) (v := ?_) rfl (by kernel_rfl) (by kernel_rfl) (by kernel_rfl) (fun _ _ _ h => h) (Or.inl ⟨by rfl, ?_⟩) hS ?_
      rotate_left
      · intro W hW; go_simp; with_reducible rfl
      try simp only [Act.put, List.setIfInBounds_toArray, List.set_cons_zero, List.set_cons_succ]
      refine wpAnyH_take (i := 20) (oi := ⟨some 35, _, _, _, _, _⟩) (v := ?_) rfl (by kernel_rfl) (by kernel_rfl) (by kernel_rfl) (fun _ _ _ h => h) (Or.inl ⟨by rfl, ?_⟩) hS ?_
      rotate_left
      · intro W hW; go_simp; with_reducible rfl
      try simp only [Act.put, List.setIfInBounds_toArray, List.set_cons_zero, List.set_cons_succ]
      refine wpAnyH_take (i := 21) (oi := ⟨some 36, _, _, _, _, _⟩) (v := ?_) rfl (by kernel_rfl) (by kernel_rfl) (by kernel_rfl) (fun _ _ _ h => h) (Or.inl ⟨by rfl, ?_⟩) hS ?_
      rotate_left
      · intro W hW; go_simp; with_reducible rfl
      try simp only [Act.put, List.setIfInBounds_toArray, List.set_cons_zero, List.set_cons_succ]
      refine wpAnyH_take (i := 22) (oi := ⟨some 37, _, _, _, _, _⟩) (v := ?_) rfl (by kernel_rfl) (by kernel_rfl) (by kernel_rfl) (fun _ _ _ h => h) (Or.inl ⟨by rfl, ?_⟩) hS ?_
      rotate_left
      · intro W hW; go_simp; with_reducible rfl
      try simp only [Act.put, List.setIfInBounds_toArray, List.set_cons_zero, List.set_cons_succ]
      refine wpAnyH_take (i := 23) (oi := ⟨some 38, _, _, _, _, _⟩) (v := ?_) rfl (by kernel_rfl) (by kernel_rfl) (by kernel_rfl) (fun _ _ _ h => h) (Or.inl ⟨by rfl, ?_⟩) hS ?_
      rotate_left
      · intro W hW; go_simp; with_reducible rfl
      try simp only [Act.put, List.setIfInBounds_toArray, List.set_cons_zero, List.set_cons_succ]
      refine wpAnyH_take (i := 24) (oi := ⟨some 39, _, _, _, _, _⟩) (v := ?_) rfl (by kernel_rfl) (by kernel_rfl) (by kernel_rfl) (fun _ _ _ h => h) (Or.inl ⟨by rfl, ?_⟩) hS ?_
      rotate_left
      · intro W hW; go_simp; with_reducible rfl
      try simp only [Act.put, List.setIfInBounds_toArray, List.set_cons_zero, List.set_cons_succ]
      refine wpAnyH_take (i := 25) (oi := ⟨some 40, _, _, _, _, _⟩) (v := ?_) rfl (by kernel_rfl) (by kernel_rfl) (by kernel_rfl) (fun _ _ _ h => h) (Or.inl ⟨by rfl, ?_⟩) hS ?_
      rotate_left
      · intro W hW; go_simp; with_reducible rfl
      try simp only [Act.put, List.setIfInBounds_toArray, List.set_cons_zero, List.set_cons_succ]
      refine wpAnyH_take (i := 26) (oi := ⟨some 41, _, _, _, _, _⟩) (v := ?_) rfl (by kernel_rfl) (by kernel_rfl) (by kernel_rfl) (fun _ _ _ h => h) (Or.inl ⟨by rfl, ?_⟩) hS ?_
      rotate_left
      · intro W hW; go_simp; with_reducible rfl
      try simp only [Act.put, List.setIfInBounds_toArray, List.set_cons_zero, List.set_cons_succ]
      refine wpAnyH_ready (rs := [1, 27]) (by kernel_rfl) (by simp) ?_
      refine AllReadyH.cons (o := ⟨some 16, _, _, _, _, _⟩) rfl (fun Kr hKr => ?_) (AllReadyH.cons (o := ⟨some 42, _, _, _, _, _⟩) rfl (fun Kr hKr => ?_) AllReadyH.nil)
      · skip
        -- operation 1: a step
        try rw [if_pos (by kernel_rfl)]
        go_simp
        show Kr _ _
        refine hKr.out _ _ ?_ (fun _ => ?_)
        · exact hS
        clear hKr Kr
        try simp only [Act.put, List.setIfInBounds_toArray, List.set_cons_zero, List.set_cons_succ]
        refine wpAnyH_ready (rs := [27]) (by kernel_rfl) (by simp) ?_
        refine AllReadyH.cons (o := ⟨some 42, _, _, _, _, _⟩) rfl (fun Kr hKr => ?_) AllReadyH.nil
        -- operation 27: a step
        try rw [if_pos (by kernel_rfl)]
        go_simp
        show Kr _ _
        refine hKr.out _ _ ?_ (fun _ => ?_)
        · exact Turn.trans hS (Turn.ofBelow (below_new _ _))
        clear hKr Kr
        replace hS : Turn (fun q => q = go ∨ cv.ownBlock = some q) wr ((World.drew wr).alloc (.cells #[.int .i64 tp, .int .i64 ts, .int .i64 tb, .int .i64 te] 97)) := Turn.trans hS (Turn.ofBelow (below_new _ _))
        try simp only [Act.put, List.setIfInBounds_toArray, List.set_cons_zero, List.set_cons_succ]
        refine wpAnyH_ready (rs := [28]) (by kernel_rfl) (by simp) ?_
        refine AllReadyH.cons (o := ⟨some 43, _, _, _, _, _⟩) rfl (fun Kr hKr => ?_) AllReadyH.nil
        -- operation 28: a step
        try rw [if_pos (by kernel_rfl)]
        refine Rk.wp_append rt_oko (.tmp 16) (.tmp 42) rfl (go + 1) cv acc [⟨tp, ts, tb, te⟩] rfl HOA.out _ 1 1 rfl (tx_ato (World.drew wr) tp ts tb te) rfl (.inr ⟨_, _, rfl⟩) (by have := HLN.out; rw [List.length_singleton]; omega) HSA.out ?_
        intro v8 w8 hx1 hg1 ha1
        obtain ⟨n8, hn8⟩ : ∃ n8, (acc ++ [(⟨tp, ts, tb, te⟩ : Tx)]).length = n8 := ⟨_, rfl⟩
        obtain ⟨A8, c8, rfl⟩ := own_slice rt_oko hx1 hn8
        clear hn8
        have HO8 := Lib.hid hx1
        have HG8 := Lib.hid hg1
        have HK8 := Lib.hid (HKA.out.far hg1 (fun e => by have := (HOA.out.lt _ e.symm).1; omega))
        have k1 : w8.cell? ⟨go, 0, none⟩ = some cv := HK8.out.c 0 _ rfl
        have k2 := HK8.out.fr 0
        show Kr _ _
        refine hKr.out _ _ ?_ (fun _ => ?_)
        · exact Turn.trans hS (Turn.grown (Turn.refl _ _) hg1 (fun j e => .inl (.inr e)))
        clear hKr Kr
        replace hS : Turn (fun q => q = go ∨ cv.ownBlock = some q) wr w8 := Turn.trans hS (Turn.grown (Turn.refl _ _) hg1 (fun j e => .inl (.inr e)))
        try simp only [Act.put, List.setIfInBounds_toArray, List.set_cons_zero, List.set_cons_succ]
        refine wpAnyH_take (i := 29) (oi := ⟨some 44, _, _, _, _, _⟩) (v := ?_) rfl (by kernel_rfl) (by kernel_rfl) (by kernel_rfl) (fun _ _ _ h => h) (Or.inl ⟨by rfl, ?_⟩) hS ?_
        rotate_left
        · intro W hW; go_simp; with_reducible rfl
        try simp only [Act.put, List.setIfInBounds_toArray, List.set_cons_zero, List.set_cons_succ]
        refine wpAnyH_ready (rs := [30]) (by kernel_rfl) (by simp) ?_
        refine AllReadyH.cons (o := ⟨none, _, _, _, _, _⟩) rfl (fun Kr hKr => ?_) AllReadyH.nil
        -- operation 30: a step
        try rw [if_pos (by kernel_rfl)]
        go_simp
        show Kr _ _
        refine hKr.out _ _ ?_ (fun _ => ?_)
        · exact Turn.trans hS ((Turn.refl _ _).setCell _ _ (.inl (.inl rfl)))
        clear hKr Kr
        replace hS : Turn (fun q => q = go ∨ cv.ownBlock = some q) wr (w8.setCell ⟨go, 0, none⟩ (.slice A8 n8 c8)) := Turn.trans hS ((Turn.refl _ _).setCell _ _ (.inl (.inl rfl)))
        try simp only [Act.put, List.setIfInBounds_toArray, List.set_cons_zero, List.set_cons_succ]
        refine wpAnyH_done (by kernel_rfl) ?_ _
        have HK9 := Lib.hid (show Bk (w8.setCell ⟨go, 0, none⟩ (.slice A8 n8 c8)) go #[.slice A8 n8 c8, .int .i64 c] 55 from heap_setCell_same w8 go 0 _ _ (.slice A8 n8 c8) HK8.out)
        have HO9 : Hid (RTo.Own (w8.setCell ⟨go, 0, none⟩ (.slice A8 n8 c8)) (go + 1) (.slice A8 n8 c8) (acc ++ [⟨tp, ts, tb, te⟩])) := HO8.out.turn (S := fun q => q = go) ((Turn.refl _ _).setCell _ _ (.inl rfl)) (fun q e h => by have := (HO8.out.lt q e).1; omega)
        have HT9 := Lib.hid hS
        clear hS
        go_wp2_with fail
        exact ⟨⟨j + 1, .slice A8 n8 c8, rfl, hlt, by rw [HTK.out]; exact HO9, HK9, Lib.hid (HXj.out.turn HT9.out (fun h => by have := HNX.out _ h; omega)), Lib.hid (HZj.out.turn HT9.out (fun h => by have := HNX.out _ h; omega)), Lib.hid (HBj.out.trans (HT9.out.below (B := w.heap.size) (fun z h => by have := HNX.out _ h; omega) HBj.out.size)), Lib.hid (Nat.le_trans HSj.out HT9.out.size)⟩, by simp [intOf] <;> omega⟩
      · skip
        -- operation 27: a step
        try rw [if_pos (by kernel_rfl)]
        go_simp
        show Kr _ _
        refine hKr.out _ _ ?_ (fun _ => ?_)
        · exact Turn.trans hS (Turn.ofBelow (below_new _ _))
        clear hKr Kr
        replace hS : Turn (fun q => q = go ∨ cv.ownBlock = some q) wr ((World.drew wr).alloc (.cells #[.int .i64 tp, .int .i64 ts, .int .i64 tb, .int .i64 te] 97)) := Turn.trans hS (Turn.ofBelow (below_new _ _))
        try simp only [Act.put, List.setIfInBounds_toArray, List.set_cons_zero, List.set_cons_succ]
        refine wpAnyH_ready (rs := [1]) (by kernel_rfl) (by simp) ?_
        refine AllReadyH.cons (o := ⟨some 16, _, _, _, _, _⟩) rfl (fun Kr hKr => ?_) AllReadyH.nil
        -- operation 1: a step
        try rw [if_pos (by kernel_rfl)]
        go_simp
        show Kr _ _
        refine hKr.out _ _ ?_ (fun _ => ?_)
        · exact hS
        clear hKr Kr
        try simp only [Act.put, List.setIfInBounds_toArray, List.set_cons_zero, List.set_cons_succ]
        refine wpAnyH_ready (rs := [28]) (by kernel_rfl) (by simp) ?_
        refine AllReadyH.cons (o := ⟨some 43, _, _, _, _, _⟩) rfl (fun Kr hKr => ?_) AllReadyH.nil
        -- operation 28: a step
        try rw [if_pos (by kernel_rfl)]
        refine Rk.wp_append rt_oko (.tmp 16) (.tmp 42) rfl (go + 1) cv acc [⟨tp, ts, tb, te⟩] rfl HOA.out _ 1 1 rfl (tx_ato (World.drew wr) tp ts tb te) rfl (.inr ⟨_, _, rfl⟩) (by have := HLN.out; rw [List.length_singleton]; omega) HSA.out ?_
        intro v8 w8 hx1 hg1 ha1
        obtain ⟨n8, hn8⟩ : ∃ n8, (acc ++ [(⟨tp, ts, tb, te⟩ : Tx)]).length = n8 := ⟨_, rfl⟩
        obtain ⟨A8, c8, rfl⟩ := own_slice rt_oko hx1 hn8
        clear hn8
        have HO8 := Lib.hid hx1
        have HG8 := Lib.hid hg1
        have HK8 := Lib.hid (HKA.out.far hg1 (fun e => by have := (HOA.out.lt _ e.symm).1; omega))
        have k1 : w8.cell? ⟨go, 0, none⟩ = some cv := HK8.out.c 0 _ rfl
        have k2 := HK8.out.fr 0
        show Kr _ _
        refine hKr.out _ _ ?_ (fun _ => ?_)
        · exact Turn.trans hS (Turn.grown (Turn.refl _ _) hg1 (fun j e => .inl (.inr e)))
        clear hKr Kr
        replace hS : Turn (fun q => q = go ∨ cv.ownBlock = some q) wr w8 := Turn.trans hS (Turn.grown (Turn.refl _ _) hg1 (fun j e => .inl (.inr e)))
        try simp only [Act.put, List.setIfInBounds_toArray, List.set_cons_zero, List.set_cons_succ]
        refine wpAnyH_take (i := 29) (oi := ⟨some 44, _, _, _, _, _⟩) (v := ?_) rfl (by kernel_rfl) (by kernel_rfl) (by kernel_rfl) (fun _ _ _ h => h) (Or.inl ⟨by rfl, ?_⟩) hS ?_
        rotate_left
        · intro W hW; go_simp; with_reducible rfl
        try simp only [Act.put, List.setIfInBounds_toArray, List.set_cons_zero, List.set_cons_succ]
        refine wpAnyH_ready (rs := [30]) (by kernel_rfl) (by simp) ?_
        refine AllReadyH.cons (o := ⟨none, _, _, _, _, _⟩) rfl (fun Kr hKr => ?_) AllReadyH.nil
        -- operation 30: a step
        try rw [if_pos (by kernel_rfl)]
        go_simp
        show Kr _ _
        refine hKr.out _ _ ?_ (fun _ => ?_)
        · exact Turn.trans hS ((Turn.refl _ _).setCell _ _ (.inl (.inl rfl)))
        clear hKr Kr
        replace hS : Turn (fun q => q = go ∨ cv.ownBlock = some q) wr (w8.setCell ⟨go, 0, none⟩ (.slice A8 n8 c8)) := Turn.trans hS ((Turn.refl _ _).setCell _ _ (.inl (.inl rfl)))
        try simp only [Act.put, List.setIfInBounds_toArray, List.set_cons_zero, List.set_cons_succ]
        refine wpAnyH_done (by kernel_rfl) ?_ _
        have HK9 := Lib.hid (show Bk (w8.setCell ⟨go, 0, none⟩ (.slice A8 n8 c8)) go #[.slice A8 n8 c8, .int .i64 c] 55 from heap_setCell_same w8 go 0 _ _ (.slice A8 n8 c8) HK8.out)
        have HO9 : Hid (RTo.Own (w8.setCell ⟨go, 0, none⟩ (.slice A8 n8 c8)) (go + 1) (.slice A8 n8 c8) (acc ++ [⟨tp, ts, tb, te⟩])) := HO8.out.turn (S := fun q => q = go) ((Turn.refl _ _).setCell _ _ (.inl rfl)) (fun q e h => by have := (HO8.out.lt q e).1; omega)
        have HT9 := Lib.hid hS
        clear hS
        go_wp2_with fail
        exact ⟨⟨j + 1, .slice A8 n8 c8, rfl, hlt, by rw [HTK.out]; exact HO9, HK9, Lib.hid (HXj.out.turn HT9.out (fun h => by have := HNX.out _ h; omega)), Lib.hid (HZj.out.turn HT9.out (fun h => by have := HNX.out _ h; omega)), Lib.hid (HBj.out.trans (HT9.out.below (B := w.heap.size) (fun z h => by have := HNX.out _ h; omega) HBj.out.size)), Lib.hid (Nat.le_trans HSj.out HT9.out.size)⟩, by simp [intOf] <;> omega⟩
    · obtain rfl : j = N := by omega
      have hd4 : decide ((j : Int) < (j : Int)) = false := decide_eq_false (by omega)
      have hd5 : decide (j < j) = false := decide_eq_false (by omega)
      have hlj : T.l.take j = T.l := List.take_of_length_le (by rw [HT.out.len]; exact Nat.le_refl _)
      rw [hlj] at HOj
      clear hlj
      obtain ⟨A6, c6, e6⟩ := own_slice rt_oko HOj.out HT.out.len
      subst e6
      have g0 : wr.cell? ⟨go, 0, none⟩ = some (.slice A6 j c6) := HKj.out.c 0 _ rfl
      have g1 : wr.cell? ⟨go, 1, none⟩ = some (.int .i64 c) := HKj.out.c 1 _ rfl
      have z0 : wr.cell? ⟨w.heap.size + 1, 0, none⟩ = some (.slice none 0 0) := HZj.out.c 0 _ rfl
      have z1 : wr.cell? ⟨w.heap.size + 1, 1, none⟩ = some (.int .i64 0) := HZj.out.c 1 _ rfl
      have f0 := HZj.out.fr 0
      have f1 := HZj.out.fr 1
      go_wp2_with fail
      refine bodyPost_ret (v := trV A6 j c6 c) (by rw [results_cell_one rfl]; go_simp) rfl ⟨A6, c6, rfl, ?_, (HBj.out.setCell (show w.heap.size ≤ w.heap.size + 1 from by omega) _).setCell (show w.heap.size ≤ w.heap.size + 1 from by omega) _⟩
      have hT := ((Turn.refl (fun q => q = w.heap.size + 1) wr).setCell ⟨w.heap.size + 1, 0, none⟩ (.slice A6 j c6) (.inl rfl)).setCell ⟨w.heap.size + 1, 1, none⟩ (.int .i64 c) (.inl rfl)
      exact ⟨HT.out.len, HT.out.ok, (HOj.out.turn hT (fun z e h => by have h1 := (HOj.out.lt z e).1; have := HGZ.out; omega)).at_ rt_oko⟩
end Go.Proofs.Ytpphhhalmccnbaa
