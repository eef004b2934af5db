/-
  The law's own: the program's table as the document's.
-/
import Derived.Test.YtmhnjmfcenbogaaMa
namespace Go.Proofs.Ytmhnjmfcenbogaa
set_option maxRecDepth 100000
set_option linter.unusedVariables false
set_option linter.unusedSimpArgs false
open Go.RowKit

theorem own_slice {α : Type} {R : Rk α} (hR : R.Ok) {w : World} {base n : Nat} {v : Value} {l : List α} (h : R.Own w base v l) (hn : l.length = n) : ∃ A c, v = .slice A n c := by
  obtain ⟨A, c, e, _⟩ := h.form hR
  exact ⟨A, c, by rw [e, hn]⟩
theorem own_parts {α : Type} {R : Rk α} (hR : R.Ok) {W : World} {base n c : Nat} {A : Option Addr} {l : List α} (h : R.Own W base (.slice A n c) l) (hn : l.length = n) : R.At W A l ∧ n ≤ c ∧ Sp A ∧ (∀ g o, A = some ⟨g, o, none⟩ → base ≤ g ∧ g < W.heap.size) := by
  obtain ⟨A', c', e, h1, h2, h3⟩ := h.form hR
  injection e with e1 e2 e3
  subst e1; subst e3
  refine ⟨h2, by omega, ?_, ?_⟩
  · rcases h3 with h3 | ⟨g, e, _⟩
    · exact .inl h3
    · exact .inr ⟨g, 0, e⟩
  · intro g o e
    rcases h3 with h3 | ⟨g', e', h4, h5⟩
    · rw [h3] at e; cases e
    · rw [e'] at e; injection e with e; injection e with e1 _; subst e1; exact ⟨h4, h5⟩
theorem size_al (w : World) (o : Obj) : (w.alloc o).heap.size = w.heap.size + 1 := by simp
def slD : Sl := ⟨none, 0, 0⟩
def vrD : Vr := ⟨0, 0, slD⟩
section
variable {W : World} {g n a m b : Nat} {A B : Option Addr} {t : TypeId}
theorem Bk.v0 (h : Bk W g (vtC A n a B m b) t) : W.cell? ⟨g, 0, none⟩ = some (.slice A n a) := h.c 0 _ rfl
theorem Bk.v1 (h : Bk W g (vtC A n a B m b) t) : W.cell? ⟨g, 1, none⟩ = some (.slice B m b) := h.c 1 _ rfl
end
/-- an element's cells -/
theorem vr_cells {R : Rk Vr} {e s : TypeId} (he : R = RVe e s) (hR : R.Ok) {W : World} {A : Option Addr} {l : List Vr} {n i : Nat} (h : R.At W A l) (hn : l.length = n) (hi : i < n) : ∃ b o, A = some ⟨b, o, none⟩ ∧ b < W.heap.size ∧ l[i]? = some (l.getD i vrD) ∧
    W.cell? ⟨b, o + i * 3, none⟩ = some (.int .i64 (l.getD i vrD).b) ∧ W.cell? ⟨b, o + i * 3 + 1, none⟩ = some (.int .i64 (l.getD i vrD).x) ∧
    W.cell? ⟨b, o + i * 3 + 2, none⟩ = some (l.getD i vrD).s.v := by
  subst he
  have hl : i < l.length := by rw [hn]; exact hi
  have hx : l[i]? = some (l.getD i vrD) := by rw [List.getD_eq_getElem?_getD, List.getElem?_eq_getElem hl]; rfl
  obtain ⟨b, o, e, hb, hc⟩ := h.get hR hx
  exact ⟨b, o, e, hb, hx, hc 0 _ rfl, hc 1 _ rfl, hc 2 _ rfl⟩
theorem vr_at (w : World) (x y : Int) (s : Sl) : RVr.At (w.alloc (.cells #[.int .i64 x, .int .i64 y, s.v] 90)) (some ⟨w.heap.size, 0, none⟩) [⟨x, y, s⟩] := Rk.At.new rv_okr w ⟨x, y, s⟩ 90

set_option maxHeartbeats 4000000 in
theorem theirs_any (A B : Option Addr) (n a m b : Nat) (t : Vt) (hm : m ≤ 5000) (w : World) (ht : VtAt RVo w A n a B m b t) :
    Calls Try.prog 19 #[vtV A n a B m b] w fun e w' => ∃ B' b', e = .returned (vtV A n a B' m b') ∧ VtAt RVr w' A n a B' m b' t ∧ Below w.heap.size w w' := by
  have HT := Lib.hid ht
  obtain ⟨vs, hvs⟩ := ht.vers
  have HS := Lib.hid hvs
  have HX := Lib.hid (((Bk.new w (vtC A n a B m b) 30).al (.cells #[.slice none 0 0, .slice none 0 0] 54)).al (.cells #[.slice A n a, .slice none 0 0] 54))
  have hz := Bk.new (w.alloc (.cells (vtC A n a B m b) 30)) #[.slice none 0 0, .slice none 0 0] 54
  rw [size_al] at hz
  have HZ := Lib.hid (hz.al (.cells #[.slice A n a, .slice none 0 0] 54))
  have hgo0 := Bk.new ((w.alloc (.cells (vtC A n a B m b) 30)).alloc (.cells #[.slice none 0 0, .slice none 0 0] 54)) #[.slice A n a, .slice none 0 0] 54
  rw [size_al, size_al] at hgo0
  have HB := Lib.hid (below_two (below_two (below_new w (.cells (vtC A n a B m b) 30)) (below_new _ (.cells #[.slice none 0 0, .slice none 0 0] 54))) (below_new _ (.cells #[.slice A n a, .slice none 0 0] 54)))
  have x0 := ((Bk.new w (vtC A n a B m b) 30).al (.cells #[.slice none 0 0, .slice none 0 0] 54)).v0
  clear ht hvs hz
  go_enter Try.func19, Try.ntmps19
  go_upto_region 2 with fail
  obtain ⟨go, hgo⟩ : ∃ go, go = w.heap.size + 1 + 1 := ⟨_, rfl⟩
  rw [← hgo] at hgo0
  have HGo := Lib.hid hgo0
  have HGZ := Lib.hid (show w.heap.size + 1 < go from by omega)
  have HGE := Lib.hid hgo
  try simp only [Nat.add_assoc, Nat.reduceAdd]
  try rw [show w.heap.size + 2 = go from by omega]
  try rw [← hgo]
  clear hgo hgo0 x0
  generalize ((w.alloc (.cells (vtC A n a B m b) 30)).alloc (.cells #[.slice none 0 0, .slice none 0 0] 54)).alloc (.cells #[.slice A n a, .slice none 0 0] 54) = w4 at *
  have HGL := Lib.hid HGo.out.lt
  go_wp2_with fail
  go_loopw [4] (fun u wr => ∃ (j : Nat) (cv : Value), u = .int .i64 (j : Int) ∧ j ≤ m ∧ Hid (RVr.Own wr (go + 1) cv (vs.take j)) ∧ Hid (Bk wr go #[.slice A n a, cv] 54) ∧ Hid (Bk wr w.heap.size (vtC A n a B m b) 30) ∧ Hid (Bk wr (w.heap.size + 1) #[.slice none 0 0, .slice none 0 0] 54) ∧ Hid (Below w.heap.size w wr) ∧ Hid (go + 1 ≤ wr.heap.size)) (fun u _ => m - (intOf u).toNat)
  case atStart => exact ⟨0, _, rfl, Nat.zero_le _, Rk.Own.nil _ _ _, HGo, HX, HZ, HB, HGL⟩
  case round =>
    obtain ⟨j, cv, rfl, hj, HOj, HKj, HXj, HZj, HBj, HSj⟩ := hrel
    have x1 := HXj.out.v1
    rcases Nat.lt_or_ge j m with hlt | hge
    · obtain ⟨b2, o2, hA, hbl, hget, h0, h1, h2⟩ := vr_cells rfl rv_oko HS.out.at_ HS.out.l hlt
      subst hA
      have HTK := Lib.hid (show vs.take (j + 1) = vs.take j ++ [vs.getD j vrD] from by rw [List.take_add_one, hget]; rfl)
      have HLN := Lib.hid (show (vs.take j).length ≤ 5000 from by rw [List.length_take]; omega)
      generalize vs.getD j vrD = p at *
      obtain ⟨lo, hi, sA, sn, sc⟩ := p
      simp only at h0 h1 h2
      generalize vs.take j = acc at *
      have HBL := Lib.hid (show b2 < w.heap.size from hbl)
      have HC0 := Lib.hid ((HBj.out.cell (p := ⟨b2, o2 + j * 3, none⟩) hbl).trans h0)
      have HC1 := Lib.hid ((HBj.out.cell (p := ⟨b2, o2 + j * 3 + 1, none⟩) hbl).trans h1)
      have HC2 := Lib.hid ((HBj.out.cell (p := ⟨b2, o2 + j * 3 + 2, none⟩) hbl).trans h2)
      have hd4 : decide ((j : Int) < (m : Int)) = true := decide_eq_true (by omega)
      have hd5 : decide (j < m) = true := decide_eq_true hlt
      have hi1 : (j : Int) < (m : Int) := by omega
      clear h0 h1 h2 hbl hget
      go_upto_region 5 with fail
      clear x1
      have HNX := Lib.hid (show ∀ z, (z = go ∨ cv.ownBlock = some z) → w.heap.size + 1 < z from fun z h => by
        have h1 := HGZ.out
        rcases h with h | h
        · omega
        · have := (HOj.out.lt z h).1; omega)
      have X0 : ∀ V, Turn (fun z => z = go ∨ cv.ownBlock = some z) wr V → V.cell? ⟨w.heap.size, 1, none⟩ = some (.slice (some ⟨b2, o2, none⟩) m b) := fun V hV => (HXj.out.turn hV (fun h => by have := HNX.out _ h; omega)).v1
      have D0 : ∀ V, Turn (fun z => z = go ∨ cv.ownBlock = some z) wr V → V.cell? ⟨b2, o2 + j * 3, none⟩ = some (.int .i64 lo) := fun V hV => hV.cell HC0.out (fun h => by have h1 := HNX.out _ h; have h2 := HBL.out; simp only at h1; omega)
      have D1 : ∀ V, Turn (fun z => z = go ∨ cv.ownBlock = some z) wr V → V.cell? ⟨b2, o2 + j * 3 + 1, none⟩ = some (.int .i64 hi) := fun V hV => hV.cell HC1.out (fun h => by have h1 := HNX.out _ h; have h2 := HBL.out; simp only at h1; omega)
      have D2 : ∀ V, Turn (fun z => z = go ∨ cv.ownBlock = some z) wr V → V.cell? ⟨b2, o2 + j * 3 + 2, none⟩ = some (.slice sA sn sc) := fun V hV => hV.cell HC2.out (fun h => by have h1 := HNX.out _ h; have h2 := HBL.out; simp only at h1; omega)
      have HKd := Lib.hid (HKj.out.below (V := World.drew wr) ((Below.refl _ _).drew))
      have HOd := Lib.hid (HOj.out.below (w' := World.drew wr) ((Below.refl _ _).drew))
      have HKA := Lib.hid (HKd.out.al (.cells #[.int .i64 lo, .int .i64 hi, .slice sA sn sc] 90))
      have HOA := Lib.hid (HOd.out.below (below_new (World.drew wr) (.cells #[.int .i64 lo, .int .i64 hi, .slice sA sn sc] 90)))
      have HSA := Lib.hid (Nat.le_trans HSj.out (show wr.heap.size ≤ ((World.drew wr).alloc (.cells #[.int .i64 lo, .int .i64 hi, .slice sA sn sc] 90)).heap.size from (below_new (World.drew wr) _).size))
      have k1 : wr.cell? ⟨go, 1, none⟩ = some cv := HKj.out.c 1 _ rfl
      have k2 : (wr.alloc (.cells #[.int .i64 lo, .int .i64 hi, .slice sA sn sc] 90)).cell? ⟨go, 1, none⟩ = some cv := HKA.out.c 1 _ rfl
      refine wp_region_turn (X := (fun q => q = go ∨ cv.ownBlock = some q)) (by kernel_rfl) ?_
      have hS : Turn (fun q => q = go ∨ cv.ownBlock = some q) wr (World.drew wr) := (Turn.refl _ _).drew
      refine wpAnyH_take (i := 0) (oi := ⟨some 15, _, _, _, _, _⟩) (v := ?_) rfl (by kernel_rfl) (by kernel_rfl) (by kernel_rfl) (fun _ _ _ h => h) (Or.inl ⟨by rfl, ?_⟩) hS ?_
      rotate_left
      · intro W hW; go_simp; with_reducible rfl
      try simp only [Act.put, List.setIfInBounds_toArray, List.set_cons_zero, List.set_cons_succ]
      refine wpAnyH_take (i := 2) (oi := ⟨some 17, _, _, _, _, _⟩) (v := ?_) rfl (by kernel_rfl) (by kernel_rfl) (by kernel_rfl) (fun _ _ _ h => h) (Or.inl ⟨by rfl, ?_⟩) hS ?_
      rotate_left
      · intro W hW; go_simp; with_reducible rfl
      try simp only [Act.put, List.setIfInBounds_toArray, List.set_cons_zero, List.set_cons_succ]
      refine wpAnyH_take (i := 3) (oi := ⟨some 18, _, _, _, _, _⟩) (v := ?_) rfl (by kernel_rfl) (by kernel_rfl) (by kernel_rfl) (fun _ _ _ h => h) (Or.inl ⟨by rfl, ?_⟩) hS ?_
      rotate_left
      · intro W hW; go_simp; with_reducible rfl
      try simp only [Act.put, List.setIfInBounds_toArray, List.set_cons_zero, List.set_cons_succ]
      refine wpAnyH_take (i := 4) (oi := ⟨some 19, _, _, _, _, _⟩) (v := ?_) rfl (by kernel_rfl) (by kernel_rfl) (by kernel_rfl) (fun _ _ _ h => h) (Or.inl ⟨by rfl, ?_⟩) hS ?_
      rotate_left
      · intro W hW; go_simp; with_reducible rfl
      try simp only [Act.put, List.setIfInBounds_toArray, List.set_cons_zero, List.set_cons_succ]
      refine wpAnyH_take (i := 5) (oi := ⟨some 20, _, _, _, _, _⟩) (v := ?_) rfl (by kernel_rfl) (by kernel_rfl) (by kernel_rfl) (fun _ _ _ h => h) (Or.inl ⟨by rfl, ?_⟩) hS ?_
      rotate_left
      · intro W hW; go_simp; with_reducible rfl
      try simp only [Act.put, List.setIfInBounds_toArray, List.set_cons_zero, List.set_cons_succ]
      refine wpAnyH_take (i := 6) (oi := ⟨some 21, _, _, _, _, _⟩) (v := ?_) rfl (by kernel_rfl) (by kernel_rfl) (by kernel_rfl) (fun _ _ _ h => h) (Or.inl ⟨by rfl, ?_⟩) hS ?_
      rotate_left
      · intro W hW; go_simp; with_reducible rfl
      try simp only [Act.put, List.setIfInBounds_toArray, List.set_cons_zero, List.set_cons_succ]
      refine wpAnyH_take (i := 7) (oi := ⟨some 22, _, _, _, _, _⟩) (v := ?_) rfl (by kernel_rfl) (by kernel_rfl) (by kernel_rfl) (fun _ _ _ h => h) (Or.inl ⟨by rfl, ?_⟩) hS ?_
      rotate_left
      · intro W hW; go_simp; with_reducible rfl
      try simp only [Act.put, List.setIfInBounds_toArray, List.set_cons_zero, List.set_cons_succ]
      refine wpAnyH_take (i := 8) (oi := ⟨some 23, _, _, _, _, _⟩) (v := ?_) rfl (by kernel_rfl) (by kernel_rfl) (by kernel_rfl) (fun _ _ _ h => h) (Or.inl ⟨by rfl, ?_⟩) hS ?_
      rotate_left
      · intro W hW; go_simp; with_reducible rfl
      try simp only [Act.put, List.setIfInBounds_toArray, List.set_cons_zero, List.set_cons_succ]
      refine wpAnyH_take (i := 9) (oi := ⟨some 24, _, _, _, _, _⟩) (v := ?_) rfl (by kernel_rfl) (by kernel_rfl) (by kernel_rfl) (fun _ _ _ h => h) (Or.inl ⟨by rfl, ?_⟩) hS ?_
      rotate_left
      · intro W hW; go_simp; with_reducible rfl
      try simp only [Act.put, List.setIfInBounds_toArray, List.set_cons_zero, List.set_cons_succ]
      refine wpAnyH_take (i := 10) (oi := ⟨some 25, _, _, _, _, _⟩) (v := ?_) rfl (by kernel_rfl) (by kernel_rfl) (by kernel_rfl) (fun _ _ _ h => h) (Or.inl ⟨by rfl, ?_⟩) hS ?_
      rotate_left
      · intro W hW; go_simp; with_reducible rfl
      try simp only [Act.put, List.setIfInBounds_toArray, List.set_cons_zero, List.set_cons_succ]
      refine wpAnyH_take (i := 11) (oi := ⟨some 26, _, _, _, _, _⟩) (v := ?_) rfl (by kernel_rfl) (by kernel_rfl) (by kernel_rfl) (fun _ _ _ h => h) (Or.inl ⟨by rfl, ?_⟩) hS ?_
      rotate_left
      · intro W hW; go_simp; with_reducible rfl
      try simp only [Act.put, List.setIfInBounds_toArray, List.set_cons_zero, List.set_cons_succ]
      refine wpAnyH_take (i := 12) (oi := ⟨some 27, _, _, _, _, _⟩) (v := ?_) rfl (by kernel_rfl) (by kernel_rfl) (by kernel_rfl) (fun _ _ _ h => h) (Or.inl ⟨by rfl, ?_⟩) hS ?_
      rotate_left
      · intro W hW; go_simp; with_reducible rfl
      try simp only [Act.put, List.setIfInBounds_toArray, List.set_cons_zero, List.set_cons_succ]
      refine wpAnyH_take (i := 13) (oi := ⟨some 28, _, _, _, _, _⟩) (v := ?_) rfl (by kernel_rfl) (by kernel_rfl) (by kernel_rfl) (fun _ _ _ h => h) (Or.inl ⟨by rfl, ?_⟩) hS ?_
      rotate_left
      · intro W hW; go_simp; with_reducible rfl
      try simp only [Act.put, List.setIfInBounds_toArray, List.set_cons_zero, List.set_cons_succ]
      refine wpAnyH_take (i := 14) (oi := ⟨some 29, _, _, _, _, _⟩) (v := ?_) rfl (by kernel_rfl) (by kernel_rfl) (by kernel_rfl) (fun _ _ _ h => h) (Or.inl ⟨by rfl, ?_⟩) hS ?_
      rotate_left
      · intro W hW; go_simp; with_reducible rfl
      try simp only [Act.put, List.setIfInBounds_toArray, List.set_cons_zero, List.set_cons_succ]
      refine wpAnyH_take (i := 15) (oi := ⟨some 30, _, _, _, _, _⟩) (v := ?_) rfl (by kernel_rfl) (by kernel_rfl) (by kernel_rfl) (fun _ _ _ h => h) (Or.inl ⟨by rfl, ?_⟩) hS ?_
      rotate_left
      · intro W hW; go_simp; with_reducible rfl
      try simp only [Act.put, List.setIfInBounds_toArray, List.set_cons_zero, List.set_cons_succ]
      refine wpAnyH_take (i := 16) (oi := ⟨some 31, _, _, _, _, _⟩) (v := ?_) rfl (by kernel_rfl) (by kernel_rfl) (by kernel_rfl) (fun _ _ _ h => h) (Or.inl ⟨by rfl, ?_⟩) hS ?_
      rotate_left
      · intro W hW; go_simp; with_reducible rfl
      try simp only [Act.put, List.setIfInBounds_toArray, List.set_cons_zero, List.set_cons_succ]
      refine wpAnyH_take (i := 17) (oi := ⟨some 32, _, _, _, _, _⟩) (v := ?_) rfl (by kernel_rfl) (by kernel_rfl) (by kernel_rfl) (fun _ _ _ h => h) (Or.inl ⟨by rfl, ?_⟩) hS ?_
      rotate_left
      · intro W hW; go_simp; with_reducible rfl
      try simp only [Act.put, List.setIfInBounds_toArray, List.set_cons_zero, List.set_cons_succ]
      refine wpAnyH_take (i := 18) (oi := ⟨some 33, _, _, _, _, _⟩) (v := ?_) rfl (by kernel_rfl) (by kernel_rfl) (by kernel_rfl) (fun _ _ _ h => h) (Or.inl ⟨by rfl, ?_⟩) hS ?_
      rotate_left
      · intro W hW; go_simp; with_reducible rfl
      try simp only [Act.put, List.setIfInBounds_toArray, List.set_cons_zero, List.set_cons_succ]
      refine wpAnyH_take (i := 19) (oi := ⟨some 34, _, _, _, _, _⟩) (v := ?_) rfl (by kernel_rfl) (by kernel_rfl) (by kernel_rfl) (fun _ _ _ h => h) (Or.inl ⟨by rfl, ?_⟩) hS ?_
      rotate_left
      · intro W hW; go_simp; with_reducible rfl
      try simp only [Act.put, List.setIfInBounds_toArray, List.set_cons_zero, List.set_cons_succ]
      refine wpAnyH_take (i := 20) (oi := ⟨some 35, _, _, _, _, _⟩) (v := ?_) rfl (by kernel_rfl) (by kernel_rfl) (by kernel_rfl) (fun _ _ _ h => h) (Or.inl ⟨by rfl, ?_⟩) hS ?_
      rotate_left
      · intro W hW; go_simp; with_reducible rfl
      try simp only [Act.put, List.setIfInBounds_toArray, List.set_cons_zero, List.set_cons_succ]
      refine wpAnyH_ready (rs := [1, 21]) (by kernel_rfl) (by simp) ?_
      refine AllReadyH.cons (o := ⟨some 16, _, _, _, _, _⟩) rfl (fun Kr hKr => ?_) (AllReadyH.cons (o := ⟨some 36, _, _, _, _, _⟩) rfl (fun Kr hKr => ?_) AllReadyH.nil)
      · skip
        -- operation 1: a step
        try rw [if_pos (by kernel_rfl)]
        go_simp
        show Kr _ _
        refine hKr.out _ _ ?_ (fun _ => ?_)
        · exact hS
        clear hKr Kr
        try simp only [Act.put, List.setIfInBounds_toArray, List.set_cons_zero, List.set_cons_succ]
        refine wpAnyH_ready (rs := [21]) (by kernel_rfl) (by simp) ?_
        refine AllReadyH.cons (o := ⟨some 36, _, _, _, _, _⟩) rfl (fun Kr hKr => ?_) AllReadyH.nil
        -- operation 21: a step
        try rw [if_pos (by kernel_rfl)]
        go_simp
        show Kr _ _
        refine hKr.out _ _ ?_ (fun _ => ?_)
        · exact Turn.trans hS (Turn.ofBelow (below_new _ _))
        clear hKr Kr
        replace hS : Turn (fun q => q = go ∨ cv.ownBlock = some q) wr ((World.drew wr).alloc (.cells #[.int .i64 lo, .int .i64 hi, .slice sA sn sc] 90)) := Turn.trans hS (Turn.ofBelow (below_new _ _))
        try simp only [Act.put, List.setIfInBounds_toArray, List.set_cons_zero, List.set_cons_succ]
        refine wpAnyH_ready (rs := [22]) (by kernel_rfl) (by simp) ?_
        refine AllReadyH.cons (o := ⟨some 37, _, _, _, _, _⟩) rfl (fun Kr hKr => ?_) AllReadyH.nil
        -- operation 22: a step
        try rw [if_pos (by kernel_rfl)]
        refine Rk.wp_append rv_okr (.tmp 16) (.tmp 36) rfl (go + 1) cv acc [⟨lo, hi, sA, sn, sc⟩] rfl HOA.out _ 1 1 rfl (vr_at (World.drew wr) lo hi ⟨sA, sn, sc⟩) rfl (.inr ⟨_, _, rfl⟩) (by have := HLN.out; rw [List.length_singleton]; omega) HSA.out ?_
        intro v8 w8 hx1 hg1 ha1
        obtain ⟨n8, hn8⟩ : ∃ n8, (acc ++ [(⟨lo, hi, sA, sn, sc⟩ : Vr)]).length = n8 := ⟨_, rfl⟩
        obtain ⟨A8, c8, rfl⟩ := own_slice rv_okr hx1 hn8
        clear hn8
        have HO8 := Lib.hid hx1
        have HG8 := Lib.hid hg1
        have HK8 := Lib.hid (HKA.out.far hg1 (fun e => by have := (HOA.out.lt _ e.symm).1; omega))
        have k1 : w8.cell? ⟨go, 1, none⟩ = some cv := HK8.out.c 1 _ rfl
        have k2 := HK8.out.fr 1
        show Kr _ _
        refine hKr.out _ _ ?_ (fun _ => ?_)
        · exact Turn.trans hS (Turn.grown (Turn.refl _ _) hg1 (fun j e => .inl (.inr e)))
        clear hKr Kr
        replace hS : Turn (fun q => q = go ∨ cv.ownBlock = some q) wr w8 := Turn.trans hS (Turn.grown (Turn.refl _ _) hg1 (fun j e => .inl (.inr e)))
        try simp only [Act.put, List.setIfInBounds_toArray, List.set_cons_zero, List.set_cons_succ]
        refine wpAnyH_take (i := 23) (oi := ⟨some 38, _, _, _, _, _⟩) (v := ?_) rfl (by kernel_rfl) (by kernel_rfl) (by kernel_rfl) (fun _ _ _ h => h) (Or.inl ⟨by rfl, ?_⟩) hS ?_
        rotate_left
        · intro W hW; go_simp; with_reducible rfl
        try simp only [Act.put, List.setIfInBounds_toArray, List.set_cons_zero, List.set_cons_succ]
        refine wpAnyH_ready (rs := [24]) (by kernel_rfl) (by simp) ?_
        refine AllReadyH.cons (o := ⟨none, _, _, _, _, _⟩) rfl (fun Kr hKr => ?_) AllReadyH.nil
        -- operation 24: a step
        try rw [if_pos (by kernel_rfl)]
        go_simp
        show Kr _ _
        refine hKr.out _ _ ?_ (fun _ => ?_)
        · exact Turn.trans hS ((Turn.refl _ _).setCell _ _ (.inl (.inl rfl)))
        clear hKr Kr
        replace hS : Turn (fun q => q = go ∨ cv.ownBlock = some q) wr (w8.setCell ⟨go, 1, none⟩ (.slice A8 n8 c8)) := Turn.trans hS ((Turn.refl _ _).setCell _ _ (.inl (.inl rfl)))
        try simp only [Act.put, List.setIfInBounds_toArray, List.set_cons_zero, List.set_cons_succ]
        refine wpAnyH_done (by kernel_rfl) ?_ _
        have HK9 := Lib.hid (show Bk (w8.setCell ⟨go, 1, none⟩ (.slice A8 n8 c8)) go #[.slice A n a, .slice A8 n8 c8] 54 from heap_setCell_same w8 go 1 _ _ (.slice A8 n8 c8) HK8.out)
        have HO9 : Hid (RVr.Own (w8.setCell ⟨go, 1, none⟩ (.slice A8 n8 c8)) (go + 1) (.slice A8 n8 c8) (acc ++ [⟨lo, hi, sA, sn, sc⟩])) := HO8.out.turn (S := fun q => q = go) ((Turn.refl _ _).setCell _ _ (.inl rfl)) (fun q e h => by have := (HO8.out.lt q e).1; omega)
        have HT9 := Lib.hid hS
        clear hS
        go_wp2_with fail
        exact ⟨⟨j + 1, .slice A8 n8 c8, rfl, hlt, by rw [HTK.out]; exact HO9, HK9, Lib.hid (HXj.out.turn HT9.out (fun h => by have := HNX.out _ h; omega)), Lib.hid (HZj.out.turn HT9.out (fun h => by have := HNX.out _ h; omega)), Lib.hid (HBj.out.trans (HT9.out.below (B := w.heap.size) (fun z h => by have := HNX.out _ h; omega) HBj.out.size)), Lib.hid (Nat.le_trans HSj.out HT9.out.size)⟩, by simp [intOf]; omega⟩
      · skip
        -- operation 21: a step
        try rw [if_pos (by kernel_rfl)]
        go_simp
        show Kr _ _
        refine hKr.out _ _ ?_ (fun _ => ?_)
        · exact Turn.trans hS (Turn.ofBelow (below_new _ _))
        clear hKr Kr
        replace hS : Turn (fun q => q = go ∨ cv.ownBlock = some q) wr ((World.drew wr).alloc (.cells #[.int .i64 lo, .int .i64 hi, .slice sA sn sc] 90)) := Turn.trans hS (Turn.ofBelow (below_new _ _))
        try simp only [Act.put, List.setIfInBounds_toArray, List.set_cons_zero, List.set_cons_succ]
        refine wpAnyH_ready (rs := [1]) (by kernel_rfl) (by simp) ?_
        refine AllReadyH.cons (o := ⟨some 16, _, _, _, _, _⟩) rfl (fun Kr hKr => ?_) AllReadyH.nil
        -- operation 1: a step
        try rw [if_pos (by kernel_rfl)]
        go_simp
        show Kr _ _
        refine hKr.out _ _ ?_ (fun _ => ?_)
        · exact hS
        clear hKr Kr
        try simp only [Act.put, List.setIfInBounds_toArray, List.set_cons_zero, List.set_cons_succ]
        refine wpAnyH_ready (rs := [22]) (by kernel_rfl) (by simp) ?_
        refine AllReadyH.cons (o := ⟨some 37, _, _, _, _, _⟩) rfl (fun Kr hKr => ?_) AllReadyH.nil
        -- operation 22: a step
        try rw [if_pos (by kernel_rfl)]
        refine Rk.wp_append rv_okr (.tmp 16) (.tmp 36) rfl (go + 1) cv acc [⟨lo, hi, sA, sn, sc⟩] rfl HOA.out _ 1 1 rfl (vr_at (World.drew wr) lo hi ⟨sA, sn, sc⟩) rfl (.inr ⟨_, _, rfl⟩) (by have := HLN.out; rw [List.length_singleton]; omega) HSA.out ?_
        intro v8 w8 hx1 hg1 ha1
        obtain ⟨n8, hn8⟩ : ∃ n8, (acc ++ [(⟨lo, hi, sA, sn, sc⟩ : Vr)]).length = n8 := ⟨_, rfl⟩
        obtain ⟨A8, c8, rfl⟩ := own_slice rv_okr hx1 hn8
        clear hn8
        have HO8 := Lib.hid hx1
        have HG8 := Lib.hid hg1
        have HK8 := Lib.hid (HKA.out.far hg1 (fun e => by have := (HOA.out.lt _ e.symm).1; omega))
        have k1 : w8.cell? ⟨go, 1, none⟩ = some cv := HK8.out.c 1 _ rfl
        have k2 := HK8.out.fr 1
        show Kr _ _
        refine hKr.out _ _ ?_ (fun _ => ?_)
        · exact Turn.trans hS (Turn.grown (Turn.refl _ _) hg1 (fun j e => .inl (.inr e)))
        clear hKr Kr
        replace hS : Turn (fun q => q = go ∨ cv.ownBlock = some q) wr w8 := Turn.trans hS (Turn.grown (Turn.refl _ _) hg1 (fun j e => .inl (.inr e)))
        try simp only [Act.put, List.setIfInBounds_toArray, List.set_cons_zero, List.set_cons_succ]
        refine wpAnyH_take (i := 23) (oi := ⟨some 38, _, _, _, _, _⟩) (v := ?_) rfl (by kernel_rfl) (by kernel_rfl) (by kernel_rfl) (fun _ _ _ h => h) (Or.inl ⟨by rfl, ?_⟩) hS ?_
        rotate_left
        · intro W hW; go_simp; with_reducible rfl
        try simp only [Act.put, List.setIfInBounds_toArray, List.set_cons_zero, List.set_cons_succ]
        refine wpAnyH_ready (rs := [24]) (by kernel_rfl) (by simp) ?_
        refine AllReadyH.cons (o := ⟨none, _, _, _, _, _⟩) rfl (fun Kr hKr => ?_) AllReadyH.nil
        -- operation 24: a step
        try rw [if_pos (by kernel_rfl)]
        go_simp
        show Kr _ _
        refine hKr.out _ _ ?_ (fun _ => ?_)
        · exact Turn.trans hS ((Turn.refl _ _).setCell _ _ (.inl (.inl rfl)))
        clear hKr Kr
        replace hS : Turn (fun q => q = go ∨ cv.ownBlock = some q) wr (w8.setCell ⟨go, 1, none⟩ (.slice A8 n8 c8)) := Turn.trans hS ((Turn.refl _ _).setCell _ _ (.inl (.inl rfl)))
        try simp only [Act.put, List.setIfInBounds_toArray, List.set_cons_zero, List.set_cons_succ]
        refine wpAnyH_done (by kernel_rfl) ?_ _
        have HK9 := Lib.hid (show Bk (w8.setCell ⟨go, 1, none⟩ (.slice A8 n8 c8)) go #[.slice A n a, .slice A8 n8 c8] 54 from heap_setCell_same w8 go 1 _ _ (.slice A8 n8 c8) HK8.out)
        have HO9 : Hid (RVr.Own (w8.setCell ⟨go, 1, none⟩ (.slice A8 n8 c8)) (go + 1) (.slice A8 n8 c8) (acc ++ [⟨lo, hi, sA, sn, sc⟩])) := HO8.out.turn (S := fun q => q = go) ((Turn.refl _ _).setCell _ _ (.inl rfl)) (fun q e h => by have := (HO8.out.lt q e).1; omega)
        have HT9 := Lib.hid hS
        clear hS
        go_wp2_with fail
        exact ⟨⟨j + 1, .slice A8 n8 c8, rfl, hlt, by rw [HTK.out]; exact HO9, HK9, Lib.hid (HXj.out.turn HT9.out (fun h => by have := HNX.out _ h; omega)), Lib.hid (HZj.out.turn HT9.out (fun h => by have := HNX.out _ h; omega)), Lib.hid (HBj.out.trans (HT9.out.below (B := w.heap.size) (fun z h => by have := HNX.out _ h; omega) HBj.out.size)), Lib.hid (Nat.le_trans HSj.out HT9.out.size)⟩, by simp [intOf]; omega⟩
    · obtain rfl : j = m := by omega
      have hd4 : decide ((j : Int) < (j : Int)) = false := decide_eq_false (by omega)
      have hd5 : decide (j < j) = false := decide_eq_false (by omega)
      have hlj : vs.take j = vs := List.take_of_length_le (by rw [HS.out.l]; exact Nat.le_refl _)
      rw [hlj] at HOj
      clear hlj
      obtain ⟨A6, c6, e6⟩ := own_slice rv_okr HOj.out HS.out.l
      subst e6
      have g0 : wr.cell? ⟨go, 0, none⟩ = some (.slice A n a) := HKj.out.c 0 _ rfl
      have g1 : wr.cell? ⟨go, 1, none⟩ = some (.slice A6 j c6) := HKj.out.c 1 _ rfl
      have z0 : wr.cell? ⟨w.heap.size + 1, 0, none⟩ = some (.slice none 0 0) := HZj.out.c 0 _ rfl
      have z1 : wr.cell? ⟨w.heap.size + 1, 1, none⟩ = some (.slice none 0 0) := HZj.out.c 1 _ rfl
      have f0 := HZj.out.fr 0
      have f1 := HZj.out.fr 1
      go_wp2_with fail
      have HW := (HBj.out.setCell (p := ⟨w.heap.size + 1, 0, none⟩) (show w.heap.size ≤ w.heap.size + 1 from by omega) (.slice A n a)).setCell (p := ⟨w.heap.size + 1, 1, none⟩) (show w.heap.size ≤ w.heap.size + 1 from by omega) (.slice A6 j c6)
      refine bodyPost_ret (v := vtV A n a A6 j c6) (by rw [results_cell_one rfl]; go_simp) rfl ⟨A6, c6, rfl, ?_, HW⟩
      have hT := ((Turn.refl (fun q => q = w.heap.size + 1) wr).setCell ⟨w.heap.size + 1, 0, none⟩ (.slice A n a) (.inl rfl)).setCell ⟨w.heap.size + 1, 1, none⟩ (.slice A6 j c6) (.inl rfl)
      obtain ⟨p1, p2, p3, p4⟩ := own_parts rv_okr HOj.out HS.out.l
      obtain ⟨ss, hss⟩ := HT.out.base
      exact ⟨⟨ss, hss.below HW⟩, ⟨vs, HS.out.k, HS.out.l, p1.turn hT (fun bb o e => .inr (fun h => by have h1 := (p4 bb o e).1; have := HGZ.out; omega)), fun i r v h1 h2 => by
        obtain ⟨e1, e2, e3⟩ := HS.out.d i r v h1 h2
        exact ⟨e1, e2, e3.below HW⟩⟩, HT.out.na, HT.out.sa, p2, .inr p3⟩
end Go.Proofs.Ytmhnjmfcenbogaa
