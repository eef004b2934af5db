/-
  Zeros made; blocks of nothing.
-/
import Derived.Test.YtmhnjmfcenbogaaSa
import Derived.Laws.OwnMore
namespace Go.Proofs.Ytmhnjmfcenbogaa
set_option maxRecDepth 100000
set_option linter.unusedVariables false
set_option linter.unusedSimpArgs false
open Go.RowKit

/-- 'make([]byte, n)', in any world -/
theorem run_zeros (w : World) (n : Nat) (hn : n ≤ 1000000) : ∃ w', (Instr.makeSlice 36 (.int .i64 (n : Int)) (.int .i64 (n : Int))).run Try.prog w = .ok (.slice (some ⟨w.heap.size, 0, none⟩) n n) w' ∧
    RY.Own w' w.heap.size (.slice (some ⟨w.heap.size, 0, none⟩) n n) (List.replicate n 0) ∧ Below w.heap.size w w' := by
  obtain ⟨i0, hi, hz0, hz1, hz2⟩ := parts_of ry_ok.facts
  obtain ⟨w2, hmk, hown, hgr⟩ := run_make_full (P := Try.prog) w w.heap.size 36 5 i0 (.int .u8 0) 1 Try.underlying36 hi hz0 hz1 .i64 .i64 n (by rw [hz2]; show 1 * n ≤ _; omega) (by unfold maxLen; omega) (Nat.le_refl _)
  have e : (madeCells (Value.cells (.int .u8 0)) (n * 1)).toList = RY.cells (List.replicate n 0) := by
    rw [ry_cells]
    unfold madeCells
    rw [Array.toList_map, Array.toList_range, List.map_replicate, Nat.mul_one, List.eq_replicate_iff]
    refine ⟨by simp, fun b hb => ?_⟩
    obtain ⟨i, _, rfl⟩ := List.mem_map.1 hb
    simp [Value.cells, byV, Nat.mod_one]
  rw [e] at hown
  refine ⟨w2, hmk, ?_, (Below.refl _ _).grown hgr (Nat.le_refl _) (by simp)⟩
  · show w2.ownsRow w.heap.size 5 1 _ (List.replicate n (0 : UInt8)).length _
    rw [List.length_replicate]; exact hown
theorem sl_at (w : World) (s : Sl) : RB.At (w.alloc (.cells #[s.v] 36)) (some ⟨w.heap.size, 0, none⟩) [s] := Rk.At.new rb_ok w s 36
theorem blank_round {wr w2 w3 w9 : World} {go h2 n8 c8 : Nat} {cv : Value} {A8 : Option Addr} {ss : List Sl} (hD : ∀ s ∈ ss, DatAt wr s zV ∧ ∃ b o, s.A = some ⟨b, o, none⟩ ∧ go < b ∧ b < wr.heap.size ∧ cv.ownBlock ≠ some b)
    (hA : DatAt w3 ⟨some ⟨h2, 0, none⟩, 32, 32⟩ zV) (hT9 : Turn (fun q => q = go ∨ cv.ownBlock = some q) wr w9) (hT8 : Turn (fun q => q = go ∨ cv.ownBlock = some q) w3 w9)
    (ha : (Value.slice A8 n8 c8).ownBlock = cv.ownBlock ∨ (Value.slice A8 n8 c8).ownBlock = some w3.heap.size) (hb2 : Below wr.heap.size wr w2) (hl2 : h2 < w2.heap.size) (hh : h2 = wr.heap.size) (hg : go + 1 ≤ wr.heap.size) (hc : ∀ b, cv.ownBlock = some b → b < wr.heap.size) (h3 : w2.heap.size ≤ w3.heap.size) :
    ∀ s ∈ ss ++ [(⟨some ⟨h2, 0, none⟩, 32, 32⟩ : Sl)], DatAt w9 s zV ∧ ∃ b o, s.A = some ⟨b, o, none⟩ ∧ go < b ∧ b < w9.heap.size ∧ (Value.slice A8 n8 c8).ownBlock ≠ some b := by
  intro s hs
  have hz := hb2.size
  have hz9 := hT8.size
  rcases List.mem_append.1 hs with hs | hs
  · obtain ⟨q1, b, o, q2, q3, q4, q5⟩ := hD s hs
    refine ⟨q1.turn hT9 (fun b' o' e' => .inr (fun h => by rw [q2] at e'; injection e' with e'; injection e' with e1 _; subst e1; rcases h with h | h; omega; exact q5 h)), b, o, q2, q3, by omega, fun e => ?_⟩
    rcases ha with ha | ha
    · rw [ha] at e; exact q5 e
    · rw [ha] at e; injection e with e; omega
  · have : s = ⟨some ⟨h2, 0, none⟩, 32, 32⟩ := by simpa using hs
    subst this
    refine ⟨hA.turn hT8 (fun b' o' e' => .inr (fun h => by injection e' with e'; injection e' with e1 _; subst e1; rcases h with h | h; omega; have := hc _ h; omega)), h2, 0, rfl, by omega, by omega, fun e => ?_⟩
    rcases ha with ha | ha
    · rw [ha] at e; have := hc _ e; omega
    · rw [ha] at e; injection e with e; omega

set_option maxHeartbeats 4000000 in
theorem blank_any (n : Nat) (hn : n ≤ 1000) (w : World) :
    Calls Try.prog 20 #[.int .i64 (n : Int)] w fun e w' => ∃ A a, e = .returned (vtV A n a none 0 0) ∧ VtAt RVo w' A n a none 0 0 ⟨List.replicate n zV, []⟩ ∧ (∀ b o, A = some ⟨b, o, none⟩ → w.heap.size ≤ b) ∧ Below w.heap.size w w' := by
  have HN := Lib.hid hn
  have HX := Lib.hid ((Bk.new w #[.slice none 0 0, .slice none 0 0] 30).al (.cells #[.slice none 0 0, .slice none 0 0] 30))
  have hgo0 := Bk.new (w.alloc (.cells #[.slice none 0 0, .slice none 0 0] 30)) #[.slice none 0 0, .slice none 0 0] 30
  rw [size_al] at hgo0
  have HB := Lib.hid (below_two (below_new w (.cells #[.slice none 0 0, .slice none 0 0] 30)) (below_new _ (.cells #[.slice none 0 0, .slice none 0 0] 30)))
  clear hn
  go_enter Try.func20, Try.ntmps20
  go_upto_region 2 with fail
  obtain ⟨go, hgo⟩ : ∃ go, go = w.heap.size + 1 := ⟨_, rfl⟩
  rw [← hgo] at hgo0
  have HGo := Lib.hid hgo0
  have HGZ := Lib.hid (show w.heap.size < go from by omega)
  try rw [← hgo]
  clear hgo hgo0
  generalize (w.alloc (.cells #[.slice none 0 0, .slice none 0 0] 30)).alloc (.cells #[.slice none 0 0, .slice none 0 0] 30) = w4 at *
  have HGL := Lib.hid HGo.out.lt
  go_wp2_with fail
  go_loopw [4] (fun u wr => ∃ (j : Nat) (cv : Value) (ss : List Sl), u = .int .i64 (j : Int) ∧ j ≤ n ∧ Hid (RB.Own wr (go + 1) cv ss) ∧ Hid (ss.length = j) ∧ Hid (∀ s ∈ ss, DatAt wr s zV ∧ ∃ b o, s.A = some ⟨b, o, none⟩ ∧ go < b ∧ b < wr.heap.size ∧ cv.ownBlock ≠ some b) ∧ Hid (Bk wr go #[cv, .slice none 0 0] 30) ∧ Hid (Bk wr w.heap.size #[.slice none 0 0, .slice none 0 0] 30) ∧ Hid (Below w.heap.size w wr) ∧ Hid (go + 1 ≤ wr.heap.size)) (fun u _ => n - (intOf u).toNat)
  case atStart => exact ⟨0, _, [], rfl, Nat.zero_le _, Rk.Own.nil _ _ _, Lib.hid rfl, Lib.hid (by simp), HGo, HX, HB, HGL⟩
  case round =>
    obtain ⟨j, cv, ss, rfl, hj, HOj, HLj, HDj, HKj, HXj, HBj, HSj⟩ := hrel
    have hq3 : n ≤ 1000 := HN.out
    rcases Nat.lt_or_ge j n with hlt | hge
    · have hd4 : decide ((j : Int) < (n : Int)) = true := decide_eq_true (by omega)
      have hd5 : decide (j < n) = true := decide_eq_true hlt
      have hi1 : (j : Int) < (n : Int) := by omega
      have HLN := Lib.hid (show ss.length ≤ 1000 by have := HLj.out; omega)
      go_upto_region 5 with fail
      have HNX := Lib.hid (show ∀ z, (z = go ∨ cv.ownBlock = some z) → w.heap.size < z from fun z h => by
        have h1 := HGZ.out
        rcases h with h | h
        · omega
        · have := (HOj.out.lt z h).1; omega)
      obtain ⟨w2, hmk, ho2, hb2⟩ := run_zeros (World.drew wr) 32 (by omega)
      obtain ⟨h2, hh2⟩ : ∃ h2, h2 = (World.drew wr).heap.size := ⟨_, rfl⟩
      have HH2 := Lib.hid (show h2 = wr.heap.size from hh2)
      rw [← hh2] at hmk ho2 hb2
      have HMK := Lib.hid hmk
      have HO2 := Lib.hid ho2
      have hbw : Below wr.heap.size wr w2 := by
        have h9 := hb2
        rw [hh2] at h9
        exact ((Below.refl wr.heap.size wr).drew).trans h9
      have HB2 := Lib.hid hbw
      have hb3 := below_two hbw (below_new w2 (.cells #[.slice (some ⟨h2, 0, none⟩) 32 32] 36))
      have HB3 := Lib.hid hb3
      have HKA := Lib.hid (HKj.out.below hb3)
      have HOA := Lib.hid (HOj.out.below hb3)
      have HDA := Lib.hid (show DatAt (w2.alloc (.cells #[.slice (some ⟨h2, 0, none⟩) 32 32] 36)) ⟨some ⟨h2, 0, none⟩, 32, 32⟩ zV from (⟨rfl, Nat.le_refl _, .inr (.inr ⟨_, _, rfl⟩), (own_parts ry_ok ho2 rfl).1⟩ : DatAt w2 ⟨some ⟨h2, 0, none⟩, 32, 32⟩ zV).below (below_new w2 _))
      have HSA := Lib.hid (Nat.le_trans HSj.out hb3.size)
      have HLT := Lib.hid (show h2 < w2.heap.size from (ho2.lt h2 rfl).2)
      have k1 : wr.cell? ⟨go, 0, none⟩ = some cv := HKj.out.c 0 _ rfl
      have k2 : w2.cell? ⟨go, 0, none⟩ = some cv := (HKj.out.below hbw).c 0 _ rfl
      have k3 : (w2.alloc (.cells #[.slice (some ⟨h2, 0, none⟩) 32 32] 36)).cell? ⟨go, 0, none⟩ = some cv := HKA.out.c 0 _ rfl
      clear hmk ho2 hb2 hbw hb3 hh2
      refine wp_region_turn (X := (fun q => q = go ∨ cv.ownBlock = some q)) (by kernel_rfl) ?_
      have hS : Turn (fun q => q = go ∨ cv.ownBlock = some q) wr (World.drew wr) := (Turn.refl _ _).drew
      refine wpAnyH_take (i := 0) (oi := ⟨some 11, _, _, _, _, _⟩) (v := ?_) rfl (by kernel_rfl) (by kernel_rfl) (by kernel_rfl) (fun _ _ _ h => h) (Or.inl ⟨by rfl, ?_⟩) hS ?_
      rotate_left
      · intro W hW; go_simp; with_reducible rfl
      try simp only [Act.put, List.setIfInBounds_toArray, List.set_cons_zero, List.set_cons_succ]
      refine wpAnyH_ready (rs := [1, 2]) (by kernel_rfl) (by simp) ?_
      refine AllReadyH.cons (o := ⟨some 12, _, _, _, _, _⟩) rfl (fun Kr hKr => ?_) (AllReadyH.cons (o := ⟨some 13, _, _, _, _, _⟩) rfl (fun Kr hKr => ?_) AllReadyH.nil)
      · skip
        -- operation 1: a step
        try rw [if_pos (by kernel_rfl)]
        go_simp
        show Kr _ _
        refine hKr.out _ _ ?_ (fun _ => ?_)
        · exact hS
        clear hKr Kr
        try simp only [Act.put, List.setIfInBounds_toArray, List.set_cons_zero, List.set_cons_succ]
        refine wpAnyH_ready (rs := [2]) (by kernel_rfl) (by simp) ?_
        refine AllReadyH.cons (o := ⟨some 13, _, _, _, _, _⟩) rfl (fun Kr hKr => ?_) AllReadyH.nil
        -- operation 2: a step
        try rw [if_pos (by kernel_rfl)]
        refine wp_make 36 _ _ rfl rfl rfl HMK.out ?_
        show Kr _ _
        refine hKr.out _ _ ?_ (fun _ => ?_)
        · exact Turn.ofBelow HB2.out
        clear hKr Kr
        replace hS : Turn (fun q => q = go ∨ cv.ownBlock = some q) wr w2 := Turn.ofBelow HB2.out
        try simp only [Act.put, List.setIfInBounds_toArray, List.set_cons_zero, List.set_cons_succ]
        refine wpAnyH_ready (rs := [3]) (by kernel_rfl) (by simp) ?_
        refine AllReadyH.cons (o := ⟨some 14, _, _, _, _, _⟩) rfl (fun Kr hKr => ?_) AllReadyH.nil
        -- operation 3: a step
        try rw [if_pos (by kernel_rfl)]
        go_simp
        show Kr _ _
        refine hKr.out _ _ ?_ (fun _ => ?_)
        · exact Turn.ofBelow HB3.out
        clear hKr Kr
        replace hS : Turn (fun q => q = go ∨ cv.ownBlock = some q) wr (w2.alloc (.cells #[.slice (some ⟨h2, 0, none⟩) 32 32] 36)) := Turn.ofBelow HB3.out
        try simp only [Act.put, List.setIfInBounds_toArray, List.set_cons_zero, List.set_cons_succ]
        refine wpAnyH_ready (rs := [4]) (by kernel_rfl) (by simp) ?_
        refine AllReadyH.cons (o := ⟨some 15, _, _, _, _, _⟩) rfl (fun Kr hKr => ?_) AllReadyH.nil
        -- operation 4: a step
        try rw [if_pos (by kernel_rfl)]
        refine Rk.wp_append rb_ok (.tmp 12) (.tmp 14) rfl (go + 1) cv ss [⟨some ⟨h2, 0, none⟩, 32, 32⟩] rfl HOA.out _ 1 1 rfl (sl_at w2 ⟨some ⟨h2, 0, none⟩, 32, 32⟩) rfl (.inr ⟨_, _, rfl⟩) (by have := HLN.out; rw [List.length_singleton]; omega) HSA.out ?_
        intro v8 w8 hx1 hg1 ha1
        obtain ⟨n8, hn8⟩ : ∃ n8, (ss ++ [(⟨some ⟨h2, 0, none⟩, 32, 32⟩ : Sl)]).length = n8 := ⟨_, rfl⟩
        obtain ⟨A8, c8, rfl⟩ := own_slice rb_ok hx1 hn8
        have HN8 := Lib.hid hn8
        clear hn8
        have HO8 := Lib.hid hx1
        have HG8 := Lib.hid hg1
        have HA8 := Lib.hid ha1
        have HK8 := Lib.hid (HKA.out.far hg1 (fun e => by have := (HOA.out.lt _ e.symm).1; omega))
        have k1 : w8.cell? ⟨go, 0, none⟩ = some cv := HK8.out.c 0 _ rfl
        have k4 := HK8.out.fr 0
        show Kr _ _
        refine hKr.out _ _ ?_ (fun _ => ?_)
        · exact Turn.trans hS (Turn.grown (Turn.refl _ _) hg1 (fun j e => .inl (.inr e)))
        clear hKr Kr
        replace hS : Turn (fun q => q = go ∨ cv.ownBlock = some q) wr w8 := Turn.trans hS (Turn.grown (Turn.refl _ _) hg1 (fun j e => .inl (.inr e)))
        try simp only [Act.put, List.setIfInBounds_toArray, List.set_cons_zero, List.set_cons_succ]
        refine wpAnyH_take (i := 5) (oi := ⟨some 16, _, _, _, _, _⟩) (v := ?_) rfl (by kernel_rfl) (by kernel_rfl) (by kernel_rfl) (fun _ _ _ h => h) (Or.inl ⟨by rfl, ?_⟩) hS ?_
        rotate_left
        · intro W hW; go_simp; with_reducible rfl
        try simp only [Act.put, List.setIfInBounds_toArray, List.set_cons_zero, List.set_cons_succ]
        refine wpAnyH_ready (rs := [6]) (by kernel_rfl) (by simp) ?_
        refine AllReadyH.cons (o := ⟨none, _, _, _, _, _⟩) rfl (fun Kr hKr => ?_) AllReadyH.nil
        -- operation 6: a step
        try rw [if_pos (by kernel_rfl)]
        go_simp
        show Kr _ _
        refine hKr.out _ _ ?_ (fun _ => ?_)
        · exact Turn.trans hS ((Turn.refl _ _).setCell _ _ (.inl (.inl rfl)))
        clear hKr Kr
        replace hS : Turn (fun q => q = go ∨ cv.ownBlock = some q) wr (w8.setCell ⟨go, 0, none⟩ (.slice A8 n8 c8)) := Turn.trans hS ((Turn.refl _ _).setCell _ _ (.inl (.inl rfl)))
        try simp only [Act.put, List.setIfInBounds_toArray, List.set_cons_zero, List.set_cons_succ]
        refine wpAnyH_done (by kernel_rfl) ?_ _
        have HK9 := Lib.hid (show Bk (w8.setCell ⟨go, 0, none⟩ (.slice A8 n8 c8)) go #[.slice A8 n8 c8, .slice none 0 0] 30 from heap_setCell_same w8 go 0 _ _ (.slice A8 n8 c8) HK8.out)
        have HO9 : Hid (RB.Own (w8.setCell ⟨go, 0, none⟩ (.slice A8 n8 c8)) (go + 1) (.slice A8 n8 c8) (ss ++ [⟨some ⟨h2, 0, none⟩, 32, 32⟩])) := HO8.out.turn (S := fun q => q = go) ((Turn.refl _ _).setCell _ _ (.inl rfl)) (fun q e h => by have := (HO8.out.lt q e).1; omega)
        have HT9 := Lib.hid hS
        have HT8 := Lib.hid (Turn.trans (Turn.grown (Turn.refl (fun q => q = go ∨ cv.ownBlock = some q) (w2.alloc (.cells #[.slice (some ⟨h2, 0, none⟩) 32 32] 36))) HG8.out (fun j e => .inl (.inr e))) ((Turn.refl _ _).setCell ⟨go, 0, none⟩ (.slice A8 n8 c8) (.inl (.inl rfl))))
        clear hS
        go_wp2_with fail
        exact ⟨⟨j + 1, .slice A8 n8 c8, _, rfl, hlt, HO9, Lib.hid (by rw [List.length_append, HLj.out]; rfl), Lib.hid (blank_round HDj.out HDA.out HT9.out HT8.out HA8.out HB2.out HLT.out HH2.out HSj.out (fun b e => (HOj.out.lt b e).2) (below_new w2 _).size), HK9, Lib.hid (HXj.out.turn HT9.out (fun h => by have := HNX.out _ h; omega)), Lib.hid (HBj.out.trans (HT9.out.below (B := w.heap.size) (fun z h => by have := HNX.out _ h; omega) HBj.out.size)), Lib.hid (Nat.le_trans HSj.out HT9.out.size)⟩, by simp [intOf]; omega⟩
      · skip
        -- operation 2: a step
        try rw [if_pos (by kernel_rfl)]
        refine wp_make 36 _ _ rfl rfl rfl HMK.out ?_
        show Kr _ _
        refine hKr.out _ _ ?_ (fun _ => ?_)
        · exact Turn.ofBelow HB2.out
        clear hKr Kr
        replace hS : Turn (fun q => q = go ∨ cv.ownBlock = some q) wr w2 := Turn.ofBelow HB2.out
        try simp only [Act.put, List.setIfInBounds_toArray, List.set_cons_zero, List.set_cons_succ]
        refine wpAnyH_ready (rs := [1, 3]) (by kernel_rfl) (by simp) ?_
        refine AllReadyH.cons (o := ⟨some 12, _, _, _, _, _⟩) rfl (fun Kr hKr => ?_) (AllReadyH.cons (o := ⟨some 14, _, _, _, _, _⟩) rfl (fun Kr hKr => ?_) AllReadyH.nil)
        · skip
          -- operation 1: a step
          try rw [if_pos (by kernel_rfl)]
          go_simp
          show Kr _ _
          refine hKr.out _ _ ?_ (fun _ => ?_)
          · exact hS
          clear hKr Kr
          try simp only [Act.put, List.setIfInBounds_toArray, List.set_cons_zero, List.set_cons_succ]
          refine wpAnyH_ready (rs := [3]) (by kernel_rfl) (by simp) ?_
          refine AllReadyH.cons (o := ⟨some 14, _, _, _, _, _⟩) rfl (fun Kr hKr => ?_) AllReadyH.nil
          -- operation 3: a step
          try rw [if_pos (by kernel_rfl)]
          go_simp
          show Kr _ _
          refine hKr.out _ _ ?_ (fun _ => ?_)
          · exact Turn.ofBelow HB3.out
          clear hKr Kr
          replace hS : Turn (fun q => q = go ∨ cv.ownBlock = some q) wr (w2.alloc (.cells #[.slice (some ⟨h2, 0, none⟩) 32 32] 36)) := Turn.ofBelow HB3.out
          try simp only [Act.put, List.setIfInBounds_toArray, List.set_cons_zero, List.set_cons_succ]
          refine wpAnyH_ready (rs := [4]) (by kernel_rfl) (by simp) ?_
          refine AllReadyH.cons (o := ⟨some 15, _, _, _, _, _⟩) rfl (fun Kr hKr => ?_) AllReadyH.nil
          -- operation 4: a step
          try rw [if_pos (by kernel_rfl)]
          refine Rk.wp_append rb_ok (.tmp 12) (.tmp 14) rfl (go + 1) cv ss [⟨some ⟨h2, 0, none⟩, 32, 32⟩] rfl HOA.out _ 1 1 rfl (sl_at w2 ⟨some ⟨h2, 0, none⟩, 32, 32⟩) rfl (.inr ⟨_, _, rfl⟩) (by have := HLN.out; rw [List.length_singleton]; omega) HSA.out ?_
          intro v8 w8 hx1 hg1 ha1
          obtain ⟨n8, hn8⟩ : ∃ n8, (ss ++ [(⟨some ⟨h2, 0, none⟩, 32, 32⟩ : Sl)]).length = n8 := ⟨_, rfl⟩
          obtain ⟨A8, c8, rfl⟩ := own_slice rb_ok hx1 hn8
          have HN8 := Lib.hid hn8
          clear hn8
          have HO8 := Lib.hid hx1
          have HG8 := Lib.hid hg1
          have HA8 := Lib.hid ha1
          have HK8 := Lib.hid (HKA.out.far hg1 (fun e => by have := (HOA.out.lt _ e.symm).1; omega))
          have k1 : w8.cell? ⟨go, 0, none⟩ = some cv := HK8.out.c 0 _ rfl
          have k4 := HK8.out.fr 0
          show Kr _ _
          refine hKr.out _ _ ?_ (fun _ => ?_)
          · exact Turn.trans hS (Turn.grown (Turn.refl _ _) hg1 (fun j e => .inl (.inr e)))
          clear hKr Kr
          replace hS : Turn (fun q => q = go ∨ cv.ownBlock = some q) wr w8 := Turn.trans hS (Turn.grown (Turn.refl _ _) hg1 (fun j e => .inl (.inr e)))
          try simp only [Act.put, List.setIfInBounds_toArray, List.set_cons_zero, List.set_cons_succ]
          refine wpAnyH_take (i := 5) (oi := ⟨some 16, _, _, _, _, _⟩) (v := ?_) rfl (by kernel_rfl) (by kernel_rfl) (by kernel_rfl) (fun _ _ _ h => h) (Or.inl ⟨by rfl, ?_⟩) hS ?_
          rotate_left
          · intro W hW; go_simp; with_reducible rfl
          try simp only [Act.put, List.setIfInBounds_toArray, List.set_cons_zero, List.set_cons_succ]
          refine wpAnyH_ready (rs := [6]) (by kernel_rfl) (by simp) ?_
          refine AllReadyH.cons (o := ⟨none, _, _, _, _, _⟩) rfl (fun Kr hKr => ?_) AllReadyH.nil
          -- operation 6: a step
          try rw [if_pos (by kernel_rfl)]
          go_simp
          show Kr _ _
          refine hKr.out _ _ ?_ (fun _ => ?_)
          · exact Turn.trans hS ((Turn.refl _ _).setCell _ _ (.inl (.inl rfl)))
          clear hKr Kr
          replace hS : Turn (fun q => q = go ∨ cv.ownBlock = some q) wr (w8.setCell ⟨go, 0, none⟩ (.slice A8 n8 c8)) := Turn.trans hS ((Turn.refl _ _).setCell _ _ (.inl (.inl rfl)))
          try simp only [Act.put, List.setIfInBounds_toArray, List.set_cons_zero, List.set_cons_succ]
          refine wpAnyH_done (by kernel_rfl) ?_ _
          have HK9 := Lib.hid (show Bk (w8.setCell ⟨go, 0, none⟩ (.slice A8 n8 c8)) go #[.slice A8 n8 c8, .slice none 0 0] 30 from heap_setCell_same w8 go 0 _ _ (.slice A8 n8 c8) HK8.out)
          have HO9 : Hid (RB.Own (w8.setCell ⟨go, 0, none⟩ (.slice A8 n8 c8)) (go + 1) (.slice A8 n8 c8) (ss ++ [⟨some ⟨h2, 0, none⟩, 32, 32⟩])) := HO8.out.turn (S := fun q => q = go) ((Turn.refl _ _).setCell _ _ (.inl rfl)) (fun q e h => by have := (HO8.out.lt q e).1; omega)
          have HT9 := Lib.hid hS
          have HT8 := Lib.hid (Turn.trans (Turn.grown (Turn.refl (fun q => q = go ∨ cv.ownBlock = some q) (w2.alloc (.cells #[.slice (some ⟨h2, 0, none⟩) 32 32] 36))) HG8.out (fun j e => .inl (.inr e))) ((Turn.refl _ _).setCell ⟨go, 0, none⟩ (.slice A8 n8 c8) (.inl (.inl rfl))))
          clear hS
          go_wp2_with fail
          exact ⟨⟨j + 1, .slice A8 n8 c8, _, rfl, hlt, HO9, Lib.hid (by rw [List.length_append, HLj.out]; rfl), Lib.hid (blank_round HDj.out HDA.out HT9.out HT8.out HA8.out HB2.out HLT.out HH2.out HSj.out (fun b e => (HOj.out.lt b e).2) (below_new w2 _).size), HK9, Lib.hid (HXj.out.turn HT9.out (fun h => by have := HNX.out _ h; omega)), Lib.hid (HBj.out.trans (HT9.out.below (B := w.heap.size) (fun z h => by have := HNX.out _ h; omega) HBj.out.size)), Lib.hid (Nat.le_trans HSj.out HT9.out.size)⟩, by simp [intOf]; omega⟩
        · skip
          -- operation 3: a step
          try rw [if_pos (by kernel_rfl)]
          go_simp
          show Kr _ _
          refine hKr.out _ _ ?_ (fun _ => ?_)
          · exact Turn.ofBelow HB3.out
          clear hKr Kr
          replace hS : Turn (fun q => q = go ∨ cv.ownBlock = some q) wr (w2.alloc (.cells #[.slice (some ⟨h2, 0, none⟩) 32 32] 36)) := Turn.ofBelow HB3.out
          try simp only [Act.put, List.setIfInBounds_toArray, List.set_cons_zero, List.set_cons_succ]
          refine wpAnyH_ready (rs := [1]) (by kernel_rfl) (by simp) ?_
          refine AllReadyH.cons (o := ⟨some 12, _, _, _, _, _⟩) rfl (fun Kr hKr => ?_) AllReadyH.nil
          -- operation 1: a step
          try rw [if_pos (by kernel_rfl)]
          go_simp
          show Kr _ _
          refine hKr.out _ _ ?_ (fun _ => ?_)
          · exact hS
          clear hKr Kr
          try simp only [Act.put, List.setIfInBounds_toArray, List.set_cons_zero, List.set_cons_succ]
          refine wpAnyH_ready (rs := [4]) (by kernel_rfl) (by simp) ?_
          refine AllReadyH.cons (o := ⟨some 15, _, _, _, _, _⟩) rfl (fun Kr hKr => ?_) AllReadyH.nil
          -- operation 4: a step
          try rw [if_pos (by kernel_rfl)]
          refine Rk.wp_append rb_ok (.tmp 12) (.tmp 14) rfl (go + 1) cv ss [⟨some ⟨h2, 0, none⟩, 32, 32⟩] rfl HOA.out _ 1 1 rfl (sl_at w2 ⟨some ⟨h2, 0, none⟩, 32, 32⟩) rfl (.inr ⟨_, _, rfl⟩) (by have := HLN.out; rw [List.length_singleton]; omega) HSA.out ?_
          intro v8 w8 hx1 hg1 ha1
          obtain ⟨n8, hn8⟩ : ∃ n8, (ss ++ [(⟨some ⟨h2, 0, none⟩, 32, 32⟩ : Sl)]).length = n8 := ⟨_, rfl⟩
          obtain ⟨A8, c8, rfl⟩ := own_slice rb_ok hx1 hn8
          have HN8 := Lib.hid hn8
          clear hn8
          have HO8 := Lib.hid hx1
          have HG8 := Lib.hid hg1
          have HA8 := Lib.hid ha1
          have HK8 := Lib.hid (HKA.out.far hg1 (fun e => by have := (HOA.out.lt _ e.symm).1; omega))
          have k1 : w8.cell? ⟨go, 0, none⟩ = some cv := HK8.out.c 0 _ rfl
          have k4 := HK8.out.fr 0
          show Kr _ _
          refine hKr.out _ _ ?_ (fun _ => ?_)
          · exact Turn.trans hS (Turn.grown (Turn.refl _ _) hg1 (fun j e => .inl (.inr e)))
          clear hKr Kr
          replace hS : Turn (fun q => q = go ∨ cv.ownBlock = some q) wr w8 := Turn.trans hS (Turn.grown (Turn.refl _ _) hg1 (fun j e => .inl (.inr e)))
          try simp only [Act.put, List.setIfInBounds_toArray, List.set_cons_zero, List.set_cons_succ]
          refine wpAnyH_take (i := 5) (oi := ⟨some 16, _, _, _, _, _⟩) (v := ?_) rfl (by kernel_rfl) (by kernel_rfl) (by kernel_rfl) (fun _ _ _ h => h) (Or.inl ⟨by rfl, ?_⟩) hS ?_
          rotate_left
          · intro W hW; go_simp; with_reducible rfl
          try simp only [Act.put, List.setIfInBounds_toArray, List.set_cons_zero, List.set_cons_succ]
          refine wpAnyH_ready (rs := [6]) (by kernel_rfl) (by simp) ?_
          refine AllReadyH.cons (o := ⟨none, _, _, _, _, _⟩) rfl (fun Kr hKr => ?_) AllReadyH.nil
          -- operation 6: a step
          try rw [if_pos (by kernel_rfl)]
          go_simp
          show Kr _ _
          refine hKr.out _ _ ?_ (fun _ => ?_)
          · exact Turn.trans hS ((Turn.refl _ _).setCell _ _ (.inl (.inl rfl)))
          clear hKr Kr
          replace hS : Turn (fun q => q = go ∨ cv.ownBlock = some q) wr (w8.setCell ⟨go, 0, none⟩ (.slice A8 n8 c8)) := Turn.trans hS ((Turn.refl _ _).setCell _ _ (.inl (.inl rfl)))
          try simp only [Act.put, List.setIfInBounds_toArray, List.set_cons_zero, List.set_cons_succ]
          refine wpAnyH_done (by kernel_rfl) ?_ _
          have HK9 := Lib.hid (show Bk (w8.setCell ⟨go, 0, none⟩ (.slice A8 n8 c8)) go #[.slice A8 n8 c8, .slice none 0 0] 30 from heap_setCell_same w8 go 0 _ _ (.slice A8 n8 c8) HK8.out)
          have HO9 : Hid (RB.Own (w8.setCell ⟨go, 0, none⟩ (.slice A8 n8 c8)) (go + 1) (.slice A8 n8 c8) (ss ++ [⟨some ⟨h2, 0, none⟩, 32, 32⟩])) := HO8.out.turn (S := fun q => q = go) ((Turn.refl _ _).setCell _ _ (.inl rfl)) (fun q e h => by have := (HO8.out.lt q e).1; omega)
          have HT9 := Lib.hid hS
          have HT8 := Lib.hid (Turn.trans (Turn.grown (Turn.refl (fun q => q = go ∨ cv.ownBlock = some q) (w2.alloc (.cells #[.slice (some ⟨h2, 0, none⟩) 32 32] 36))) HG8.out (fun j e => .inl (.inr e))) ((Turn.refl _ _).setCell ⟨go, 0, none⟩ (.slice A8 n8 c8) (.inl (.inl rfl))))
          clear hS
          go_wp2_with fail
          exact ⟨⟨j + 1, .slice A8 n8 c8, _, rfl, hlt, HO9, Lib.hid (by rw [List.length_append, HLj.out]; rfl), Lib.hid (blank_round HDj.out HDA.out HT9.out HT8.out HA8.out HB2.out HLT.out HH2.out HSj.out (fun b e => (HOj.out.lt b e).2) (below_new w2 _).size), HK9, Lib.hid (HXj.out.turn HT9.out (fun h => by have := HNX.out _ h; omega)), Lib.hid (HBj.out.trans (HT9.out.below (B := w.heap.size) (fun z h => by have := HNX.out _ h; omega) HBj.out.size)), Lib.hid (Nat.le_trans HSj.out HT9.out.size)⟩, by simp [intOf]; omega⟩
    · obtain rfl : j = n := by omega
      have hd4 : decide ((j : Int) < (j : Int)) = false := decide_eq_false (by omega)
      have hd5 : decide (j < j) = false := decide_eq_false (by omega)
      obtain ⟨A6, c6, e6⟩ := own_slice rb_ok HOj.out HLj.out
      subst e6
      have g0 : wr.cell? ⟨go, 0, none⟩ = some (.slice A6 j c6) := HKj.out.c 0 _ rfl
      have g1 : wr.cell? ⟨go, 1, none⟩ = some (.slice none 0 0) := HKj.out.c 1 _ rfl
      have z0 : wr.cell? ⟨w.heap.size, 0, none⟩ = some (.slice none 0 0) := HXj.out.c 0 _ rfl
      have z1 : wr.cell? ⟨w.heap.size, 1, none⟩ = some (.slice none 0 0) := HXj.out.c 1 _ rfl
      have f0 := HXj.out.fr 0
      have f1 := HXj.out.fr 1
      go_wp2_with fail
      have HW := (HBj.out.setCell (p := ⟨w.heap.size, 0, none⟩) (Nat.le_refl _) (.slice A6 j c6)).setCell (p := ⟨w.heap.size, 1, none⟩) (Nat.le_refl _) (.slice none 0 0)
      refine bodyPost_ret (v := vtV A6 j c6 none 0 0) (by rw [results_cell_one rfl]; go_simp) rfl ⟨A6, c6, rfl, ?_, fun bb o e => by have h1 := ((own_parts rb_ok HOj.out HLj.out).2.2.2 bb o e).1; have := HGZ.out; omega, HW⟩
      have hT := ((Turn.refl (fun q => q = w.heap.size) wr).setCell ⟨w.heap.size, 0, none⟩ (.slice A6 j c6) (.inl rfl)).setCell ⟨w.heap.size, 1, none⟩ (.slice none 0 0) (.inl rfl)
      obtain ⟨p1, p2, p3, p4⟩ := own_parts rb_ok HOj.out HLj.out
      refine ⟨⟨ss, by simp, HLj.out, p1.turn hT (fun bb o e => .inr (fun h => by have h1 := (p4 bb o e).1; have := HGZ.out; omega)), fun i s d h1 h2 => ?_⟩, ⟨[], rfl, rfl, .inl rfl, fun i r v h1 h2 => by simp at h1⟩, p2, .inr p3, Nat.le_refl _, .inl rfl⟩
      obtain ⟨q1, b, o, q2, q3, _, _⟩ := HDj.out s (List.mem_of_getElem? h1)
      have hz : d = zV := by
        have := List.mem_of_getElem? h2
        exact (List.mem_replicate.1 this).2
      subst hz
      exact q1.turn hT (fun b' o' e' => .inr (fun h => by rw [q2] at e'; injection e' with e'; injection e' with e1 _; have := HGZ.out; omega))
end Go.Proofs.Ytmhnjmfcenbogaa
