/-
  NoteIs over the words: whether a note may be, its bytes, how many, what bytes tell, two notes as one: as the document has it.
-/
import Derived.Test.YtjpnihmijnpjcaaNj
import Derived.Deep.CutRange
namespace Go.Proofs.Ytjpnihmijnpjcaa
set_option maxRecDepth 100000
set_option linter.unusedVariables false
set_option linter.unusedSimpArgs false
open Go.RowKit Wm Nn

theorem sameB_self (x : Nt) : sameB x x = true := by unfold sameB; simp
theorem decN_len (b : List UInt8) : (decN b).im.length ≤ 100000 ∧ (decN b).op.length ≤ 100000 := by
  by_cases h : decE b = 0
  · obtain ⟨_, h1, h2, _⟩ := dec_ok h
    rw [decN_ok h]
    refine ⟨?_, ?_⟩
    · show (tIms b (mOf b)).length ≤ 100000
      rw [tIms_len]; omega
    · show (tOps b _ (qOf b)).length ≤ 100000
      rw [tOps_len]; omega
  · rw [not_told h]
    exact ⟨by decide, by decide⟩
theorem merN_len (x y : Nt) : (merN x y).im.length ≤ 100000 ∧ (merN x y).op.length ≤ 100000 := by
  by_cases h : merE x y = 0
  · obtain ⟨_, h1, h2⟩ := merE_san h
    rw [h2]
    have := h1.1.2.2.1
    have := h1.1.2.2.2.1
    omega
  · rw [merE_zeroN h]
    exact ⟨by decide, by decide⟩

/-- what came in, in any world later -/
structure In3 (w V : World) (g1 g2 : Nat) (x y : Nt) (r q : Nr) (A : Option Addr) (c n : Nat) (l : List UInt8) : Prop where
  X : NtB V g1 25 x r
  Y : NtB V g2 25 y q
  N : NtAt V x r
  M : NtAt V y q
  L : Lies V A c n l
  B : Below w.heap.size w V
theorem In3.up {w V W : World} {g1 g2 : Nat} {x y : Nt} {r q : Nr} {A : Option Addr} {c n : Nat} {l : List UInt8} (h : In3 w V g1 g2 x y r q A c n l) (hb : Below V.heap.size V W) : In3 w W g1 g2 x y r q A c n l :=
  ⟨h.X.below hb, h.Y.below hb, h.N.below hb, h.M.below hb, h.L.up hb, h.B.trans (hb.mono h.B.size)⟩

set_option maxHeartbeats 4000000 in
theorem is_walk (hw : NoteOk) (x y : Nt) (r q : Nr) (A : Option Addr) (c n : Nat) (l : List UInt8) (w : World) (hx : NtAt w x r) (hy : NtAt w y q) (hl : Lies w A c n l) :
    Calls Try.prog 3 #[ntV x r, ntV y q, .slice A n c] w fun e w' => e = .returned (.bool true) ∧ Below w.heap.size w w' := by
  have HW := Lib.hid hw
  clear hw
  obtain ⟨A1, k1, c1, B1, l1, d1, e1⟩ := r
  obtain ⟨A2, k2, c2, B2, l2, d2, e2⟩ := q
  obtain ⟨HX, HY, HB, HN, HM⟩ := two_boxed w x y _ _ hx hy 25
  have HL := Lib.hid (hl.up HB.out)
  have hcn := hl.cap
  have HLN := Lib.hid hl.len
  clear hx hy hl
  unfold ntV
  obtain ⟨C, hC⟩ : ∃ C, C = ntC x ⟨A1, k1, c1, B1, l1, d1, e1⟩ := ⟨_, rfl⟩
  obtain ⟨C2, hC2⟩ : ∃ C2, C2 = ntC y ⟨A2, k2, c2, B2, l2, d2, e2⟩ := ⟨_, rfl⟩
  rw [← hC, ← hC2] at HX HY HB HN HM HL ⊢
  clear hC hC2
  go_enter Try.func3, Try.ntmps3
  go_upto_region 1 with fail
  generalize w.heap.size + 1 = g2 at *
  generalize (w.alloc (.cells C 25)).alloc (.cells C2 25) = w0 at *
  obtain ⟨g1, hg1⟩ : ∃ g1, g1 = w.heap.size := ⟨_, rfl⟩
  have HI0 : Hid (In3 w w0 g1 g2 x y ⟨A1, k1, c1, B1, l1, d1, e1⟩ ⟨A2, k2, c2, B2, l2, d2, e2⟩ A c n l) := Lib.hid ⟨by rw [hg1]; exact HX.out, HY.out, HN.out, HM.out, HL.out, HB.out⟩
  clear HX HY HN HM HL HB
  rw [← hg1]
  clear hg1
  go_wp2_with fail
  refine (awake_any HW.out w0).mono ?_
  rintro e w1 ⟨rfl, hb1⟩
  have HI1 := Lib.hid (HI0.out.up hb1)
  clear hb1 HI0
  have a0 := HI1.out.X.c0
  have a1 := HI1.out.X.c1
  have a2 := HI1.out.X.c2
  have a3 := HI1.out.X.c3
  simp only at a2 a3
  go_wp2_with fail
  refine (few_any x ⟨A1, k1, c1, B1, l1, d1, e1⟩ 300 w1 HI1.out.N (by omega)).mono ?_
  rintro e w2 ⟨hb2, ⟨rfl, hf⟩ | rfl⟩
  rotate_left
  · have HB2 := Lib.hid (HI1.out.up hb2).B
    clear hb2 a0 a1 a2 a3
    go_wp2_with fail
    go_ret
    exact ⟨rfl, HB2.out⟩
  have HI2 := Lib.hid (HI1.out.up hb2)
  have HFX := Lib.hid hf
  clear hb2 hf a0 a1 a2 a3 HI1
  have a0 := HI2.out.Y.c0
  have a1 := HI2.out.Y.c1
  have a2 := HI2.out.Y.c2
  have a3 := HI2.out.Y.c3
  simp only at a2 a3
  go_wp2_with fail
  refine (few_any y ⟨A2, k2, c2, B2, l2, d2, e2⟩ 300 w2 HI2.out.M (by omega)).mono ?_
  rintro e w3 ⟨hb3, ⟨rfl, hf⟩ | rfl⟩
  rotate_left
  · have HB3 := Lib.hid (HI2.out.up hb3).B
    clear hb3 a0 a1 a2 a3
    go_wp2_with fail
    go_ret
    exact ⟨rfl, HB3.out⟩
  have HI3 := Lib.hid (HI2.out.up hb3)
  have HFY := Lib.hid hf
  clear hb3 hf a0 a1 a2 a3 HI2
  have HSX := Lib.hid (few_small HFX.out (by omega))
  have HSY := Lib.hid (few_small HFY.out (by omega))
  by_cases hn : 2000 < n
  · obtain ⟨p1, p2⟩ := gtn_yes hn
    obtain ⟨p3, p4⟩ := gt_yes (a := (n : Int)) (b := 2000) (by omega)
    clear hn
    go_wp2_with fail
    go_ret
    exact ⟨rfl, HI3.out.B⟩
  obtain ⟨p1, p2⟩ := gtn_no hn
  obtain ⟨p3, p4⟩ := gt_no (a := (n : Int)) (b := 2000) (by omega)
  have hn2 : n ≤ 2000 := by omega
  clear hn
  have a0 := HI3.out.X.c0
  have a1 := HI3.out.X.c1
  have a2 := HI3.out.X.c2
  have a3 := HI3.out.X.c3
  simp only at a2 a3
  obtain ⟨le, hle⟩ : ∃ le, le = encB x := ⟨_, rfl⟩
  obtain ⟨E1, hE1⟩ : ∃ E1, E1 = encE x := ⟨_, rfl⟩
  have HLE := Lib.hid hle
  have HE1 := Lib.hid hE1
  clear hle hE1
  -- the program's bytes
  go_wp2_with fail
  refine (ours_any x ⟨A1, k1, c1, B1, l1, d1, e1⟩ w3).mono ?_
  rintro e w4 ⟨rfl, hb4⟩
  have HI4 := Lib.hid (HI3.out.up hb4)
  clear hb4 a0 a1 a2 a3 HI3 p1 p2 p3 p4
  go_wp2_with fail
  refine (HW.out.encode x ⟨A1, k1, c1, B1, l1, d1, e1⟩ w4 HI4.out.N HSX.out).mono ?_
  rw [← HLE.out, ← HE1.out]
  rintro e w5 ⟨Ae, Ne, ce, rfl, hNe, hOe, hb5⟩
  have HI5 := Lib.hid (HI4.out.up hb5)
  have HC5 := Lib.hid hOe.lies
  clear hNe hOe hb5 HI4
  -- the document's
  have a0 := HI5.out.X.c0
  have a1 := HI5.out.X.c1
  have a2 := HI5.out.X.c2
  have a3 := HI5.out.X.c3
  simp only at a2 a3
  go_wp2_with fail
  refine (enc_any x ⟨A1, k1, c1, B1, l1, d1, e1⟩ w5 HI5.out.N HSX.out).mono ?_
  rw [← HLE.out, ← HE1.out]
  rintro e w6 ⟨Af, Nf, cf, rfl, hNf, hOf, hb6⟩
  have HI6 := Lib.hid (HI5.out.up hb6)
  have HC6 := Lib.hid (HC5.out.up hb6)
  have HF6 := Lib.hid hOf.lies
  clear hNf hOf hb6 HI5 HC5 a0 a1 a2 a3
  -- what the bytes tell: the program
  go_wp2_with fail
  refine (HW.out.decode A c n l w6 HI6.out.L (by omega)).mono ?_
  obtain ⟨D, hD⟩ : ∃ D, D = decN l := ⟨_, rfl⟩
  obtain ⟨ED, hED⟩ : ∃ ED, ED = decE l := ⟨_, rfl⟩
  rw [← hD, ← hED]
  have HD := Lib.hid hD
  have HED := Lib.hid hED
  clear hD hED
  rintro e w7 ⟨⟨uA, un, uc, uB, um, ud, us⟩, rfl, hat, hb7, _⟩
  have HI7 := Lib.hid (HI6.out.up hb7)
  have HC7 := Lib.hid (HC6.out.up hb7)
  have HF7 := Lib.hid (HF6.out.up hb7)
  have HU7 := Lib.hid hat
  clear hat hb7 HI6 HC6 HF6
  unfold ntV
  obtain ⟨G, hG⟩ : ∃ G, G = ntC D ⟨uA, un, uc, uB, um, ud, us⟩ := ⟨_, rfl⟩
  have HUB : Hid (NtB (w7.alloc (.cells G 32)) w7.heap.size 32 D ⟨uA, un, uc, uB, um, ud, us⟩) := Lib.hid (by rw [hG]; exact NtB.new _ _ _ _)
  have HBN := Lib.hid (below_new w7 (.cells G 32))
  unfold ntC at hG ⊢
  go_upto_region 7 with fail
  rw [← hG]
  clear hG
  have HI8 := Lib.hid (HI7.out.up HBN.out)
  have HC8 := Lib.hid (HC7.out.up HBN.out)
  have HF8 := Lib.hid (HF7.out.up HBN.out)
  have HU8 := Lib.hid (HU7.out.below HBN.out)
  clear HBN HI7 HC7 HF7 HU7
  generalize w7.alloc (.cells G 32) = w8 at *
  generalize w7.heap.size = gu at *
  -- the document
  go_wp2_with fail
  refine (decode_any A c n l w8 HI8.out.L (by omega)).mono ?_
  rw [← HD.out, ← HED.out]
  rintro e w9 ⟨⟨vA, vn, vc, vB, vm, vd, vs⟩, rfl, hat, hb9, _⟩
  have HI9 := Lib.hid (HI8.out.up hb9)
  have HC9 := Lib.hid (HC8.out.up hb9)
  have HF9 := Lib.hid (HF8.out.up hb9)
  have HU9 := Lib.hid (HU8.out.below hb9)
  have HUB9 := Lib.hid (HUB.out.below hb9)
  have HV9 := Lib.hid hat
  clear hat hb9 HI8 HC8 HF8 HU8 HUB
  unfold ntV
  obtain ⟨G, hG⟩ : ∃ G, G = ntC D ⟨vA, vn, vc, vB, vm, vd, vs⟩ := ⟨_, rfl⟩
  have HVB : Hid (NtB (w9.alloc (.cells G 25)) w9.heap.size 25 D ⟨vA, vn, vc, vB, vm, vd, vs⟩) := Lib.hid (by rw [hG]; exact NtB.new _ _ _ _)
  have HBN := Lib.hid (below_new w9 (.cells G 25))
  unfold ntC at hG ⊢
  go_upto_region 8 with fail
  rw [← hG]
  clear hG
  have HIA := Lib.hid (HI9.out.up HBN.out)
  have HCA := Lib.hid (HC9.out.up HBN.out)
  have HFA := Lib.hid (HF9.out.up HBN.out)
  have HUA := Lib.hid (HU9.out.below HBN.out)
  have HUBA := Lib.hid (HUB9.out.below HBN.out)
  have HVA := Lib.hid (HV9.out.below HBN.out)
  clear HBN HI9 HC9 HF9 HU9 HUB9 HV9
  generalize w9.alloc (.cells G 25) = wA at *
  generalize w9.heap.size = gv at *
  -- two as one: the program
  obtain ⟨m, hm⟩ : ∃ m, m = merN x y := ⟨_, rfl⟩
  obtain ⟨E, hE⟩ : ∃ E, E = merE x y := ⟨_, rfl⟩
  have HMG : Hid (∀ V, Since wA V → Calls Try.prog 16 #[ntV x ⟨A1, k1, c1, B1, l1, d1, e1⟩, ntV y ⟨A2, k2, c2, B2, l2, d2, e2⟩] V (MergeOut V m E ⟨A1, k1, c1, B1, l1, d1, e1⟩ ⟨A2, k2, c2, B2, l2, d2, e2⟩)) := Lib.hid (fun V hV => by
    rw [hm, hE]
    exact HW.out.merge x y _ _ V (HIA.out.N.below hV) (HIA.out.M.below hV) HSX.out HSY.out)
  have HME := Lib.hid hm
  have HEE := Lib.hid hE
  clear hm hE
  have x0 : ∀ V, Since wA V → V.cell? ⟨g1, 0, none⟩ = some (.int .i64 x.kind) := fun V hV => (HIA.out.X.below hV).c0
  have x1 : ∀ V, Since wA V → V.cell? ⟨g1, 1, none⟩ = some (.int .i64 x.seq) := fun V hV => (HIA.out.X.below hV).c1
  have x2 : ∀ V, Since wA V → V.cell? ⟨g1, 2, none⟩ = some (.slice A1 k1 c1) := fun V hV => (HIA.out.X.below hV).c2
  have x3 : ∀ V, Since wA V → V.cell? ⟨g1, 3, none⟩ = some (.slice B1 l1 d1) := fun V hV => (HIA.out.X.below hV).c3
  have y0 : ∀ V, Since wA V → V.cell? ⟨g2, 0, none⟩ = some (.int .i64 y.kind) := fun V hV => (HIA.out.Y.below hV).c0
  have y1 : ∀ V, Since wA V → V.cell? ⟨g2, 1, none⟩ = some (.int .i64 y.seq) := fun V hV => (HIA.out.Y.below hV).c1
  have y2 : ∀ V, Since wA V → V.cell? ⟨g2, 2, none⟩ = some (.slice A2 k2 c2) := fun V hV => (HIA.out.Y.below hV).c2
  have y3 : ∀ V, Since wA V → V.cell? ⟨g2, 3, none⟩ = some (.slice B2 l2 d2) := fun V hV => (HIA.out.Y.below hV).c3
  go_cut [16, 17] from 56 to 63 (fun u v wc => ∃ (z : Nat) (p : Nr), u = .pointer (some ⟨z, 0, none⟩) ∧ v = .int .i64 E ∧ Hid (Since wA wc) ∧ Hid (NtB wc z 32 m p) ∧ Hid (NtAt wc m p))
  case first =>
    refine wp_region_since (by kernel_rfl) ?_
    have hS : Since wA (World.drew wA) := (Below.refl _ _).drew
    refine wpAnyH_take (i := 0) (oi := ⟨some 57, _, _, _, _, _⟩) (v := ?_) rfl (by kernel_rfl) (by kernel_rfl) (by kernel_rfl) (fun _ _ _ h => h) (Or.inl ⟨by rfl, ?_⟩) hS ?_
    rotate_left
    · intro W hW; go_simp; with_reducible rfl
    try simp only [Act.put, List.setIfInBounds_toArray, List.set_cons_zero, List.set_cons_succ]
    refine wpAnyH_take (i := 2) (oi := ⟨some 59, _, _, _, _, _⟩) (v := ?_) rfl (by kernel_rfl) (by kernel_rfl) (by kernel_rfl) (fun _ _ _ h => h) (Or.inl ⟨by rfl, ?_⟩) hS ?_
    rotate_left
    · intro W hW; go_simp; with_reducible rfl
    try simp only [Act.put, List.setIfInBounds_toArray, List.set_cons_zero, List.set_cons_succ]
    refine wpAnyH_ready (rs := [1, 8]) (by kernel_rfl) (by simp) ?_
    refine AllReadyH.cons (o := ⟨some 58, _, _, _, _, _⟩) rfl (fun Kr hKr => ?_) (AllReadyH.cons (o := ⟨some 16, _, _, _, _, _⟩) rfl (fun Kr hKr => ?_) AllReadyH.nil)
    · skip
      -- operation 1: a call
      go_simp
      refine (ours_any x ⟨A1, k1, c1, B1, l1, d1, e1⟩ _).mono ?_
      rintro e V1 ⟨rfl, hx⟩
      try replace HAL := Lib.hid (HAL.out.below hx)
      show Kr _ _
      refine hKr.out _ _ ?_ (fun _ => ?_)
      · exact since_trans hS hx
      clear hKr Kr
      replace hS : Since wA V1 := since_trans hS hx
      try simp only [Act.put, List.setIfInBounds_toArray, List.set_cons_zero, List.set_cons_succ]
      refine wpAnyH_ready (rs := [3, 8]) (by kernel_rfl) (by simp) ?_
      refine AllReadyH.cons (o := ⟨some 60, _, _, _, _, _⟩) rfl (fun Kr hKr => ?_) (AllReadyH.cons (o := ⟨some 16, _, _, _, _, _⟩) rfl (fun Kr hKr => ?_) AllReadyH.nil)
      · skip
        -- operation 3: a call
        go_simp
        refine (ours_any y ⟨A2, k2, c2, B2, l2, d2, e2⟩ _).mono ?_
        rintro e V3 ⟨rfl, hx⟩
        try replace HAL := Lib.hid (HAL.out.below hx)
        show Kr _ _
        refine hKr.out _ _ ?_ (fun _ => ?_)
        · exact since_trans hS hx
        clear hKr Kr
        replace hS : Since wA V3 := since_trans hS hx
        try simp only [Act.put, List.setIfInBounds_toArray, List.set_cons_zero, List.set_cons_succ]
        refine wpAnyH_ready (rs := [4, 8]) (by kernel_rfl) (by simp) ?_
        refine AllReadyH.cons (o := ⟨some 61, _, _, _, _, _⟩) rfl (fun Kr hKr => ?_) (AllReadyH.cons (o := ⟨some 16, _, _, _, _, _⟩) rfl (fun Kr hKr => ?_) AllReadyH.nil)
        · skip
          -- operation 4: a call
          go_simp
          refine (HMG.out _ hS).mono ?_
          rintro e V4 ho
          obtain ⟨p, rfl, hgt, hx⟩ := merged hS HIA.out.N HIA.out.M ho
          have HGT := Lib.hid hgt
          try have HOF := Lib.hid (HGT.out.off z HLZ.out (.inl (Bk.lt HAL.out)))
          try replace HAL := Lib.hid (HAL.out.below hx)
          show Kr _ _
          refine hKr.out _ _ ?_ (fun _ => ?_)
          · exact since_trans hS hx
          clear hKr Kr
          replace hS : Since wA V4 := since_trans hS hx
          try simp only [Act.put, List.setIfInBounds_toArray, List.set_cons_zero, List.set_cons_succ]
          refine wpAnyH_take (i := 5) (oi := ⟨some 56, _, _, _, _, _⟩) (v := ?_) rfl (by kernel_rfl) (by kernel_rfl) (by kernel_rfl) (fun _ _ _ h => h) (Or.inl ⟨by rfl, ?_⟩) hS ?_
          rotate_left
          · intro W hW; go_simp; with_reducible rfl
          try simp only [Act.put, List.setIfInBounds_toArray, List.set_cons_zero, List.set_cons_succ]
          refine wpAnyH_take (i := 6) (oi := ⟨some 62, _, _, _, _, _⟩) (v := ?_) rfl (by kernel_rfl) (by kernel_rfl) (by kernel_rfl) (fun _ _ _ h => h) (Or.inl ⟨by rfl, ?_⟩) hS ?_
          rotate_left
          · intro W hW; go_simp; with_reducible rfl
          try simp only [Act.put, List.setIfInBounds_toArray, List.set_cons_zero, List.set_cons_succ]
          refine wpAnyH_take (i := 7) (oi := ⟨some 63, _, _, _, _, _⟩) (v := ?_) rfl (by kernel_rfl) (by kernel_rfl) (by kernel_rfl) (fun _ _ _ h => h) (Or.inl ⟨by rfl, ?_⟩) hS ?_
          rotate_left
          · intro W hW; go_simp; with_reducible rfl
          try simp only [Act.put, List.setIfInBounds_toArray, List.set_cons_zero, List.set_cons_succ]
          refine wpAnyH_ready (rs := [8]) (by kernel_rfl) (by simp) ?_
          refine AllReadyH.cons (o := ⟨some 16, _, _, _, _, _⟩) rfl (fun Kr hKr => ?_) AllReadyH.nil
          -- operation 8: a step
          try rw [if_pos (by kernel_rfl)]
          refine wp_alloc_bk 32 rfl ntZ (by kernel_rfl) ?_
          intro VA z hbx hx hle
          have HAL : Hid (Bk VA z ntZ 32) := Lib.hid hbx
          have HLZ := Lib.hid (Nat.le_trans hS.size hle)
          try have HOF := Lib.hid (HGT.out.off z HLZ.out (.inr (Nat.le_trans HGT.out.top hle)))
          try replace HGT := Lib.hid (HGT.out.below hx)
          show Kr _ _
          refine hKr.out _ _ ?_ (fun _ => ?_)
          · exact since_trans hS hx
          clear hKr Kr
          replace hS : Since wA VA := since_trans hS hx
          try simp only [Act.put, List.setIfInBounds_toArray, List.set_cons_zero, List.set_cons_succ]
          refine wpAnyH_ready (rs := [9]) (by kernel_rfl) (by simp) ?_
          refine AllReadyH.cons (o := ⟨none, _, _, _, _, _⟩) rfl (fun Kr hKr => ?_) AllReadyH.nil
          -- operation 9: a step
          try rw [if_pos (by kernel_rfl)]
          refine wp_store_bk 32 _ _ rfl z (ntC m p) rfl rfl 32 ntZ HAL.out (by kernel_rfl) rfl (ntC_one _ _) ?_
          intro VS hbx hg9
          have HBX : Hid (NtB VS z 32 m p) := Lib.hid ⟨hbx⟩
          have HNP := Lib.hid (HGT.out.at_.off HOF.out hg9)
          show Kr _ _
          refine hKr.out _ _ ?_ (fun _ => ?_)
          · exact Below.grown hS hg9 hS.size (fun q e => by have := HLZ.out; have e := Option.some.inj e; omega)
          clear hKr Kr
          replace hS : Since wA VS := Below.grown hS hg9 hS.size (fun q e => by have := HLZ.out; have e := Option.some.inj e; omega)
          try simp only [Act.put]
          refine wpAnyH_take (i := 10) (oi := ⟨some 17, _, _, _, _, _⟩) (v := ?_) rfl (by kernel_rfl) (by kernel_rfl) (by kernel_rfl) (fun _ _ _ h => h) (Or.inl ⟨by rfl, ?_⟩) hS ?_
          rotate_left
          · intro W hW; go_simp; with_reducible rfl
          try simp only [Act.put, List.setIfInBounds_toArray, List.set_cons_zero, List.set_cons_succ]
          refine wpAnyH_done (by kernel_rfl) ?_ _
          go_wp2_with fail
          go_meet
          case rel => exact ⟨z, p, rfl, rfl, Lib.hid hS, HBX, HNP⟩
        · skip
          -- operation 8: a step
          try rw [if_pos (by kernel_rfl)]
          refine wp_alloc_bk 32 rfl ntZ (by kernel_rfl) ?_
          intro VA z hbx hx hle
          have HAL : Hid (Bk VA z ntZ 32) := Lib.hid hbx
          have HLZ := Lib.hid (Nat.le_trans hS.size hle)
          try have HOF := Lib.hid (HGT.out.off z HLZ.out (.inr (Nat.le_trans HGT.out.top hle)))
          try replace HGT := Lib.hid (HGT.out.below hx)
          show Kr _ _
          refine hKr.out _ _ ?_ (fun _ => ?_)
          · exact since_trans hS hx
          clear hKr Kr
          replace hS : Since wA VA := since_trans hS hx
          try simp only [Act.put, List.setIfInBounds_toArray, List.set_cons_zero, List.set_cons_succ]
          refine wpAnyH_ready (rs := [4]) (by kernel_rfl) (by simp) ?_
          refine AllReadyH.cons (o := ⟨some 61, _, _, _, _, _⟩) rfl (fun Kr hKr => ?_) AllReadyH.nil
          -- operation 4: a call
          go_simp
          refine (HMG.out _ hS).mono ?_
          rintro e V4 ho
          obtain ⟨p, rfl, hgt, hx⟩ := merged hS HIA.out.N HIA.out.M ho
          have HGT := Lib.hid hgt
          try have HOF := Lib.hid (HGT.out.off z HLZ.out (.inl (Bk.lt HAL.out)))
          try replace HAL := Lib.hid (HAL.out.below hx)
          show Kr _ _
          refine hKr.out _ _ ?_ (fun _ => ?_)
          · exact since_trans hS hx
          clear hKr Kr
          replace hS : Since wA V4 := since_trans hS hx
          try simp only [Act.put, List.setIfInBounds_toArray, List.set_cons_zero, List.set_cons_succ]
          refine wpAnyH_take (i := 5) (oi := ⟨some 56, _, _, _, _, _⟩) (v := ?_) rfl (by kernel_rfl) (by kernel_rfl) (by kernel_rfl) (fun _ _ _ h => h) (Or.inl ⟨by rfl, ?_⟩) hS ?_
          rotate_left
          · intro W hW; go_simp; with_reducible rfl
          try simp only [Act.put, List.setIfInBounds_toArray, List.set_cons_zero, List.set_cons_succ]
          refine wpAnyH_take (i := 6) (oi := ⟨some 62, _, _, _, _, _⟩) (v := ?_) rfl (by kernel_rfl) (by kernel_rfl) (by kernel_rfl) (fun _ _ _ h => h) (Or.inl ⟨by rfl, ?_⟩) hS ?_
          rotate_left
          · intro W hW; go_simp; with_reducible rfl
          try simp only [Act.put, List.setIfInBounds_toArray, List.set_cons_zero, List.set_cons_succ]
          refine wpAnyH_take (i := 7) (oi := ⟨some 63, _, _, _, _, _⟩) (v := ?_) rfl (by kernel_rfl) (by kernel_rfl) (by kernel_rfl) (fun _ _ _ h => h) (Or.inl ⟨by rfl, ?_⟩) hS ?_
          rotate_left
          · intro W hW; go_simp; with_reducible rfl
          try simp only [Act.put, List.setIfInBounds_toArray, List.set_cons_zero, List.set_cons_succ]
          refine wpAnyH_ready (rs := [9]) (by kernel_rfl) (by simp) ?_
          refine AllReadyH.cons (o := ⟨none, _, _, _, _, _⟩) rfl (fun Kr hKr => ?_) AllReadyH.nil
          -- operation 9: a step
          try rw [if_pos (by kernel_rfl)]
          refine wp_store_bk 32 _ _ rfl z (ntC m p) rfl rfl 32 ntZ HAL.out (by kernel_rfl) rfl (ntC_one _ _) ?_
          intro VS hbx hg9
          have HBX : Hid (NtB VS z 32 m p) := Lib.hid ⟨hbx⟩
          have HNP := Lib.hid (HGT.out.at_.off HOF.out hg9)
          show Kr _ _
          refine hKr.out _ _ ?_ (fun _ => ?_)
          · exact Below.grown hS hg9 hS.size (fun q e => by have := HLZ.out; have e := Option.some.inj e; omega)
          clear hKr Kr
          replace hS : Since wA VS := Below.grown hS hg9 hS.size (fun q e => by have := HLZ.out; have e := Option.some.inj e; omega)
          try simp only [Act.put]
          refine wpAnyH_take (i := 10) (oi := ⟨some 17, _, _, _, _, _⟩) (v := ?_) rfl (by kernel_rfl) (by kernel_rfl) (by kernel_rfl) (fun _ _ _ h => h) (Or.inl ⟨by rfl, ?_⟩) hS ?_
          rotate_left
          · intro W hW; go_simp; with_reducible rfl
          try simp only [Act.put, List.setIfInBounds_toArray, List.set_cons_zero, List.set_cons_succ]
          refine wpAnyH_done (by kernel_rfl) ?_ _
          go_wp2_with fail
          go_meet
          case rel => exact ⟨z, p, rfl, rfl, Lib.hid hS, HBX, HNP⟩
      · skip
        -- operation 8: a step
        try rw [if_pos (by kernel_rfl)]
        refine wp_alloc_bk 32 rfl ntZ (by kernel_rfl) ?_
        intro VA z hbx hx hle
        have HAL : Hid (Bk VA z ntZ 32) := Lib.hid hbx
        have HLZ := Lib.hid (Nat.le_trans hS.size hle)
        try have HOF := Lib.hid (HGT.out.off z HLZ.out (.inr (Nat.le_trans HGT.out.top hle)))
        try replace HGT := Lib.hid (HGT.out.below hx)
        show Kr _ _
        refine hKr.out _ _ ?_ (fun _ => ?_)
        · exact since_trans hS hx
        clear hKr Kr
        replace hS : Since wA VA := since_trans hS hx
        try simp only [Act.put, List.setIfInBounds_toArray, List.set_cons_zero, List.set_cons_succ]
        refine wpAnyH_ready (rs := [3]) (by kernel_rfl) (by simp) ?_
        refine AllReadyH.cons (o := ⟨some 60, _, _, _, _, _⟩) rfl (fun Kr hKr => ?_) AllReadyH.nil
        -- operation 3: a call
        go_simp
        refine (ours_any y ⟨A2, k2, c2, B2, l2, d2, e2⟩ _).mono ?_
        rintro e V3 ⟨rfl, hx⟩
        try replace HAL := Lib.hid (HAL.out.below hx)
        show Kr _ _
        refine hKr.out _ _ ?_ (fun _ => ?_)
        · exact since_trans hS hx
        clear hKr Kr
        replace hS : Since wA V3 := since_trans hS hx
        try simp only [Act.put, List.setIfInBounds_toArray, List.set_cons_zero, List.set_cons_succ]
        refine wpAnyH_ready (rs := [4]) (by kernel_rfl) (by simp) ?_
        refine AllReadyH.cons (o := ⟨some 61, _, _, _, _, _⟩) rfl (fun Kr hKr => ?_) AllReadyH.nil
        -- operation 4: a call
        go_simp
        refine (HMG.out _ hS).mono ?_
        rintro e V4 ho
        obtain ⟨p, rfl, hgt, hx⟩ := merged hS HIA.out.N HIA.out.M ho
        have HGT := Lib.hid hgt
        try have HOF := Lib.hid (HGT.out.off z HLZ.out (.inl (Bk.lt HAL.out)))
        try replace HAL := Lib.hid (HAL.out.below hx)
        show Kr _ _
        refine hKr.out _ _ ?_ (fun _ => ?_)
        · exact since_trans hS hx
        clear hKr Kr
        replace hS : Since wA V4 := since_trans hS hx
        try simp only [Act.put, List.setIfInBounds_toArray, List.set_cons_zero, List.set_cons_succ]
        refine wpAnyH_take (i := 5) (oi := ⟨some 56, _, _, _, _, _⟩) (v := ?_) rfl (by kernel_rfl) (by kernel_rfl) (by kernel_rfl) (fun _ _ _ h => h) (Or.inl ⟨by rfl, ?_⟩) hS ?_
        rotate_left
        · intro W hW; go_simp; with_reducible rfl
        try simp only [Act.put, List.setIfInBounds_toArray, List.set_cons_zero, List.set_cons_succ]
        refine wpAnyH_take (i := 6) (oi := ⟨some 62, _, _, _, _, _⟩) (v := ?_) rfl (by kernel_rfl) (by kernel_rfl) (by kernel_rfl) (fun _ _ _ h => h) (Or.inl ⟨by rfl, ?_⟩) hS ?_
        rotate_left
        · intro W hW; go_simp; with_reducible rfl
        try simp only [Act.put, List.setIfInBounds_toArray, List.set_cons_zero, List.set_cons_succ]
        refine wpAnyH_take (i := 7) (oi := ⟨some 63, _, _, _, _, _⟩) (v := ?_) rfl (by kernel_rfl) (by kernel_rfl) (by kernel_rfl) (fun _ _ _ h => h) (Or.inl ⟨by rfl, ?_⟩) hS ?_
        rotate_left
        · intro W hW; go_simp; with_reducible rfl
        try simp only [Act.put, List.setIfInBounds_toArray, List.set_cons_zero, List.set_cons_succ]
        refine wpAnyH_ready (rs := [9]) (by kernel_rfl) (by simp) ?_
        refine AllReadyH.cons (o := ⟨none, _, _, _, _, _⟩) rfl (fun Kr hKr => ?_) AllReadyH.nil
        -- operation 9: a step
        try rw [if_pos (by kernel_rfl)]
        refine wp_store_bk 32 _ _ rfl z (ntC m p) rfl rfl 32 ntZ HAL.out (by kernel_rfl) rfl (ntC_one _ _) ?_
        intro VS hbx hg9
        have HBX : Hid (NtB VS z 32 m p) := Lib.hid ⟨hbx⟩
        have HNP := Lib.hid (HGT.out.at_.off HOF.out hg9)
        show Kr _ _
        refine hKr.out _ _ ?_ (fun _ => ?_)
        · exact Below.grown hS hg9 hS.size (fun q e => by have := HLZ.out; have e := Option.some.inj e; omega)
        clear hKr Kr
        replace hS : Since wA VS := Below.grown hS hg9 hS.size (fun q e => by have := HLZ.out; have e := Option.some.inj e; omega)
        try simp only [Act.put]
        refine wpAnyH_take (i := 10) (oi := ⟨some 17, _, _, _, _, _⟩) (v := ?_) rfl (by kernel_rfl) (by kernel_rfl) (by kernel_rfl) (fun _ _ _ h => h) (Or.inl ⟨by rfl, ?_⟩) hS ?_
        rotate_left
        · intro W hW; go_simp; with_reducible rfl
        try simp only [Act.put, List.setIfInBounds_toArray, List.set_cons_zero, List.set_cons_succ]
        refine wpAnyH_done (by kernel_rfl) ?_ _
        go_wp2_with fail
        go_meet
        case rel => exact ⟨z, p, rfl, rfl, Lib.hid hS, HBX, HNP⟩
    · skip
      -- operation 8: a step
      try rw [if_pos (by kernel_rfl)]
      refine wp_alloc_bk 32 rfl ntZ (by kernel_rfl) ?_
      intro VA z hbx hx hle
      have HAL : Hid (Bk VA z ntZ 32) := Lib.hid hbx
      have HLZ := Lib.hid (Nat.le_trans hS.size hle)
      try have HOF := Lib.hid (HGT.out.off z HLZ.out (.inr (Nat.le_trans HGT.out.top hle)))
      try replace HGT := Lib.hid (HGT.out.below hx)
      show Kr _ _
      refine hKr.out _ _ ?_ (fun _ => ?_)
      · exact since_trans hS hx
      clear hKr Kr
      replace hS : Since wA VA := since_trans hS hx
      try simp only [Act.put, List.setIfInBounds_toArray, List.set_cons_zero, List.set_cons_succ]
      refine wpAnyH_ready (rs := [1]) (by kernel_rfl) (by simp) ?_
      refine AllReadyH.cons (o := ⟨some 58, _, _, _, _, _⟩) rfl (fun Kr hKr => ?_) AllReadyH.nil
      -- operation 1: a call
      go_simp
      refine (ours_any x ⟨A1, k1, c1, B1, l1, d1, e1⟩ _).mono ?_
      rintro e V1 ⟨rfl, hx⟩
      try replace HAL := Lib.hid (HAL.out.below hx)
      show Kr _ _
      refine hKr.out _ _ ?_ (fun _ => ?_)
      · exact since_trans hS hx
      clear hKr Kr
      replace hS : Since wA V1 := since_trans hS hx
      try simp only [Act.put, List.setIfInBounds_toArray, List.set_cons_zero, List.set_cons_succ]
      refine wpAnyH_ready (rs := [3]) (by kernel_rfl) (by simp) ?_
      refine AllReadyH.cons (o := ⟨some 60, _, _, _, _, _⟩) rfl (fun Kr hKr => ?_) AllReadyH.nil
      -- operation 3: a call
      go_simp
      refine (ours_any y ⟨A2, k2, c2, B2, l2, d2, e2⟩ _).mono ?_
      rintro e V3 ⟨rfl, hx⟩
      try replace HAL := Lib.hid (HAL.out.below hx)
      show Kr _ _
      refine hKr.out _ _ ?_ (fun _ => ?_)
      · exact since_trans hS hx
      clear hKr Kr
      replace hS : Since wA V3 := since_trans hS hx
      try simp only [Act.put, List.setIfInBounds_toArray, List.set_cons_zero, List.set_cons_succ]
      refine wpAnyH_ready (rs := [4]) (by kernel_rfl) (by simp) ?_
      refine AllReadyH.cons (o := ⟨some 61, _, _, _, _, _⟩) rfl (fun Kr hKr => ?_) AllReadyH.nil
      -- operation 4: a call
      go_simp
      refine (HMG.out _ hS).mono ?_
      rintro e V4 ho
      obtain ⟨p, rfl, hgt, hx⟩ := merged hS HIA.out.N HIA.out.M ho
      have HGT := Lib.hid hgt
      try have HOF := Lib.hid (HGT.out.off z HLZ.out (.inl (Bk.lt HAL.out)))
      try replace HAL := Lib.hid (HAL.out.below hx)
      show Kr _ _
      refine hKr.out _ _ ?_ (fun _ => ?_)
      · exact since_trans hS hx
      clear hKr Kr
      replace hS : Since wA V4 := since_trans hS hx
      try simp only [Act.put, List.setIfInBounds_toArray, List.set_cons_zero, List.set_cons_succ]
      refine wpAnyH_take (i := 5) (oi := ⟨some 56, _, _, _, _, _⟩) (v := ?_) rfl (by kernel_rfl) (by kernel_rfl) (by kernel_rfl) (fun _ _ _ h => h) (Or.inl ⟨by rfl, ?_⟩) hS ?_
      rotate_left
      · intro W hW; go_simp; with_reducible rfl
      try simp only [Act.put, List.setIfInBounds_toArray, List.set_cons_zero, List.set_cons_succ]
      refine wpAnyH_take (i := 6) (oi := ⟨some 62, _, _, _, _, _⟩) (v := ?_) rfl (by kernel_rfl) (by kernel_rfl) (by kernel_rfl) (fun _ _ _ h => h) (Or.inl ⟨by rfl, ?_⟩) hS ?_
      rotate_left
      · intro W hW; go_simp; with_reducible rfl
      try simp only [Act.put, List.setIfInBounds_toArray, List.set_cons_zero, List.set_cons_succ]
      refine wpAnyH_take (i := 7) (oi := ⟨some 63, _, _, _, _, _⟩) (v := ?_) rfl (by kernel_rfl) (by kernel_rfl) (by kernel_rfl) (fun _ _ _ h => h) (Or.inl ⟨by rfl, ?_⟩) hS ?_
      rotate_left
      · intro W hW; go_simp; with_reducible rfl
      try simp only [Act.put, List.setIfInBounds_toArray, List.set_cons_zero, List.set_cons_succ]
      refine wpAnyH_ready (rs := [9]) (by kernel_rfl) (by simp) ?_
      refine AllReadyH.cons (o := ⟨none, _, _, _, _, _⟩) rfl (fun Kr hKr => ?_) AllReadyH.nil
      -- operation 9: a step
      try rw [if_pos (by kernel_rfl)]
      refine wp_store_bk 32 _ _ rfl z (ntC m p) rfl rfl 32 ntZ HAL.out (by kernel_rfl) rfl (ntC_one _ _) ?_
      intro VS hbx hg9
      have HBX : Hid (NtB VS z 32 m p) := Lib.hid ⟨hbx⟩
      have HNP := Lib.hid (HGT.out.at_.off HOF.out hg9)
      show Kr _ _
      refine hKr.out _ _ ?_ (fun _ => ?_)
      · exact Below.grown hS hg9 hS.size (fun q e => by have := HLZ.out; have e := Option.some.inj e; omega)
      clear hKr Kr
      replace hS : Since wA VS := Below.grown hS hg9 hS.size (fun q e => by have := HLZ.out; have e := Option.some.inj e; omega)
      try simp only [Act.put]
      refine wpAnyH_take (i := 10) (oi := ⟨some 17, _, _, _, _, _⟩) (v := ?_) rfl (by kernel_rfl) (by kernel_rfl) (by kernel_rfl) (fun _ _ _ h => h) (Or.inl ⟨by rfl, ?_⟩) hS ?_
      rotate_left
      · intro W hW; go_simp; with_reducible rfl
      try simp only [Act.put, List.setIfInBounds_toArray, List.set_cons_zero, List.set_cons_succ]
      refine wpAnyH_done (by kernel_rfl) ?_ _
      go_wp2_with fail
      go_meet
      case rel => exact ⟨z, p, rfl, rfl, Lib.hid hS, HBX, HNP⟩
  case rest =>
    obtain ⟨ga, ⟨aA, an, ac, aB, am, ad, az⟩, rfl, rfl, HWB, HAB, HAT⟩ := hcut
    clear x0 x1 x2 x3 y0 y1 y2 y3 HMG
    have HIB := Lib.hid (HIA.out.up HWB.out)
    have HCB := Lib.hid (HCA.out.up HWB.out)
    have HFB := Lib.hid (HFA.out.up HWB.out)
    have HUB := Lib.hid (HUA.out.below HWB.out)
    have HUBB := Lib.hid (HUBA.out.below HWB.out)
    have HVB2 := Lib.hid (HVA.out.below HWB.out)
    have HVBB := Lib.hid (HVB.out.below HWB.out)
    clear HWB HIA HCA HFA HUA HUBA HVA HVB
    obtain ⟨wB, hwB⟩ : ∃ q, q = wc := ⟨_, rfl⟩
    subst hwB
    -- the document
    have x0 := HIB.out.X.c0
    have x1 := HIB.out.X.c1
    have x2 := HIB.out.X.c2
    have x3 := HIB.out.X.c3
    have y0 := HIB.out.Y.c0
    have y1 := HIB.out.Y.c1
    have y2 := HIB.out.Y.c2
    have y3 := HIB.out.Y.c3
    simp only at x2 x3 y2 y3
    go_wp2_with fail
    refine (merge_any x y ⟨A1, k1, c1, B1, l1, d1, e1⟩ ⟨A2, k2, c2, B2, l2, d2, e2⟩ wB HIB.out.N HIB.out.M HSX.out HSY.out).mono ?_
    rw [← HME.out, ← HEE.out]
    rintro e wC ⟨⟨bA, bn, bc, bB, bm, bd, bs⟩, rfl, hat, hbC, _⟩
    have HIC := Lib.hid (HIB.out.up hbC)
    have HCC := Lib.hid (HCB.out.up hbC)
    have HFC := Lib.hid (HFB.out.up hbC)
    have HUC := Lib.hid (HUB.out.below hbC)
    have HUBC := Lib.hid (HUBB.out.below hbC)
    have HVC := Lib.hid (HVB2.out.below hbC)
    have HVBC := Lib.hid (HVBB.out.below hbC)
    have HAC := Lib.hid (HAT.out.below hbC)
    have HABC := Lib.hid (HAB.out.below hbC)
    have HZC := Lib.hid hat
    clear hat hbC HIB HCB HFB HUB HUBB HVB2 HVBB HAT HAB x0 x1 x2 x3 y0 y1 y2 y3
    unfold ntV
    obtain ⟨G, hG⟩ : ∃ G, G = ntC m ⟨bA, bn, bc, bB, bm, bd, bs⟩ := ⟨_, rfl⟩
    have HZB : Hid (NtB (wC.alloc (.cells G 25)) wC.heap.size 25 m ⟨bA, bn, bc, bB, bm, bd, bs⟩) := Lib.hid (by rw [hG]; exact NtB.new _ _ _ _)
    have HBN := Lib.hid (below_new wC (.cells G 25))
    unfold ntC at hG ⊢
    go_upto_region 10 with fail
    rw [← hG]
    clear hG
    have HID := Lib.hid (HIC.out.up HBN.out)
    have HCD := Lib.hid (HCC.out.up HBN.out)
    have HFD := Lib.hid (HFC.out.up HBN.out)
    have HUD := Lib.hid (HUC.out.below HBN.out)
    have HUBD := Lib.hid (HUBC.out.below HBN.out)
    have HVD := Lib.hid (HVC.out.below HBN.out)
    have HVBD := Lib.hid (HVBC.out.below HBN.out)
    have HAD := Lib.hid (HAC.out.below HBN.out)
    have HABD := Lib.hid (HABC.out.below HBN.out)
    have HZD := Lib.hid (HZC.out.below HBN.out)
    clear HBN HIC HCC HFC HUC HUBC HVC HVBC HAC HABC HZC
    generalize wC.alloc (.cells G 25) = wD at *
    generalize wC.heap.size = gz at *
    -- all of it together
    have x0 : ∀ V, Since wD V → V.cell? ⟨g1, 0, none⟩ = some (.int .i64 x.kind) := fun V hV => (HID.out.X.below hV).c0
    have x1 : ∀ V, Since wD V → V.cell? ⟨g1, 1, none⟩ = some (.int .i64 x.seq) := fun V hV => (HID.out.X.below hV).c1
    have x2 : ∀ V, Since wD V → V.cell? ⟨g1, 2, none⟩ = some (.slice A1 k1 c1) := fun V hV => (HID.out.X.below hV).c2
    have x3 : ∀ V, Since wD V → V.cell? ⟨g1, 3, none⟩ = some (.slice B1 l1 d1) := fun V hV => (HID.out.X.below hV).c3
    have u0 : ∀ V, Since wD V → V.cell? ⟨gu, 0, none⟩ = some (.int .i64 D.kind) := fun V hV => (HUBD.out.below hV).c0
    have u1 : ∀ V, Since wD V → V.cell? ⟨gu, 1, none⟩ = some (.int .i64 D.seq) := fun V hV => (HUBD.out.below hV).c1
    have u2 : ∀ V, Since wD V → V.cell? ⟨gu, 2, none⟩ = some (.slice uA un uc) := fun V hV => (HUBD.out.below hV).c2
    have u3 : ∀ V, Since wD V → V.cell? ⟨gu, 3, none⟩ = some (.slice uB um ud) := fun V hV => (HUBD.out.below hV).c3
    have v0 : ∀ V, Since wD V → V.cell? ⟨gv, 0, none⟩ = some (.int .i64 D.kind) := fun V hV => (HVBD.out.below hV).c0
    have v1 : ∀ V, Since wD V → V.cell? ⟨gv, 1, none⟩ = some (.int .i64 D.seq) := fun V hV => (HVBD.out.below hV).c1
    have v2 : ∀ V, Since wD V → V.cell? ⟨gv, 2, none⟩ = some (.slice vA vn vc) := fun V hV => (HVBD.out.below hV).c2
    have v3 : ∀ V, Since wD V → V.cell? ⟨gv, 3, none⟩ = some (.slice vB vm vd) := fun V hV => (HVBD.out.below hV).c3
    have a0 : ∀ V, Since wD V → V.cell? ⟨ga, 0, none⟩ = some (.int .i64 m.kind) := fun V hV => (HABD.out.below hV).c0
    have a1 : ∀ V, Since wD V → V.cell? ⟨ga, 1, none⟩ = some (.int .i64 m.seq) := fun V hV => (HABD.out.below hV).c1
    have a2 : ∀ V, Since wD V → V.cell? ⟨ga, 2, none⟩ = some (.slice aA an ac) := fun V hV => (HABD.out.below hV).c2
    have a3 : ∀ V, Since wD V → V.cell? ⟨ga, 3, none⟩ = some (.slice aB am ad) := fun V hV => (HABD.out.below hV).c3
    have z0 : ∀ V, Since wD V → V.cell? ⟨gz, 0, none⟩ = some (.int .i64 m.kind) := fun V hV => (HZB.out.below hV).c0
    have z1 : ∀ V, Since wD V → V.cell? ⟨gz, 1, none⟩ = some (.int .i64 m.seq) := fun V hV => (HZB.out.below hV).c1
    have z2 : ∀ V, Since wD V → V.cell? ⟨gz, 2, none⟩ = some (.slice bA bn bc) := fun V hV => (HZB.out.below hV).c2
    have z3 : ∀ V, Since wD V → V.cell? ⟨gz, 3, none⟩ = some (.slice bB bm bd) := fun V hV => (HZB.out.below hV).c3
    obtain ⟨sx, hsx⟩ : ∃ sx, sx = sane x := ⟨_, rfl⟩
    obtain ⟨nx, hnx⟩ : ∃ nx : Int, nx = ((encB x).length : Int) := ⟨_, rfl⟩
    have HSA : Hid (∀ V, Since wD V → Calls Try.prog 18 #[ntV x ⟨A1, k1, c1, B1, l1, d1, e1⟩] V fun e w' => e = .returned (.bool sx) ∧ Below V.heap.size V w') := Lib.hid (fun V hV => by rw [hsx]; exact HW.out.sane x _ V (HID.out.up hV).N HSX.out)
    have HSB : Hid (∀ V, Since wD V → Calls Try.prog 19 #[ntV x ⟨A1, k1, c1, B1, l1, d1, e1⟩] V fun e w' => e = .returned (.bool sx) ∧ Below V.heap.size V w') := Lib.hid (fun V hV => by rw [hsx]; exact sane_any x _ V (HID.out.up hV).N HSX.out)
    have HZA : Hid (∀ V, Since wD V → Calls Try.prog 20 #[ntV x ⟨A1, k1, c1, B1, l1, d1, e1⟩] V fun e w' => e = .returned (.int .i64 nx) ∧ Below V.heap.size V w') := Lib.hid (fun V hV => by rw [hnx]; exact HW.out.size x _ V (HID.out.up hV).N HSX.out)
    have HZB2 : Hid (∀ V, Since wD V → Calls Try.prog 21 #[ntV x ⟨A1, k1, c1, B1, l1, d1, e1⟩] V fun e w' => e = .returned (.int .i64 nx) ∧ Below V.heap.size V w') := Lib.hid (fun V hV => by rw [hnx]; exact size_any x _ V (HID.out.up hV).N HSX.out)
    have HDD : Hid (∀ V, Since wD V → Calls Try.prog 22 #[ntV D ⟨uA, un, uc, uB, um, ud, us⟩, ntV D ⟨vA, vn, vc, vB, vm, vd, vs⟩] V fun e w' => e = .returned (.bool true) ∧ Below V.heap.size V w') := Lib.hid (fun V hV => by
      have h := same_any D D ⟨uA, un, uc, uB, um, ud, us⟩ ⟨vA, vn, vc, vB, vm, vd, vs⟩ V (HUD.out.below hV) (HVD.out.below hV) (by rw [HD.out]; exact decN_len l)
      rw [sameB_self] at h
      exact h)
    have HMM : Hid (∀ V, Since wD V → Calls Try.prog 22 #[ntV m ⟨aA, an, ac, aB, am, ad, az⟩, ntV m ⟨bA, bn, bc, bB, bm, bd, bs⟩] V fun e w' => e = .returned (.bool true) ∧ Below V.heap.size V w') := Lib.hid (fun V hV => by
      have h := same_any m m ⟨aA, an, ac, aB, am, ad, az⟩ ⟨bA, bn, bc, bB, bm, bd, bs⟩ V (HAD.out.below hV) (HZD.out.below hV) (by rw [HME.out]; exact merN_len x y)
      rw [sameB_self] at h
      exact h)
    clear hsx hnx
    have K1 := fun (V : World) (hV : Since wD V) => (HCD.out.up hV).conv
    have K2 := fun (V : World) (hV : Since wD V) => (HFD.out.up hV).conv
    have h1 : (le == le) = true := beq_self_eq_true le
    have h2 : (sx == sx) = true := beq_self_eq_true sx
    have h3 : (E1 == E1) = true := beq_self_eq_true E1
    have h4 : (nx == nx) = true := beq_self_eq_true nx
    have h5 : (ED == ED) = true := beq_self_eq_true ED
    have h6 : (E == E) = true := beq_self_eq_true E
    refine wp_region_since (by kernel_rfl) ?_
    have hS : Since wD (World.drew wD) := (Below.refl _ _).drew
    refine wpAnyH_take (i := 0) (oi := ⟨some 70, _, _, _, _, _⟩) (v := ?_) rfl (by kernel_rfl) (by kernel_rfl) (by kernel_rfl) (fun _ _ _ h => h) (Or.inl ⟨by rfl, ?_⟩) hS ?_
    rotate_left
    · intro W hW; go_simp; with_reducible rfl
    try simp only [Act.put, List.setIfInBounds_toArray, List.set_cons_zero, List.set_cons_succ]
    refine wpAnyH_take (i := 1) (oi := ⟨some 71, _, _, _, _, _⟩) (v := ?_) rfl (by kernel_rfl) (by kernel_rfl) (by kernel_rfl) (fun _ _ _ h => h) (Or.inl ⟨by rfl, ?_⟩) hS ?_
    rotate_left
    · intro W hW; go_simp; with_reducible rfl
    try simp only [Act.put, List.setIfInBounds_toArray, List.set_cons_zero, List.set_cons_succ]
    refine wpAnyH_take (i := 2) (oi := ⟨some 72, _, _, _, _, _⟩) (v := ?_) rfl (by kernel_rfl) (by kernel_rfl) (by kernel_rfl) (fun _ _ _ h => h) (Or.inl ⟨by rfl, ?_⟩) hS ?_
    rotate_left
    · intro W hW; go_simp; with_reducible rfl
    try simp only [Act.put, List.setIfInBounds_toArray, List.set_cons_zero, List.set_cons_succ]
    refine wpAnyH_take (i := 5) (oi := ⟨some 75, _, _, _, _, _⟩) (v := ?_) rfl (by kernel_rfl) (by kernel_rfl) (by kernel_rfl) (fun _ _ _ h => h) (Or.inl ⟨by rfl, ?_⟩) hS ?_
    rotate_left
    · intro W hW; go_simp; with_reducible rfl
    try simp only [Act.put, List.setIfInBounds_toArray, List.set_cons_zero, List.set_cons_succ]
    refine wpAnyH_ready (rs := [3]) (by kernel_rfl) (by simp) ?_
    refine AllReadyH.cons (o := ⟨some 73, _, _, _, _, _⟩) rfl (fun Kr hKr => ?_) AllReadyH.nil
    -- operation 3: a call
    go_simp
    refine (ours_any x ⟨A1, k1, c1, B1, l1, d1, e1⟩ _).mono ?_
    rintro e V1 ⟨rfl, hx⟩
    show Kr _ _
    refine hKr.out _ _ ?_ (fun _ => ?_)
    · exact since_trans hS hx
    clear hKr Kr
    replace hS : Since wD V1 := since_trans hS hx
    try simp only [Act.put, List.setIfInBounds_toArray, List.set_cons_zero, List.set_cons_succ]
    refine wpAnyH_ready (rs := [4]) (by kernel_rfl) (by simp) ?_
    refine AllReadyH.cons (o := ⟨some 74, _, _, _, _, _⟩) rfl (fun Kr hKr => ?_) AllReadyH.nil
    -- operation 4: a call
    go_simp
    refine (HSA.out _ hS).mono ?_
    rintro e V2 ⟨rfl, hx⟩
    show Kr _ _
    refine hKr.out _ _ ?_ (fun _ => ?_)
    · exact since_trans hS hx
    clear hKr Kr
    replace hS : Since wD V2 := since_trans hS hx
    try simp only [Act.put, List.setIfInBounds_toArray, List.set_cons_zero, List.set_cons_succ]
    refine wpAnyH_ready (rs := [6]) (by kernel_rfl) (by simp) ?_
    refine AllReadyH.cons (o := ⟨some 76, _, _, _, _, _⟩) rfl (fun Kr hKr => ?_) AllReadyH.nil
    -- operation 6: a call
    go_simp
    refine (HSB.out _ hS).mono ?_
    rintro e V3 ⟨rfl, hx⟩
    show Kr _ _
    refine hKr.out _ _ ?_ (fun _ => ?_)
    · exact since_trans hS hx
    clear hKr Kr
    replace hS : Since wD V3 := since_trans hS hx
    try simp only [Act.put, List.setIfInBounds_toArray, List.set_cons_zero, List.set_cons_succ]
    refine wpAnyH_take (i := 7) (oi := ⟨some 77, _, _, _, _, _⟩) (v := ?_) rfl (by kernel_rfl) (by kernel_rfl) (by kernel_rfl) (fun _ _ _ h => h) (Or.inl ⟨by rfl, ?_⟩) hS ?_
    rotate_left
    · intro W hW; go_simp; with_reducible rfl
    try simp only [Act.put, List.setIfInBounds_toArray, List.set_cons_zero, List.set_cons_succ]
    refine wpAnyH_take (i := 8) (oi := ⟨some 78, _, _, _, _, _⟩) (v := ?_) rfl (by kernel_rfl) (by kernel_rfl) (by kernel_rfl) (fun _ _ _ h => h) (Or.inl ⟨by rfl, ?_⟩) hS ?_
    rotate_left
    · intro W hW; go_simp; with_reducible rfl
    try simp only [Act.put, List.setIfInBounds_toArray, List.set_cons_zero, List.set_cons_succ]
    refine wpAnyH_take (i := 9) (oi := ⟨some 79, _, _, _, _, _⟩) (v := ?_) rfl (by kernel_rfl) (by kernel_rfl) (by kernel_rfl) (fun _ _ _ h => h) (Or.inl ⟨by rfl, ?_⟩) hS ?_
    rotate_left
    · intro W hW; go_simp; with_reducible rfl
    try simp only [Act.put, List.setIfInBounds_toArray, List.set_cons_zero, List.set_cons_succ]
    refine wpAnyH_take (i := 10) (oi := ⟨some 80, _, _, _, _, _⟩) (v := ?_) rfl (by kernel_rfl) (by kernel_rfl) (by kernel_rfl) (fun _ _ _ h => h) (Or.inl ⟨by rfl, ?_⟩) hS ?_
    rotate_left
    · intro W hW; go_simp; with_reducible rfl
    try simp only [Act.put, List.setIfInBounds_toArray, List.set_cons_zero, List.set_cons_succ]
    refine wpAnyH_take (i := 11) (oi := ⟨some 81, _, _, _, _, _⟩) (v := ?_) rfl (by kernel_rfl) (by kernel_rfl) (by kernel_rfl) (fun _ _ _ h => h) (Or.inl ⟨by rfl, ?_⟩) hS ?_
    rotate_left
    · intro W hW
      have h := K1 W hW
      go_simp; with_reducible rfl
    try simp only [Act.put, List.setIfInBounds_toArray, List.set_cons_zero, List.set_cons_succ]
    refine wpAnyH_take (i := 12) (oi := ⟨some 82, _, _, _, _, _⟩) (v := ?_) rfl (by kernel_rfl) (by kernel_rfl) (by kernel_rfl) (fun _ _ _ h => h) (Or.inl ⟨by rfl, ?_⟩) hS ?_
    rotate_left
    · intro W hW; go_simp; with_reducible rfl
    try simp only [Act.put, List.setIfInBounds_toArray, List.set_cons_zero, List.set_cons_succ]
    refine wpAnyH_take (i := 13) (oi := ⟨some 83, _, _, _, _, _⟩) (v := ?_) rfl (by kernel_rfl) (by kernel_rfl) (by kernel_rfl) (fun _ _ _ h => h) (Or.inl ⟨by rfl, ?_⟩) hS ?_
    rotate_left
    · intro W hW
      have h := K2 W hW
      go_simp; with_reducible rfl
    try simp only [Act.put, List.setIfInBounds_toArray, List.set_cons_zero, List.set_cons_succ]
    refine wpAnyH_take (i := 14) (oi := ⟨some 84, _, _, _, _, _⟩) (v := ?_) rfl (by kernel_rfl) (by kernel_rfl) (by kernel_rfl) (fun _ _ _ h => h) (Or.inl ⟨by rfl, ?_⟩) hS ?_
    rotate_left
    · intro W hW; go_simp; with_reducible rfl
    try simp only [Act.put, List.setIfInBounds_toArray, List.set_cons_zero, List.set_cons_succ]
    refine wpAnyH_take (i := 15) (oi := ⟨some 85, _, _, _, _, _⟩) (v := ?_) rfl (by kernel_rfl) (by kernel_rfl) (by kernel_rfl) (fun _ _ _ h => h) (Or.inl ⟨by rfl, ?_⟩) hS ?_
    rotate_left
    · intro W hW; go_simp; with_reducible rfl
    try simp only [Act.put, List.setIfInBounds_toArray, List.set_cons_zero, List.set_cons_succ]
    refine wpAnyH_take (i := 16) (oi := ⟨some 86, _, _, _, _, _⟩) (v := ?_) rfl (by kernel_rfl) (by kernel_rfl) (by kernel_rfl) (fun _ _ _ h => h) (Or.inl ⟨by rfl, ?_⟩) hS ?_
    rotate_left
    · intro W hW; go_simp; with_reducible rfl
    try simp only [Act.put, List.setIfInBounds_toArray, List.set_cons_zero, List.set_cons_succ]
    refine wpAnyH_take (i := 17) (oi := ⟨some 87, _, _, _, _, _⟩) (v := ?_) rfl (by kernel_rfl) (by kernel_rfl) (by kernel_rfl) (fun _ _ _ h => h) (Or.inl ⟨by rfl, ?_⟩) hS ?_
    rotate_left
    · intro W hW; go_simp; with_reducible rfl
    try simp only [Act.put, List.setIfInBounds_toArray, List.set_cons_zero, List.set_cons_succ]
    refine wpAnyH_take (i := 18) (oi := ⟨some 88, _, _, _, _, _⟩) (v := ?_) rfl (by kernel_rfl) (by kernel_rfl) (by kernel_rfl) (fun _ _ _ h => h) (Or.inl ⟨by rfl, ?_⟩) hS ?_
    rotate_left
    · intro W hW; go_simp; with_reducible rfl
    try simp only [Act.put, List.setIfInBounds_toArray, List.set_cons_zero, List.set_cons_succ]
    refine wpAnyH_take (i := 19) (oi := ⟨some 89, _, _, _, _, _⟩) (v := ?_) rfl (by kernel_rfl) (by kernel_rfl) (by kernel_rfl) (fun _ _ _ h => h) (Or.inl ⟨by rfl, ?_⟩) hS ?_
    rotate_left
    · intro W hW; go_simp; with_reducible rfl
    try simp only [Act.put, List.setIfInBounds_toArray, List.set_cons_zero, List.set_cons_succ]
    refine wpAnyH_take (i := 20) (oi := ⟨some 90, _, _, _, _, _⟩) (v := ?_) rfl (by kernel_rfl) (by kernel_rfl) (by kernel_rfl) (fun _ _ _ h => h) (Or.inl ⟨by rfl, ?_⟩) hS ?_
    rotate_left
    · intro W hW; go_simp; with_reducible rfl
    try simp only [Act.put, List.setIfInBounds_toArray, List.set_cons_zero, List.set_cons_succ]
    refine wpAnyH_take (i := 21) (oi := ⟨some 91, _, _, _, _, _⟩) (v := ?_) rfl (by kernel_rfl) (by kernel_rfl) (by kernel_rfl) (fun _ _ _ h => h) (Or.inl ⟨by rfl, ?_⟩) hS ?_
    rotate_left
    · intro W hW; go_simp; with_reducible rfl
    try simp only [Act.put, List.setIfInBounds_toArray, List.set_cons_zero, List.set_cons_succ]
    refine wpAnyH_take (i := 22) (oi := ⟨some 92, _, _, _, _, _⟩) (v := ?_) rfl (by kernel_rfl) (by kernel_rfl) (by kernel_rfl) (fun _ _ _ h => h) (Or.inl ⟨by rfl, ?_⟩) hS ?_
    rotate_left
    · intro W hW; go_simp; with_reducible rfl
    try simp only [Act.put, List.setIfInBounds_toArray, List.set_cons_zero, List.set_cons_succ]
    refine wpAnyH_take (i := 25) (oi := ⟨some 95, _, _, _, _, _⟩) (v := ?_) rfl (by kernel_rfl) (by kernel_rfl) (by kernel_rfl) (fun _ _ _ h => h) (Or.inl ⟨by rfl, ?_⟩) hS ?_
    rotate_left
    · intro W hW; go_simp; with_reducible rfl
    try simp only [Act.put, List.setIfInBounds_toArray, List.set_cons_zero, List.set_cons_succ]
    refine wpAnyH_ready (rs := [23]) (by kernel_rfl) (by simp) ?_
    refine AllReadyH.cons (o := ⟨some 93, _, _, _, _, _⟩) rfl (fun Kr hKr => ?_) AllReadyH.nil
    -- operation 23: a call
    go_simp
    refine (ours_any x ⟨A1, k1, c1, B1, l1, d1, e1⟩ _).mono ?_
    rintro e V4 ⟨rfl, hx⟩
    show Kr _ _
    refine hKr.out _ _ ?_ (fun _ => ?_)
    · exact since_trans hS hx
    clear hKr Kr
    replace hS : Since wD V4 := since_trans hS hx
    try simp only [Act.put, List.setIfInBounds_toArray, List.set_cons_zero, List.set_cons_succ]
    refine wpAnyH_ready (rs := [24]) (by kernel_rfl) (by simp) ?_
    refine AllReadyH.cons (o := ⟨some 94, _, _, _, _, _⟩) rfl (fun Kr hKr => ?_) AllReadyH.nil
    -- operation 24: a call
    go_simp
    refine (HZA.out _ hS).mono ?_
    rintro e V5 ⟨rfl, hx⟩
    show Kr _ _
    refine hKr.out _ _ ?_ (fun _ => ?_)
    · exact since_trans hS hx
    clear hKr Kr
    replace hS : Since wD V5 := since_trans hS hx
    try simp only [Act.put, List.setIfInBounds_toArray, List.set_cons_zero, List.set_cons_succ]
    refine wpAnyH_ready (rs := [26]) (by kernel_rfl) (by simp) ?_
    refine AllReadyH.cons (o := ⟨some 96, _, _, _, _, _⟩) rfl (fun Kr hKr => ?_) AllReadyH.nil
    -- operation 26: a call
    go_simp
    refine (HZB2.out _ hS).mono ?_
    rintro e V6 ⟨rfl, hx⟩
    show Kr _ _
    refine hKr.out _ _ ?_ (fun _ => ?_)
    · exact since_trans hS hx
    clear hKr Kr
    replace hS : Since wD V6 := since_trans hS hx
    try simp only [Act.put, List.setIfInBounds_toArray, List.set_cons_zero, List.set_cons_succ]
    refine wpAnyH_take (i := 27) (oi := ⟨some 97, _, _, _, _, _⟩) (v := ?_) rfl (by kernel_rfl) (by kernel_rfl) (by kernel_rfl) (fun _ _ _ h => h) (Or.inl ⟨by rfl, ?_⟩) hS ?_
    rotate_left
    · intro W hW; go_simp; with_reducible rfl
    try simp only [Act.put, List.setIfInBounds_toArray, List.set_cons_zero, List.set_cons_succ]
    refine wpAnyH_take (i := 28) (oi := ⟨some 98, _, _, _, _, _⟩) (v := ?_) rfl (by kernel_rfl) (by kernel_rfl) (by kernel_rfl) (fun _ _ _ h => h) (Or.inl ⟨by rfl, ?_⟩) hS ?_
    rotate_left
    · intro W hW; go_simp; with_reducible rfl
    try simp only [Act.put, List.setIfInBounds_toArray, List.set_cons_zero, List.set_cons_succ]
    refine wpAnyH_take (i := 29) (oi := ⟨some 99, _, _, _, _, _⟩) (v := ?_) rfl (by kernel_rfl) (by kernel_rfl) (by kernel_rfl) (fun _ _ _ h => h) (Or.inl ⟨by rfl, ?_⟩) hS ?_
    rotate_left
    · intro W hW; go_simp; with_reducible rfl
    try simp only [Act.put, List.setIfInBounds_toArray, List.set_cons_zero, List.set_cons_succ]
    refine wpAnyH_take (i := 30) (oi := ⟨some 100, _, _, _, _, _⟩) (v := ?_) rfl (by kernel_rfl) (by kernel_rfl) (by kernel_rfl) (fun _ _ _ h => h) (Or.inl ⟨by rfl, ?_⟩) hS ?_
    rotate_left
    · intro W hW; go_simp; with_reducible rfl
    try simp only [Act.put, List.setIfInBounds_toArray, List.set_cons_zero, List.set_cons_succ]
    refine wpAnyH_take (i := 32) (oi := ⟨some 102, _, _, _, _, _⟩) (v := ?_) rfl (by kernel_rfl) (by kernel_rfl) (by kernel_rfl) (fun _ _ _ h => h) (Or.inl ⟨by rfl, ?_⟩) hS ?_
    rotate_left
    · intro W hW; go_simp; with_reducible rfl
    try simp only [Act.put, List.setIfInBounds_toArray, List.set_cons_zero, List.set_cons_succ]
    refine wpAnyH_ready (rs := [31]) (by kernel_rfl) (by simp) ?_
    refine AllReadyH.cons (o := ⟨some 101, _, _, _, _, _⟩) rfl (fun Kr hKr => ?_) AllReadyH.nil
    -- operation 31: a call
    go_simp
    refine (theirs_any D ⟨uA, un, uc, uB, um, ud, us⟩ _).mono ?_
    rintro e V7 ⟨rfl, hx⟩
    show Kr _ _
    refine hKr.out _ _ ?_ (fun _ => ?_)
    · exact since_trans hS hx
    clear hKr Kr
    replace hS : Since wD V7 := since_trans hS hx
    try simp only [Act.put, List.setIfInBounds_toArray, List.set_cons_zero, List.set_cons_succ]
    refine wpAnyH_ready (rs := [33]) (by kernel_rfl) (by simp) ?_
    refine AllReadyH.cons (o := ⟨some 103, _, _, _, _, _⟩) rfl (fun Kr hKr => ?_) AllReadyH.nil
    -- operation 33: a call
    go_simp
    refine (HDD.out _ hS).mono ?_
    rintro e V8 ⟨rfl, hx⟩
    show Kr _ _
    refine hKr.out _ _ ?_ (fun _ => ?_)
    · exact since_trans hS hx
    clear hKr Kr
    replace hS : Since wD V8 := since_trans hS hx
    try simp only [Act.put, List.setIfInBounds_toArray, List.set_cons_zero, List.set_cons_succ]
    refine wpAnyH_take (i := 34) (oi := ⟨some 104, _, _, _, _, _⟩) (v := ?_) rfl (by kernel_rfl) (by kernel_rfl) (by kernel_rfl) (fun _ _ _ h => h) (Or.inl ⟨by rfl, ?_⟩) hS ?_
    rotate_left
    · intro W hW; go_simp; with_reducible rfl
    try simp only [Act.put, List.setIfInBounds_toArray, List.set_cons_zero, List.set_cons_succ]
    refine wpAnyH_take (i := 35) (oi := ⟨some 105, _, _, _, _, _⟩) (v := ?_) rfl (by kernel_rfl) (by kernel_rfl) (by kernel_rfl) (fun _ _ _ h => h) (Or.inl ⟨by rfl, ?_⟩) hS ?_
    rotate_left
    · intro W hW; go_simp; with_reducible rfl
    try simp only [Act.put, List.setIfInBounds_toArray, List.set_cons_zero, List.set_cons_succ]
    refine wpAnyH_take (i := 36) (oi := ⟨some 106, _, _, _, _, _⟩) (v := ?_) rfl (by kernel_rfl) (by kernel_rfl) (by kernel_rfl) (fun _ _ _ h => h) (Or.inl ⟨by rfl, ?_⟩) hS ?_
    rotate_left
    · intro W hW; go_simp; with_reducible rfl
    try simp only [Act.put, List.setIfInBounds_toArray, List.set_cons_zero, List.set_cons_succ]
    refine wpAnyH_take (i := 37) (oi := ⟨some 107, _, _, _, _, _⟩) (v := ?_) rfl (by kernel_rfl) (by kernel_rfl) (by kernel_rfl) (fun _ _ _ h => h) (Or.inl ⟨by rfl, ?_⟩) hS ?_
    rotate_left
    · intro W hW; go_simp; with_reducible rfl
    try simp only [Act.put, List.setIfInBounds_toArray, List.set_cons_zero, List.set_cons_succ]
    refine wpAnyH_take (i := 38) (oi := ⟨some 108, _, _, _, _, _⟩) (v := ?_) rfl (by kernel_rfl) (by kernel_rfl) (by kernel_rfl) (fun _ _ _ h => h) (Or.inl ⟨by rfl, ?_⟩) hS ?_
    rotate_left
    · intro W hW; go_simp; with_reducible rfl
    try simp only [Act.put, List.setIfInBounds_toArray, List.set_cons_zero, List.set_cons_succ]
    refine wpAnyH_take (i := 39) (oi := ⟨some 109, _, _, _, _, _⟩) (v := ?_) rfl (by kernel_rfl) (by kernel_rfl) (by kernel_rfl) (fun _ _ _ h => h) (Or.inl ⟨by rfl, ?_⟩) hS ?_
    rotate_left
    · intro W hW; go_simp; with_reducible rfl
    try simp only [Act.put, List.setIfInBounds_toArray, List.set_cons_zero, List.set_cons_succ]
    refine wpAnyH_take (i := 40) (oi := ⟨some 110, _, _, _, _, _⟩) (v := ?_) rfl (by kernel_rfl) (by kernel_rfl) (by kernel_rfl) (fun _ _ _ h => h) (Or.inl ⟨by rfl, ?_⟩) hS ?_
    rotate_left
    · intro W hW; go_simp; with_reducible rfl
    try simp only [Act.put, List.setIfInBounds_toArray, List.set_cons_zero, List.set_cons_succ]
    refine wpAnyH_take (i := 41) (oi := ⟨some 111, _, _, _, _, _⟩) (v := ?_) rfl (by kernel_rfl) (by kernel_rfl) (by kernel_rfl) (fun _ _ _ h => h) (Or.inl ⟨by rfl, ?_⟩) hS ?_
    rotate_left
    · intro W hW; go_simp; with_reducible rfl
    try simp only [Act.put, List.setIfInBounds_toArray, List.set_cons_zero, List.set_cons_succ]
    refine wpAnyH_take (i := 43) (oi := ⟨some 113, _, _, _, _, _⟩) (v := ?_) rfl (by kernel_rfl) (by kernel_rfl) (by kernel_rfl) (fun _ _ _ h => h) (Or.inl ⟨by rfl, ?_⟩) hS ?_
    rotate_left
    · intro W hW; go_simp; with_reducible rfl
    try simp only [Act.put, List.setIfInBounds_toArray, List.set_cons_zero, List.set_cons_succ]
    refine wpAnyH_ready (rs := [42]) (by kernel_rfl) (by simp) ?_
    refine AllReadyH.cons (o := ⟨some 112, _, _, _, _, _⟩) rfl (fun Kr hKr => ?_) AllReadyH.nil
    -- operation 42: a call
    go_simp
    refine (theirs_any m ⟨aA, an, ac, aB, am, ad, az⟩ _).mono ?_
    rintro e V9 ⟨rfl, hx⟩
    show Kr _ _
    refine hKr.out _ _ ?_ (fun _ => ?_)
    · exact since_trans hS hx
    clear hKr Kr
    replace hS : Since wD V9 := since_trans hS hx
    try simp only [Act.put, List.setIfInBounds_toArray, List.set_cons_zero, List.set_cons_succ]
    refine wpAnyH_ready (rs := [44]) (by kernel_rfl) (by simp) ?_
    refine AllReadyH.cons (o := ⟨some 114, _, _, _, _, _⟩) rfl (fun Kr hKr => ?_) AllReadyH.nil
    -- operation 44: a call
    go_simp
    refine (HMM.out _ hS).mono ?_
    rintro e V10 ⟨rfl, hx⟩
    show Kr _ _
    refine hKr.out _ _ ?_ (fun _ => ?_)
    · exact since_trans hS hx
    clear hKr Kr
    replace hS : Since wD V10 := since_trans hS hx
    try simp only [Act.put, List.setIfInBounds_toArray, List.set_cons_zero, List.set_cons_succ]
    refine wpAnyH_take (i := 45) (oi := ⟨some 115, _, _, _, _, _⟩) (v := ?_) rfl (by kernel_rfl) (by kernel_rfl) (by kernel_rfl) (fun _ _ _ h => h) (Or.inl ⟨by rfl, ?_⟩) hS ?_
    rotate_left
    · intro W hW; go_simp; with_reducible rfl
    try simp only [Act.put, List.setIfInBounds_toArray, List.set_cons_zero, List.set_cons_succ]
    refine wpAnyH_take (i := 46) (oi := ⟨some 116, _, _, _, _, _⟩) (v := ?_) rfl (by kernel_rfl) (by kernel_rfl) (by kernel_rfl) (fun _ _ _ h => h) (Or.inl ⟨by rfl, ?_⟩) hS ?_
    rotate_left
    · intro W hW; go_simp; with_reducible rfl
    try simp only [Act.put, List.setIfInBounds_toArray, List.set_cons_zero, List.set_cons_succ]
    refine wpAnyH_take (i := 47) (oi := ⟨some 117, _, _, _, _, _⟩) (v := ?_) rfl (by kernel_rfl) (by kernel_rfl) (by kernel_rfl) (fun _ _ _ h => h) (Or.inl ⟨by rfl, ?_⟩) hS ?_
    rotate_left
    · intro W hW; go_simp; with_reducible rfl
    try simp only [Act.put, List.setIfInBounds_toArray, List.set_cons_zero, List.set_cons_succ]
    refine wpAnyH_take (i := 48) (oi := ⟨some 118, _, _, _, _, _⟩) (v := ?_) rfl (by kernel_rfl) (by kernel_rfl) (by kernel_rfl) (fun _ _ _ h => h) (Or.inl ⟨by rfl, ?_⟩) hS ?_
    rotate_left
    · intro W hW; go_simp; with_reducible rfl
    try simp only [Act.put, List.setIfInBounds_toArray, List.set_cons_zero, List.set_cons_succ]
    refine wpAnyH_take (i := 49) (oi := ⟨some 119, _, _, _, _, _⟩) (v := ?_) rfl (by kernel_rfl) (by kernel_rfl) (by kernel_rfl) (fun _ _ _ h => h) (Or.inl ⟨by rfl, ?_⟩) hS ?_
    rotate_left
    · intro W hW; go_simp; with_reducible rfl
    try simp only [Act.put, List.setIfInBounds_toArray, List.set_cons_zero, List.set_cons_succ]
    refine wpAnyH_take (i := 50) (oi := ⟨some 120, _, _, _, _, _⟩) (v := ?_) rfl (by kernel_rfl) (by kernel_rfl) (by kernel_rfl) (fun _ _ _ h => h) (Or.inl ⟨by rfl, ?_⟩) hS ?_
    rotate_left
    · intro W hW; go_simp; with_reducible rfl
    try simp only [Act.put, List.setIfInBounds_toArray, List.set_cons_zero, List.set_cons_succ]
    refine wpAnyH_take (i := 51) (oi := ⟨some 6, _, _, _, _, _⟩) (v := ?_) rfl (by kernel_rfl) (by kernel_rfl) (by kernel_rfl) (fun _ _ _ h => h) (Or.inl ⟨by rfl, ?_⟩) hS ?_
    rotate_left
    · intro W hW; go_simp; with_reducible rfl
    try simp only [Act.put, List.setIfInBounds_toArray, List.set_cons_zero, List.set_cons_succ]
    refine wpAnyH_done (by kernel_rfl) ?_ _
    have HBZ := Lib.hid (HID.out.up hS).B
    clear hS
    go_wp2_with fail
    go_ret
    exact ⟨rfl, HBZ.out⟩
end Go.Proofs.Ytjpnihmijnpjcaa
