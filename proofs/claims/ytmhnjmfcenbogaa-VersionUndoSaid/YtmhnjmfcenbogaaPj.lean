/-
  A table in new memory.
-/
import Derived.Test.YtmhnjmfcenbogaaPi
namespace Go.Proofs.Ytmhnjmfcenbogaa
set_option maxRecDepth 100000
set_option linter.unusedVariables false
set_option linter.unusedSimpArgs false
open Go.RowKit Go.Shelf

def DatsB (W : World) (hi j : Nat) (D : List (List UInt8)) (ss : List Sl) : Prop := ∀ (i : Nat) (s : Sl), i < j → ss[i]? = some s → DatAt W s (D.getD i []) ∧ ∀ q o, s.A = some ⟨q, o, none⟩ → hi ≤ q
def DatsV (W : World) (hi j : Nat) (L : List Vn) (vs : List Vr) : Prop := ∀ (i : Nat) (r : Vr), i < j → vs[i]? = some r → (r.b = (L.getD i vnD).b ∧ r.x = (L.getD i vnD).x) ∧ DatAt W r.s (L.getD i vnD).d ∧ ∀ q o, r.s.A = some ⟨q, o, none⟩ → hi ≤ q
theorem vt_one {A B : Option Addr} {n a m b : Nat} : (vtC A n a B m b).all (·.oneCell') = true := by simp [vtC, Value.oneCell']
theorem DatsB.step {wr V0 wS : World} {hi j gA : Nat} {D : List (List UInt8)} {ss : List Sl} {s0 : Sl} (h : DatsB wr hi j D ss) (hT : Turn (fun q => q = gA) wr wS) (hT0 : Turn (fun q => q = gA) V0 wS) (hg : gA < hi) (hd : DatAt V0 s0 (D.getD j [])) (hgl : ∀ q o, s0.A = some ⟨q, o, none⟩ → hi ≤ q) :
    DatsB wS hi (j + 1) D (ss.set j s0) := by
  intro i s hi1 hs
  by_cases e : i = j
  · subst e
    rw [List.getElem?_set] at hs
    simp only [if_true] at hs
    split at hs
    · injection hs with hs
      subst hs
      exact ⟨hd.turn hT0 (fun q o e => .inr fun hq => by have := hgl q o e; omega), hgl⟩
    · cases hs
  · rw [List.getElem?_set, if_neg (fun q => e q.symm)] at hs
    obtain ⟨h1, h2⟩ := h i s (by omega) hs
    exact ⟨h1.turn hT (fun q o e => .inr fun hq => by have := h2 q o e; omega), h2⟩
theorem DatsV.step {wr V0 wS : World} {hi j gA : Nat} {L : List Vn} {vs : List Vr} {r0 : Vr} (h : DatsV wr hi j L vs) (hT : Turn (fun q => q = gA) wr wS) (hT0 : Turn (fun q => q = gA) V0 wS) (hg : gA < hi) (hb : r0.b = (L.getD j vnD).b ∧ r0.x = (L.getD j vnD).x) (hd : DatAt V0 r0.s (L.getD j vnD).d) (hgl : ∀ q o, r0.s.A = some ⟨q, o, none⟩ → hi ≤ q) :
    DatsV wS hi (j + 1) L (vs.set j r0) := by
  intro i s hi1 hs
  by_cases e : i = j
  · subst e
    rw [List.getElem?_set] at hs
    simp only [if_true] at hs
    split at hs
    · injection hs with hs
      subst hs
      exact ⟨hb, hd.turn hT0 (fun q o e => .inr fun hq => by have := hgl q o e; omega), hgl⟩
    · cases hs
  · rw [List.getElem?_set, if_neg (fun q => e q.symm)] at hs
    obtain ⟨h0, h1, h2⟩ := h i s (by omega) hs
    exact ⟨h0, h1.turn hT (fun q o e => .inr fun hq => by have := h2 q o e; omega), h2⟩
theorem DatsB.turn {W V : World} {hi j : Nat} {D : List (List UInt8)} {ss : List Sl} {S : Nat → Prop} (h : DatsB W hi j D ss) (ht : Turn S W V) (hS : ∀ q, S q → q < hi) : DatsB V hi j D ss := fun i s hi1 hs => by
  obtain ⟨h1, h2⟩ := h i s hi1 hs
  exact ⟨h1.turn ht (fun q o e => .inr fun hq => by have := h2 q o e; have := hS q hq; omega), h2⟩
theorem DatsV.turn {W V : World} {hi j : Nat} {L : List Vn} {vs : List Vr} {S : Nat → Prop} (h : DatsV W hi j L vs) (ht : Turn S W V) (hS : ∀ q, S q → q < hi) : DatsV V hi j L vs := fun i s hi1 hs => by
  obtain ⟨h0, h1, h2⟩ := h i s hi1 hs
  exact ⟨h0, h1.turn ht (fun q o e => .inr fun hq => by have := h2 q o e; have := hS q hq; omega), h2⟩

set_option maxHeartbeats 4000000 in
theorem copied_any (A B : Option Addr) (n a m b : Nat) (t : Vt) (w : World) (ht : VtAt RVo w A n a B m b t) (hs : SanV t) (hl : t.L.length ≤ 1000) :
    Calls Try.prog 24 #[vtV A n a B m b] w fun e w' => ∃ lo hi A' B' ss vs, e = .returned (vtV A' n n B' m m) ∧ Tow w' lo hi A' n n B' m m t ss vs ∧ w.heap.size ≤ lo ∧ lo ≤ hi ∧ lo ≤ w'.heap.size ∧ Below w.heap.size w w' := by
  obtain ⟨ss0, hss⟩ := ht.base
  obtain ⟨vs0, hvs⟩ := ht.vers
  have hm : m ≤ 1000 := by rw [← hvs.k]; exact hl
  have hn : n ≤ 256 := by rw [← hss.k]; exact hs.n
  have HE := Lib.hid (show ∀ i, i < n → (t.B.getD i []).length = 32 from fun i hi => by
    have hi : i < t.B.length := by rw [hss.k]; exact hi
    rw [List.getD_eq_getElem?_getD, List.getElem?_eq_getElem hi]
    exact hs.e _ (List.getElem_mem _))
  have HM := Lib.hid (show ∀ i, i < m → (t.L.getD i vnD).d.length = 32 from fun i hi => by
    have hi : i < t.L.length := by rw [hvs.k]; exact hi
    rw [List.getD_eq_getElem?_getD, List.getElem?_eq_getElem hi]
    exact (hs.may _ (List.getElem_mem hi)).2.2)
  have HKB := Lib.hid hss.k
  have HKV := Lib.hid hvs.k
  have HSS := Lib.hid hss
  have HVS := Lib.hid hvs
  obtain ⟨w1, hw1⟩ : ∃ q, q = (w.alloc (.cells (vtC A n a B m b) 30)).alloc (.cells #[.slice none 0 0, .slice none 0 0] 30) := ⟨_, rfl⟩
  have HX := Lib.hid (show Bk w1 w.heap.size (vtC A n a B m b) 30 by rw [hw1]; exact (Bk.new w _ _).al _)
  have HR := Lib.hid (show Bk w1 (w.heap.size + 1) #[.slice none 0 0, .slice none 0 0] 30 by
    rw [hw1]
    have h := Bk.new (w.alloc (.cells (vtC A n a B m b) 30)) #[.slice none 0 0, .slice none 0 0] 30
    rw [size_al] at h; exact h)
  have HB1 := Lib.hid (show Below w.heap.size w w1 by rw [hw1]; exact below_two (below_new w _) (below_new _ _))
  have HS1 := Lib.hid (show w1.heap.size = w.heap.size + 2 by rw [hw1]; simp)
  have x0 : ∀ V, Since w1 V → V.cell? ⟨w.heap.size, 0, none⟩ = some (.slice A n a) := fun V hV => (HX.out.below hV).v0
  have x1 : ∀ V, Since w1 V → V.cell? ⟨w.heap.size, 1, none⟩ = some (.slice B m b) := fun V hV => (HX.out.below hV).v1
  clear ht hs hl hss hvs
  go_enter Try.func24, Try.ntmps24
  go_upto_region 1 with fail
  rw [← hw1]
  clear hw1
  go_cut [3] from 8 to 53 (fun pv wc => ∃ gA gB g3 : Nat, pv = .pointer (some ⟨g3, 0, none⟩) ∧ Hid (Bk wc g3 (vtC (some ⟨gA, 0, none⟩) n n (some ⟨gB, 0, none⟩) m m) 30) ∧ Hid (RB.Own wc w1.heap.size (.slice (some ⟨gA, 0, none⟩) n n) (List.replicate n slD)) ∧ Hid (RVo.Own wc w1.heap.size (.slice (some ⟨gB, 0, none⟩) m m) (List.replicate m vrD)) ∧ Hid ((gA ≠ gB ∧ gA ≠ g3 ∧ gB ≠ g3) ∧ (w1.heap.size ≤ gA ∧ w1.heap.size ≤ gB ∧ w1.heap.size ≤ g3) ∧ gA < wc.heap.size ∧ gB < wc.heap.size) ∧ Hid (Since w1 wc))
  case first =>
    have HZ0 := Lib.hid (show (World.drew w1).heap.size = w1.heap.size from rfl)
    refine wp_region_since (by kernel_rfl) ?_
    have hS : Since w1 (World.drew w1) := (Below.refl _ _).drew
    refine wpAnyH_take (i := 0) (oi := ⟨some 8, _, _, _, _, _⟩) (v := ?_) rfl (by kernel_rfl) (by kernel_rfl) (by kernel_rfl) (fun _ _ _ h => h) (Or.inl ⟨by rfl, ?_⟩) hS ?_
    rotate_left
    · intro W hW; go_simp; with_reducible rfl
    try simp only [Act.put, List.setIfInBounds_toArray, List.set_cons_zero, List.set_cons_succ]
    refine wpAnyH_take (i := 1) (oi := ⟨some 9, _, _, _, _, _⟩) (v := ?_) rfl (by kernel_rfl) (by kernel_rfl) (by kernel_rfl) (fun _ _ _ h => h) (Or.inl ⟨by rfl, ?_⟩) hS ?_
    rotate_left
    · intro W hW; go_simp; with_reducible rfl
    try simp only [Act.put, List.setIfInBounds_toArray, List.set_cons_zero, List.set_cons_succ]
    refine wpAnyH_take (i := 2) (oi := ⟨some 10, _, _, _, _, _⟩) (v := ?_) rfl (by kernel_rfl) (by kernel_rfl) (by kernel_rfl) (fun _ _ _ h => h) (Or.inl ⟨by rfl, ?_⟩) hS ?_
    rotate_left
    · intro W hW; go_simp; with_reducible rfl
    try simp only [Act.put, List.setIfInBounds_toArray, List.set_cons_zero, List.set_cons_succ]
    refine wpAnyH_take (i := 4) (oi := ⟨some 12, _, _, _, _, _⟩) (v := ?_) rfl (by kernel_rfl) (by kernel_rfl) (by kernel_rfl) (fun _ _ _ h => h) (Or.inl ⟨by rfl, ?_⟩) hS ?_
    rotate_left
    · intro W hW; go_simp; with_reducible rfl
    try simp only [Act.put, List.setIfInBounds_toArray, List.set_cons_zero, List.set_cons_succ]
    refine wpAnyH_take (i := 5) (oi := ⟨some 13, _, _, _, _, _⟩) (v := ?_) rfl (by kernel_rfl) (by kernel_rfl) (by kernel_rfl) (fun _ _ _ h => h) (Or.inl ⟨by rfl, ?_⟩) hS ?_
    rotate_left
    · intro W hW; go_simp; with_reducible rfl
    try simp only [Act.put, List.setIfInBounds_toArray, List.set_cons_zero, List.set_cons_succ]
    refine wpAnyH_take (i := 6) (oi := ⟨some 14, _, _, _, _, _⟩) (v := ?_) rfl (by kernel_rfl) (by kernel_rfl) (by kernel_rfl) (fun _ _ _ h => h) (Or.inl ⟨by rfl, ?_⟩) hS ?_
    rotate_left
    · intro W hW; go_simp; with_reducible rfl
    try simp only [Act.put, List.setIfInBounds_toArray, List.set_cons_zero, List.set_cons_succ]
    refine wpAnyH_ready (rs := [3, 7, 9]) (by kernel_rfl) (by simp) ?_
    refine AllReadyH.cons (o := ⟨some 11, _, _, _, _, _⟩) rfl (fun Kr hKr => ?_) (AllReadyH.cons (o := ⟨some 15, _, _, _, _, _⟩) rfl (fun Kr hKr => ?_) (AllReadyH.cons (o := ⟨some 3, _, _, _, _, _⟩) rfl (fun Kr hKr => ?_) AllReadyH.nil))
    · skip
      -- operation 3: a step
      refine Rk.wp_make_row rb_ok (.tmp 10) (.tmp 10) rfl n slD rb_zero (by show 24 * n ≤ _; omega) (by omega) rfl rfl ?_
      intro wA gA hgA hgA2 hoA hbA
      have HZA := Lib.hid (And.intro hgA (And.intro hgA2 hbA.size))
      have HOA := Lib.hid hoA
      try replace HOB := Lib.hid (HOB.out.below hbA)
      try replace HK3 := Lib.hid (HK3.out.below hbA)
      clear hgA hgA2 hoA
      show Kr _ _
      refine hKr.out _ _ ?_ (fun _ => ?_)
      · exact since_trans hS hbA
      clear hKr Kr
      replace hS : Since w1 wA := since_trans hS hbA
      try simp only [Act.put, List.setIfInBounds_toArray, List.set_cons_zero, List.set_cons_succ]
      refine wpAnyH_ready (rs := [7, 9]) (by kernel_rfl) (by simp) ?_
      refine AllReadyH.cons (o := ⟨some 15, _, _, _, _, _⟩) rfl (fun Kr hKr => ?_) (AllReadyH.cons (o := ⟨some 3, _, _, _, _, _⟩) rfl (fun Kr hKr => ?_) AllReadyH.nil)
      · skip
        -- operation 7: a step
        refine Rk.wp_make_row rv_oko (.tmp 14) (.tmp 14) rfl m vrD rv_zero (by show 40 * m ≤ _; omega) (by omega) rfl rfl ?_
        intro wB gB hgB hgB2 hoB hbB
        have HZB := Lib.hid (And.intro hgB (And.intro hgB2 hbB.size))
        have HOB := Lib.hid hoB
        try replace HOA := Lib.hid (HOA.out.below hbB)
        try replace HK3 := Lib.hid (HK3.out.below hbB)
        clear hgB hgB2 hoB
        show Kr _ _
        refine hKr.out _ _ ?_ (fun _ => ?_)
        · exact since_trans hS hbB
        clear hKr Kr
        replace hS : Since w1 wB := since_trans hS hbB
        try simp only [Act.put, List.setIfInBounds_toArray, List.set_cons_zero, List.set_cons_succ]
        refine wpAnyH_take (i := 8) (oi := ⟨some 16, _, _, _, _, _⟩) (v := ?_) rfl (by kernel_rfl) (by kernel_rfl) (by kernel_rfl) (fun _ _ _ h => h) (Or.inl ⟨by rfl, ?_⟩) hS ?_
        rotate_left
        · intro W hW; go_simp; with_reducible rfl
        try simp only [Act.put, List.setIfInBounds_toArray, List.set_cons_zero, List.set_cons_succ]
        refine wpAnyH_ready (rs := [9]) (by kernel_rfl) (by simp) ?_
        refine AllReadyH.cons (o := ⟨some 3, _, _, _, _, _⟩) rfl (fun Kr hKr => ?_) AllReadyH.nil
        -- operation 9: a step
        refine wp_alloc_bk 30 rfl #[.slice none 0 0, .slice none 0 0] (by kernel_rfl) ?_
        intro wK g3 hk3 hbK hgK
        have HZK := Lib.hid (And.intro hgK (And.intro (Bk.lt hk3) hbK.size))
        have HK3 := Lib.hid (show Bk wK g3 #[.slice none 0 0, .slice none 0 0] 30 from hk3)
        try replace HOA := Lib.hid (HOA.out.below hbK)
        try replace HOB := Lib.hid (HOB.out.below hbK)
        clear hgK hk3
        show Kr _ _
        refine hKr.out _ _ ?_ (fun _ => ?_)
        · exact since_trans hS hbK
        clear hKr Kr
        replace hS : Since w1 wK := since_trans hS hbK
        try simp only [Act.put, List.setIfInBounds_toArray, List.set_cons_zero, List.set_cons_succ]
        refine wpAnyH_ready (rs := [10]) (by kernel_rfl) (by simp) ?_
        refine AllReadyH.cons (o := ⟨none, _, _, _, _, _⟩) rfl (fun Kr hKr => ?_) AllReadyH.nil
        -- operation 10: a step
        have hne : (gA ≠ gB ∧ gA ≠ g3 ∧ gB ≠ g3) ∧ (w1.heap.size ≤ gA ∧ w1.heap.size ≤ gB ∧ w1.heap.size ≤ g3) := by have h1 := HZA.out; have h2 := HZB.out; have h3 := HZK.out; have h4 := HZ0.out; omega
        refine wp_store_bk 30 (.tmp 3) (.tmp 16) rfl g3 (vtC (some ⟨gA, 0, none⟩) n n (some ⟨gB, 0, none⟩) m m) rfl rfl 30 _ HK3.out (by kernel_rfl) rfl vt_one ?_
        intro wS hkS hgS
        have hT : Turn (fun q => q = g3) _ wS := (Turn.refl _ _).grown hgS (fun q e => .inl (by injection e with e; exact e.symm))
        have HOA2 := Lib.hid (HOA.out.turn hT (fun k e h => by injection e with e; have e : gA = k := e; have := hne.1; omega))
        have HOB2 := Lib.hid (HOB.out.turn hT (fun k e h => by injection e with e; have e : gB = k := e; have := hne.1; omega))
        have HKS := Lib.hid (show Bk wS g3 (vtC (some ⟨gA, 0, none⟩) n n (some ⟨gB, 0, none⟩) m m) 30 from hkS)
        have HNE := Lib.hid hne
        clear hT hkS hne
        show Kr _ _
        refine hKr.out _ _ ?_ (fun _ => ?_)
        · exact Below.grown hS hgS hS.size (fun q e => by injection e with e; have := HNE.out; omega)
        clear hKr Kr
        replace hS : Since w1 wS := Below.grown hS hgS hS.size (fun q e => by injection e with e; have := HNE.out; omega)
        try simp only [Act.put, List.setIfInBounds_toArray, List.set_cons_zero, List.set_cons_succ]
        refine wpAnyH_done (by kernel_rfl) ?_ _
        have HSS2 := Lib.hid hS
        clear hS
        go_wp2_with fail
        go_meet
        case rel => exact ⟨gA, gB, g3, rfl, HKS, Lib.hid (HOA2.out.le (by have := HNE.out; omega)), Lib.hid (HOB2.out.le (by have := HNE.out; omega)), Lib.hid ⟨HNE.out.1, HNE.out.2, (HOA2.out.lt gA rfl).2, (HOB2.out.lt gB rfl).2⟩, HSS2⟩
      · skip
        -- operation 9: a step
        refine wp_alloc_bk 30 rfl #[.slice none 0 0, .slice none 0 0] (by kernel_rfl) ?_
        intro wK g3 hk3 hbK hgK
        have HZK := Lib.hid (And.intro hgK (And.intro (Bk.lt hk3) hbK.size))
        have HK3 := Lib.hid (show Bk wK g3 #[.slice none 0 0, .slice none 0 0] 30 from hk3)
        try replace HOA := Lib.hid (HOA.out.below hbK)
        try replace HOB := Lib.hid (HOB.out.below hbK)
        clear hgK hk3
        show Kr _ _
        refine hKr.out _ _ ?_ (fun _ => ?_)
        · exact since_trans hS hbK
        clear hKr Kr
        replace hS : Since w1 wK := since_trans hS hbK
        try simp only [Act.put, List.setIfInBounds_toArray, List.set_cons_zero, List.set_cons_succ]
        refine wpAnyH_ready (rs := [7]) (by kernel_rfl) (by simp) ?_
        refine AllReadyH.cons (o := ⟨some 15, _, _, _, _, _⟩) rfl (fun Kr hKr => ?_) AllReadyH.nil
        -- operation 7: a step
        refine Rk.wp_make_row rv_oko (.tmp 14) (.tmp 14) rfl m vrD rv_zero (by show 40 * m ≤ _; omega) (by omega) rfl rfl ?_
        intro wB gB hgB hgB2 hoB hbB
        have HZB := Lib.hid (And.intro hgB (And.intro hgB2 hbB.size))
        have HOB := Lib.hid hoB
        try replace HOA := Lib.hid (HOA.out.below hbB)
        try replace HK3 := Lib.hid (HK3.out.below hbB)
        clear hgB hgB2 hoB
        show Kr _ _
        refine hKr.out _ _ ?_ (fun _ => ?_)
        · exact since_trans hS hbB
        clear hKr Kr
        replace hS : Since w1 wB := since_trans hS hbB
        try simp only [Act.put, List.setIfInBounds_toArray, List.set_cons_zero, List.set_cons_succ]
        refine wpAnyH_take (i := 8) (oi := ⟨some 16, _, _, _, _, _⟩) (v := ?_) rfl (by kernel_rfl) (by kernel_rfl) (by kernel_rfl) (fun _ _ _ h => h) (Or.inl ⟨by rfl, ?_⟩) hS ?_
        rotate_left
        · intro W hW; go_simp; with_reducible rfl
        try simp only [Act.put, List.setIfInBounds_toArray, List.set_cons_zero, List.set_cons_succ]
        refine wpAnyH_ready (rs := [10]) (by kernel_rfl) (by simp) ?_
        refine AllReadyH.cons (o := ⟨none, _, _, _, _, _⟩) rfl (fun Kr hKr => ?_) AllReadyH.nil
        -- operation 10: a step
        have hne : (gA ≠ gB ∧ gA ≠ g3 ∧ gB ≠ g3) ∧ (w1.heap.size ≤ gA ∧ w1.heap.size ≤ gB ∧ w1.heap.size ≤ g3) := by have h1 := HZA.out; have h2 := HZB.out; have h3 := HZK.out; have h4 := HZ0.out; omega
        refine wp_store_bk 30 (.tmp 3) (.tmp 16) rfl g3 (vtC (some ⟨gA, 0, none⟩) n n (some ⟨gB, 0, none⟩) m m) rfl rfl 30 _ HK3.out (by kernel_rfl) rfl vt_one ?_
        intro wS hkS hgS
        have hT : Turn (fun q => q = g3) _ wS := (Turn.refl _ _).grown hgS (fun q e => .inl (by injection e with e; exact e.symm))
        have HOA2 := Lib.hid (HOA.out.turn hT (fun k e h => by injection e with e; have e : gA = k := e; have := hne.1; omega))
        have HOB2 := Lib.hid (HOB.out.turn hT (fun k e h => by injection e with e; have e : gB = k := e; have := hne.1; omega))
        have HKS := Lib.hid (show Bk wS g3 (vtC (some ⟨gA, 0, none⟩) n n (some ⟨gB, 0, none⟩) m m) 30 from hkS)
        have HNE := Lib.hid hne
        clear hT hkS hne
        show Kr _ _
        refine hKr.out _ _ ?_ (fun _ => ?_)
        · exact Below.grown hS hgS hS.size (fun q e => by injection e with e; have := HNE.out; omega)
        clear hKr Kr
        replace hS : Since w1 wS := Below.grown hS hgS hS.size (fun q e => by injection e with e; have := HNE.out; omega)
        try simp only [Act.put, List.setIfInBounds_toArray, List.set_cons_zero, List.set_cons_succ]
        refine wpAnyH_done (by kernel_rfl) ?_ _
        have HSS2 := Lib.hid hS
        clear hS
        go_wp2_with fail
        go_meet
        case rel => exact ⟨gA, gB, g3, rfl, HKS, Lib.hid (HOA2.out.le (by have := HNE.out; omega)), Lib.hid (HOB2.out.le (by have := HNE.out; omega)), Lib.hid ⟨HNE.out.1, HNE.out.2, (HOA2.out.lt gA rfl).2, (HOB2.out.lt gB rfl).2⟩, HSS2⟩
    · skip
      -- operation 7: a step
      refine Rk.wp_make_row rv_oko (.tmp 14) (.tmp 14) rfl m vrD rv_zero (by show 40 * m ≤ _; omega) (by omega) rfl rfl ?_
      intro wB gB hgB hgB2 hoB hbB
      have HZB := Lib.hid (And.intro hgB (And.intro hgB2 hbB.size))
      have HOB := Lib.hid hoB
      try replace HOA := Lib.hid (HOA.out.below hbB)
      try replace HK3 := Lib.hid (HK3.out.below hbB)
      clear hgB hgB2 hoB
      show Kr _ _
      refine hKr.out _ _ ?_ (fun _ => ?_)
      · exact since_trans hS hbB
      clear hKr Kr
      replace hS : Since w1 wB := since_trans hS hbB
      try simp only [Act.put, List.setIfInBounds_toArray, List.set_cons_zero, List.set_cons_succ]
      refine wpAnyH_ready (rs := [3, 9]) (by kernel_rfl) (by simp) ?_
      refine AllReadyH.cons (o := ⟨some 11, _, _, _, _, _⟩) rfl (fun Kr hKr => ?_) (AllReadyH.cons (o := ⟨some 3, _, _, _, _, _⟩) rfl (fun Kr hKr => ?_) AllReadyH.nil)
      · skip
        -- operation 3: a step
        refine Rk.wp_make_row rb_ok (.tmp 10) (.tmp 10) rfl n slD rb_zero (by show 24 * n ≤ _; omega) (by omega) rfl rfl ?_
        intro wA gA hgA hgA2 hoA hbA
        have HZA := Lib.hid (And.intro hgA (And.intro hgA2 hbA.size))
        have HOA := Lib.hid hoA
        try replace HOB := Lib.hid (HOB.out.below hbA)
        try replace HK3 := Lib.hid (HK3.out.below hbA)
        clear hgA hgA2 hoA
        show Kr _ _
        refine hKr.out _ _ ?_ (fun _ => ?_)
        · exact since_trans hS hbA
        clear hKr Kr
        replace hS : Since w1 wA := since_trans hS hbA
        try simp only [Act.put, List.setIfInBounds_toArray, List.set_cons_zero, List.set_cons_succ]
        refine wpAnyH_take (i := 8) (oi := ⟨some 16, _, _, _, _, _⟩) (v := ?_) rfl (by kernel_rfl) (by kernel_rfl) (by kernel_rfl) (fun _ _ _ h => h) (Or.inl ⟨by rfl, ?_⟩) hS ?_
        rotate_left
        · intro W hW; go_simp; with_reducible rfl
        try simp only [Act.put, List.setIfInBounds_toArray, List.set_cons_zero, List.set_cons_succ]
        refine wpAnyH_ready (rs := [9]) (by kernel_rfl) (by simp) ?_
        refine AllReadyH.cons (o := ⟨some 3, _, _, _, _, _⟩) rfl (fun Kr hKr => ?_) AllReadyH.nil
        -- operation 9: a step
        refine wp_alloc_bk 30 rfl #[.slice none 0 0, .slice none 0 0] (by kernel_rfl) ?_
        intro wK g3 hk3 hbK hgK
        have HZK := Lib.hid (And.intro hgK (And.intro (Bk.lt hk3) hbK.size))
        have HK3 := Lib.hid (show Bk wK g3 #[.slice none 0 0, .slice none 0 0] 30 from hk3)
        try replace HOA := Lib.hid (HOA.out.below hbK)
        try replace HOB := Lib.hid (HOB.out.below hbK)
        clear hgK hk3
        show Kr _ _
        refine hKr.out _ _ ?_ (fun _ => ?_)
        · exact since_trans hS hbK
        clear hKr Kr
        replace hS : Since w1 wK := since_trans hS hbK
        try simp only [Act.put, List.setIfInBounds_toArray, List.set_cons_zero, List.set_cons_succ]
        refine wpAnyH_ready (rs := [10]) (by kernel_rfl) (by simp) ?_
        refine AllReadyH.cons (o := ⟨none, _, _, _, _, _⟩) rfl (fun Kr hKr => ?_) AllReadyH.nil
        -- operation 10: a step
        have hne : (gA ≠ gB ∧ gA ≠ g3 ∧ gB ≠ g3) ∧ (w1.heap.size ≤ gA ∧ w1.heap.size ≤ gB ∧ w1.heap.size ≤ g3) := by have h1 := HZA.out; have h2 := HZB.out; have h3 := HZK.out; have h4 := HZ0.out; omega
        refine wp_store_bk 30 (.tmp 3) (.tmp 16) rfl g3 (vtC (some ⟨gA, 0, none⟩) n n (some ⟨gB, 0, none⟩) m m) rfl rfl 30 _ HK3.out (by kernel_rfl) rfl vt_one ?_
        intro wS hkS hgS
        have hT : Turn (fun q => q = g3) _ wS := (Turn.refl _ _).grown hgS (fun q e => .inl (by injection e with e; exact e.symm))
        have HOA2 := Lib.hid (HOA.out.turn hT (fun k e h => by injection e with e; have e : gA = k := e; have := hne.1; omega))
        have HOB2 := Lib.hid (HOB.out.turn hT (fun k e h => by injection e with e; have e : gB = k := e; have := hne.1; omega))
        have HKS := Lib.hid (show Bk wS g3 (vtC (some ⟨gA, 0, none⟩) n n (some ⟨gB, 0, none⟩) m m) 30 from hkS)
        have HNE := Lib.hid hne
        clear hT hkS hne
        show Kr _ _
        refine hKr.out _ _ ?_ (fun _ => ?_)
        · exact Below.grown hS hgS hS.size (fun q e => by injection e with e; have := HNE.out; omega)
        clear hKr Kr
        replace hS : Since w1 wS := Below.grown hS hgS hS.size (fun q e => by injection e with e; have := HNE.out; omega)
        try simp only [Act.put, List.setIfInBounds_toArray, List.set_cons_zero, List.set_cons_succ]
        refine wpAnyH_done (by kernel_rfl) ?_ _
        have HSS2 := Lib.hid hS
        clear hS
        go_wp2_with fail
        go_meet
        case rel => exact ⟨gA, gB, g3, rfl, HKS, Lib.hid (HOA2.out.le (by have := HNE.out; omega)), Lib.hid (HOB2.out.le (by have := HNE.out; omega)), Lib.hid ⟨HNE.out.1, HNE.out.2, (HOA2.out.lt gA rfl).2, (HOB2.out.lt gB rfl).2⟩, HSS2⟩
      · skip
        -- operation 9: a step
        refine wp_alloc_bk 30 rfl #[.slice none 0 0, .slice none 0 0] (by kernel_rfl) ?_
        intro wK g3 hk3 hbK hgK
        have HZK := Lib.hid (And.intro hgK (And.intro (Bk.lt hk3) hbK.size))
        have HK3 := Lib.hid (show Bk wK g3 #[.slice none 0 0, .slice none 0 0] 30 from hk3)
        try replace HOA := Lib.hid (HOA.out.below hbK)
        try replace HOB := Lib.hid (HOB.out.below hbK)
        clear hgK hk3
        show Kr _ _
        refine hKr.out _ _ ?_ (fun _ => ?_)
        · exact since_trans hS hbK
        clear hKr Kr
        replace hS : Since w1 wK := since_trans hS hbK
        try simp only [Act.put, List.setIfInBounds_toArray, List.set_cons_zero, List.set_cons_succ]
        refine wpAnyH_ready (rs := [3]) (by kernel_rfl) (by simp) ?_
        refine AllReadyH.cons (o := ⟨some 11, _, _, _, _, _⟩) rfl (fun Kr hKr => ?_) AllReadyH.nil
        -- operation 3: a step
        refine Rk.wp_make_row rb_ok (.tmp 10) (.tmp 10) rfl n slD rb_zero (by show 24 * n ≤ _; omega) (by omega) rfl rfl ?_
        intro wA gA hgA hgA2 hoA hbA
        have HZA := Lib.hid (And.intro hgA (And.intro hgA2 hbA.size))
        have HOA := Lib.hid hoA
        try replace HOB := Lib.hid (HOB.out.below hbA)
        try replace HK3 := Lib.hid (HK3.out.below hbA)
        clear hgA hgA2 hoA
        show Kr _ _
        refine hKr.out _ _ ?_ (fun _ => ?_)
        · exact since_trans hS hbA
        clear hKr Kr
        replace hS : Since w1 wA := since_trans hS hbA
        try simp only [Act.put, List.setIfInBounds_toArray, List.set_cons_zero, List.set_cons_succ]
        refine wpAnyH_take (i := 8) (oi := ⟨some 16, _, _, _, _, _⟩) (v := ?_) rfl (by kernel_rfl) (by kernel_rfl) (by kernel_rfl) (fun _ _ _ h => h) (Or.inl ⟨by rfl, ?_⟩) hS ?_
        rotate_left
        · intro W hW; go_simp; with_reducible rfl
        try simp only [Act.put, List.setIfInBounds_toArray, List.set_cons_zero, List.set_cons_succ]
        refine wpAnyH_ready (rs := [10]) (by kernel_rfl) (by simp) ?_
        refine AllReadyH.cons (o := ⟨none, _, _, _, _, _⟩) rfl (fun Kr hKr => ?_) AllReadyH.nil
        -- operation 10: a step
        have hne : (gA ≠ gB ∧ gA ≠ g3 ∧ gB ≠ g3) ∧ (w1.heap.size ≤ gA ∧ w1.heap.size ≤ gB ∧ w1.heap.size ≤ g3) := by have h1 := HZA.out; have h2 := HZB.out; have h3 := HZK.out; have h4 := HZ0.out; omega
        refine wp_store_bk 30 (.tmp 3) (.tmp 16) rfl g3 (vtC (some ⟨gA, 0, none⟩) n n (some ⟨gB, 0, none⟩) m m) rfl rfl 30 _ HK3.out (by kernel_rfl) rfl vt_one ?_
        intro wS hkS hgS
        have hT : Turn (fun q => q = g3) _ wS := (Turn.refl _ _).grown hgS (fun q e => .inl (by injection e with e; exact e.symm))
        have HOA2 := Lib.hid (HOA.out.turn hT (fun k e h => by injection e with e; have e : gA = k := e; have := hne.1; omega))
        have HOB2 := Lib.hid (HOB.out.turn hT (fun k e h => by injection e with e; have e : gB = k := e; have := hne.1; omega))
        have HKS := Lib.hid (show Bk wS g3 (vtC (some ⟨gA, 0, none⟩) n n (some ⟨gB, 0, none⟩) m m) 30 from hkS)
        have HNE := Lib.hid hne
        clear hT hkS hne
        show Kr _ _
        refine hKr.out _ _ ?_ (fun _ => ?_)
        · exact Below.grown hS hgS hS.size (fun q e => by injection e with e; have := HNE.out; omega)
        clear hKr Kr
        replace hS : Since w1 wS := Below.grown hS hgS hS.size (fun q e => by injection e with e; have := HNE.out; omega)
        try simp only [Act.put, List.setIfInBounds_toArray, List.set_cons_zero, List.set_cons_succ]
        refine wpAnyH_done (by kernel_rfl) ?_ _
        have HSS2 := Lib.hid hS
        clear hS
        go_wp2_with fail
        go_meet
        case rel => exact ⟨gA, gB, g3, rfl, HKS, Lib.hid (HOA2.out.le (by have := HNE.out; omega)), Lib.hid (HOB2.out.le (by have := HNE.out; omega)), Lib.hid ⟨HNE.out.1, HNE.out.2, (HOA2.out.lt gA rfl).2, (HOB2.out.lt gB rfl).2⟩, HSS2⟩
    · skip
      -- operation 9: a step
      refine wp_alloc_bk 30 rfl #[.slice none 0 0, .slice none 0 0] (by kernel_rfl) ?_
      intro wK g3 hk3 hbK hgK
      have HZK := Lib.hid (And.intro hgK (And.intro (Bk.lt hk3) hbK.size))
      have HK3 := Lib.hid (show Bk wK g3 #[.slice none 0 0, .slice none 0 0] 30 from hk3)
      try replace HOA := Lib.hid (HOA.out.below hbK)
      try replace HOB := Lib.hid (HOB.out.below hbK)
      clear hgK hk3
      show Kr _ _
      refine hKr.out _ _ ?_ (fun _ => ?_)
      · exact since_trans hS hbK
      clear hKr Kr
      replace hS : Since w1 wK := since_trans hS hbK
      try simp only [Act.put, List.setIfInBounds_toArray, List.set_cons_zero, List.set_cons_succ]
      refine wpAnyH_ready (rs := [3, 7]) (by kernel_rfl) (by simp) ?_
      refine AllReadyH.cons (o := ⟨some 11, _, _, _, _, _⟩) rfl (fun Kr hKr => ?_) (AllReadyH.cons (o := ⟨some 15, _, _, _, _, _⟩) rfl (fun Kr hKr => ?_) AllReadyH.nil)
      · skip
        -- operation 3: a step
        refine Rk.wp_make_row rb_ok (.tmp 10) (.tmp 10) rfl n slD rb_zero (by show 24 * n ≤ _; omega) (by omega) rfl rfl ?_
        intro wA gA hgA hgA2 hoA hbA
        have HZA := Lib.hid (And.intro hgA (And.intro hgA2 hbA.size))
        have HOA := Lib.hid hoA
        try replace HOB := Lib.hid (HOB.out.below hbA)
        try replace HK3 := Lib.hid (HK3.out.below hbA)
        clear hgA hgA2 hoA
        show Kr _ _
        refine hKr.out _ _ ?_ (fun _ => ?_)
        · exact since_trans hS hbA
        clear hKr Kr
        replace hS : Since w1 wA := since_trans hS hbA
        try simp only [Act.put, List.setIfInBounds_toArray, List.set_cons_zero, List.set_cons_succ]
        refine wpAnyH_ready (rs := [7]) (by kernel_rfl) (by simp) ?_
        refine AllReadyH.cons (o := ⟨some 15, _, _, _, _, _⟩) rfl (fun Kr hKr => ?_) AllReadyH.nil
        -- operation 7: a step
        refine Rk.wp_make_row rv_oko (.tmp 14) (.tmp 14) rfl m vrD rv_zero (by show 40 * m ≤ _; omega) (by omega) rfl rfl ?_
        intro wB gB hgB hgB2 hoB hbB
        have HZB := Lib.hid (And.intro hgB (And.intro hgB2 hbB.size))
        have HOB := Lib.hid hoB
        try replace HOA := Lib.hid (HOA.out.below hbB)
        try replace HK3 := Lib.hid (HK3.out.below hbB)
        clear hgB hgB2 hoB
        show Kr _ _
        refine hKr.out _ _ ?_ (fun _ => ?_)
        · exact since_trans hS hbB
        clear hKr Kr
        replace hS : Since w1 wB := since_trans hS hbB
        try simp only [Act.put, List.setIfInBounds_toArray, List.set_cons_zero, List.set_cons_succ]
        refine wpAnyH_take (i := 8) (oi := ⟨some 16, _, _, _, _, _⟩) (v := ?_) rfl (by kernel_rfl) (by kernel_rfl) (by kernel_rfl) (fun _ _ _ h => h) (Or.inl ⟨by rfl, ?_⟩) hS ?_
        rotate_left
        · intro W hW; go_simp; with_reducible rfl
        try simp only [Act.put, List.setIfInBounds_toArray, List.set_cons_zero, List.set_cons_succ]
        refine wpAnyH_ready (rs := [10]) (by kernel_rfl) (by simp) ?_
        refine AllReadyH.cons (o := ⟨none, _, _, _, _, _⟩) rfl (fun Kr hKr => ?_) AllReadyH.nil
        -- operation 10: a step
        have hne : (gA ≠ gB ∧ gA ≠ g3 ∧ gB ≠ g3) ∧ (w1.heap.size ≤ gA ∧ w1.heap.size ≤ gB ∧ w1.heap.size ≤ g3) := by have h1 := HZA.out; have h2 := HZB.out; have h3 := HZK.out; have h4 := HZ0.out; omega
        refine wp_store_bk 30 (.tmp 3) (.tmp 16) rfl g3 (vtC (some ⟨gA, 0, none⟩) n n (some ⟨gB, 0, none⟩) m m) rfl rfl 30 _ HK3.out (by kernel_rfl) rfl vt_one ?_
        intro wS hkS hgS
        have hT : Turn (fun q => q = g3) _ wS := (Turn.refl _ _).grown hgS (fun q e => .inl (by injection e with e; exact e.symm))
        have HOA2 := Lib.hid (HOA.out.turn hT (fun k e h => by injection e with e; have e : gA = k := e; have := hne.1; omega))
        have HOB2 := Lib.hid (HOB.out.turn hT (fun k e h => by injection e with e; have e : gB = k := e; have := hne.1; omega))
        have HKS := Lib.hid (show Bk wS g3 (vtC (some ⟨gA, 0, none⟩) n n (some ⟨gB, 0, none⟩) m m) 30 from hkS)
        have HNE := Lib.hid hne
        clear hT hkS hne
        show Kr _ _
        refine hKr.out _ _ ?_ (fun _ => ?_)
        · exact Below.grown hS hgS hS.size (fun q e => by injection e with e; have := HNE.out; omega)
        clear hKr Kr
        replace hS : Since w1 wS := Below.grown hS hgS hS.size (fun q e => by injection e with e; have := HNE.out; omega)
        try simp only [Act.put, List.setIfInBounds_toArray, List.set_cons_zero, List.set_cons_succ]
        refine wpAnyH_done (by kernel_rfl) ?_ _
        have HSS2 := Lib.hid hS
        clear hS
        go_wp2_with fail
        go_meet
        case rel => exact ⟨gA, gB, g3, rfl, HKS, Lib.hid (HOA2.out.le (by have := HNE.out; omega)), Lib.hid (HOB2.out.le (by have := HNE.out; omega)), Lib.hid ⟨HNE.out.1, HNE.out.2, (HOA2.out.lt gA rfl).2, (HOB2.out.lt gB rfl).2⟩, HSS2⟩
      · skip
        -- operation 7: a step
        refine Rk.wp_make_row rv_oko (.tmp 14) (.tmp 14) rfl m vrD rv_zero (by show 40 * m ≤ _; omega) (by omega) rfl rfl ?_
        intro wB gB hgB hgB2 hoB hbB
        have HZB := Lib.hid (And.intro hgB (And.intro hgB2 hbB.size))
        have HOB := Lib.hid hoB
        try replace HOA := Lib.hid (HOA.out.below hbB)
        try replace HK3 := Lib.hid (HK3.out.below hbB)
        clear hgB hgB2 hoB
        show Kr _ _
        refine hKr.out _ _ ?_ (fun _ => ?_)
        · exact since_trans hS hbB
        clear hKr Kr
        replace hS : Since w1 wB := since_trans hS hbB
        try simp only [Act.put, List.setIfInBounds_toArray, List.set_cons_zero, List.set_cons_succ]
        refine wpAnyH_ready (rs := [3]) (by kernel_rfl) (by simp) ?_
        refine AllReadyH.cons (o := ⟨some 11, _, _, _, _, _⟩) rfl (fun Kr hKr => ?_) AllReadyH.nil
        -- operation 3: a step
        refine Rk.wp_make_row rb_ok (.tmp 10) (.tmp 10) rfl n slD rb_zero (by show 24 * n ≤ _; omega) (by omega) rfl rfl ?_
        intro wA gA hgA hgA2 hoA hbA
        have HZA := Lib.hid (And.intro hgA (And.intro hgA2 hbA.size))
        have HOA := Lib.hid hoA
        try replace HOB := Lib.hid (HOB.out.below hbA)
        try replace HK3 := Lib.hid (HK3.out.below hbA)
        clear hgA hgA2 hoA
        show Kr _ _
        refine hKr.out _ _ ?_ (fun _ => ?_)
        · exact since_trans hS hbA
        clear hKr Kr
        replace hS : Since w1 wA := since_trans hS hbA
        try simp only [Act.put, List.setIfInBounds_toArray, List.set_cons_zero, List.set_cons_succ]
        refine wpAnyH_take (i := 8) (oi := ⟨some 16, _, _, _, _, _⟩) (v := ?_) rfl (by kernel_rfl) (by kernel_rfl) (by kernel_rfl) (fun _ _ _ h => h) (Or.inl ⟨by rfl, ?_⟩) hS ?_
        rotate_left
        · intro W hW; go_simp; with_reducible rfl
        try simp only [Act.put, List.setIfInBounds_toArray, List.set_cons_zero, List.set_cons_succ]
        refine wpAnyH_ready (rs := [10]) (by kernel_rfl) (by simp) ?_
        refine AllReadyH.cons (o := ⟨none, _, _, _, _, _⟩) rfl (fun Kr hKr => ?_) AllReadyH.nil
        -- operation 10: a step
        have hne : (gA ≠ gB ∧ gA ≠ g3 ∧ gB ≠ g3) ∧ (w1.heap.size ≤ gA ∧ w1.heap.size ≤ gB ∧ w1.heap.size ≤ g3) := by have h1 := HZA.out; have h2 := HZB.out; have h3 := HZK.out; have h4 := HZ0.out; omega
        refine wp_store_bk 30 (.tmp 3) (.tmp 16) rfl g3 (vtC (some ⟨gA, 0, none⟩) n n (some ⟨gB, 0, none⟩) m m) rfl rfl 30 _ HK3.out (by kernel_rfl) rfl vt_one ?_
        intro wS hkS hgS
        have hT : Turn (fun q => q = g3) _ wS := (Turn.refl _ _).grown hgS (fun q e => .inl (by injection e with e; exact e.symm))
        have HOA2 := Lib.hid (HOA.out.turn hT (fun k e h => by injection e with e; have e : gA = k := e; have := hne.1; omega))
        have HOB2 := Lib.hid (HOB.out.turn hT (fun k e h => by injection e with e; have e : gB = k := e; have := hne.1; omega))
        have HKS := Lib.hid (show Bk wS g3 (vtC (some ⟨gA, 0, none⟩) n n (some ⟨gB, 0, none⟩) m m) 30 from hkS)
        have HNE := Lib.hid hne
        clear hT hkS hne
        show Kr _ _
        refine hKr.out _ _ ?_ (fun _ => ?_)
        · exact Below.grown hS hgS hS.size (fun q e => by injection e with e; have := HNE.out; omega)
        clear hKr Kr
        replace hS : Since w1 wS := Below.grown hS hgS hS.size (fun q e => by injection e with e; have := HNE.out; omega)
        try simp only [Act.put, List.setIfInBounds_toArray, List.set_cons_zero, List.set_cons_succ]
        refine wpAnyH_done (by kernel_rfl) ?_ _
        have HSS2 := Lib.hid hS
        clear hS
        go_wp2_with fail
        go_meet
        case rel => exact ⟨gA, gB, g3, rfl, HKS, Lib.hid (HOA2.out.le (by have := HNE.out; omega)), Lib.hid (HOB2.out.le (by have := HNE.out; omega)), Lib.hid ⟨HNE.out.1, HNE.out.2, (HOA2.out.lt gA rfl).2, (HOB2.out.lt gB rfl).2⟩, HSS2⟩
  case rest =>
    obtain ⟨gA, gB, g3, rfl, HK3, HOA, HOB, HNE, HSS2⟩ := hcut
    obtain ⟨wq, hwq⟩ : ∃ wq, wq = wc := ⟨_, rfl⟩
    subst hwq
    obtain ⟨lo, hlo⟩ : ∃ lo, lo = w1.heap.size := ⟨_, rfl⟩
    obtain ⟨hi, hhi⟩ : ∃ hi, hi = wq.heap.size := ⟨_, rfl⟩
    have HNN := Lib.hid (show ((gA ≠ gB ∧ gA ≠ g3 ∧ gB ≠ g3) ∧ (lo ≤ gA ∧ lo ≤ gB ∧ lo ≤ g3) ∧ gA < hi ∧ gB < hi ∧ g3 < hi) ∧ lo = w.heap.size + 2 ∧ hi = wq.heap.size from ⟨⟨HNE.out.1, by rw [hlo]; exact HNE.out.2.1, by rw [hhi]; exact HNE.out.2.2.1, by rw [hhi]; exact HNE.out.2.2.2, by rw [hhi]; exact HK3.out.lt⟩, by rw [hlo]; exact HS1.out, hhi⟩)
    rw [← hlo] at HOA HOB
    have HXq := Lib.hid (HX.out.below HSS2.out)
    have HRq := Lib.hid (HR.out.below HSS2.out)
    have HBq := Lib.hid (HB1.out.trans (Below.mono HSS2.out HB1.out.size))
    have x2 := x0 wq HSS2.out
    clear hlo hhi HX HR HB1 HSS2 HNE HS1 x0 x1
    go_wp2_with fail
    clear x2
    go_loopw [20] (fun u wr => ∃ (j : Nat) (ss : List Sl), u = .int .i64 (j : Int) ∧ j ≤ n ∧ Hid (RB.Own wr lo (.slice (some ⟨gA, 0, none⟩) n n) ss) ∧ Hid (DatsB wr hi j t.B ss) ∧ Hid (Turn (fun q => q = gA) wq wr)) (fun u _ => n - (intOf u).toNat)
    case atStart => exact ⟨0, _, rfl, Nat.zero_le _, HOA, Lib.hid (fun i s hi1 => absurd hi1 (Nat.not_lt_zero _)), Lib.hid (Turn.refl _ _)⟩
    case round =>
      obtain ⟨j, ss, rfl, hj, HOj, HDj, HTj⟩ := hrel
      rcases Nat.lt_or_ge j n with hlt | hge
      · obtain ⟨b2, o, Ax, nx, cx, hA, hbl, q0, hd⟩ := bas_cells HSS.out hlt
        subst hA
        obtain rfl : 32 = nx := by have := HE.out j hlt; have h2 := hd.n; simp only at h2; omega
        have hBr : Below w.heap.size w wr := HBq.out.trans (HTj.out.below (B := w.heap.size) (fun q e => by have := HNN.out; omega) HBq.out.size)
        have c0 := (hBr.cell (p := ⟨b2, o + j, none⟩) hbl).trans q0
        have HPF := Lib.hid (padV_full (HE.out j hlt))
        have hd4 : decide ((j : Int) < (n : Int)) = true := decide_eq_true (by omega)
        have hd5 : decide (j < n) = true := decide_eq_true hlt
        have hi1 : (j : Int) < (n : Int) := by omega
        have hi2 : j < n := hlt
        have HSZ := Lib.hid (show hi ≤ wr.heap.size by have h1 := HTj.out.size; have h2 := HNN.out; omega)
        have HLS := Lib.hid (own_len rb_ok HOj.out)
        have HK3r := Lib.hid (HK3.out.turn HTj.out (by have := HNN.out; omega))
        have d0 : ∀ V, Turn (fun q => q = gA) wr V → V.cell? ⟨g3, 0, none⟩ = some (.slice (some ⟨gA, 0, none⟩) n n) := fun V hV => (HK3r.out.turn hV (by have := HNN.out; omega)).v0
        have HOd := Lib.hid (HOj.out.below (w' := World.drew wr) ((Below.refl _ _).drew))
        have HDJ := Lib.hid (show DatAt (World.drew wr) ⟨Ax, 32, cx⟩ (t.B.getD j []) from (hd.below (hBr)).below ((Below.refl _ _).drew))
        obtain ⟨gl, hgl⟩ : ∃ q, wr.heap.size = q := ⟨_, rfl⟩
        have HGL := Lib.hid (show (World.drew wr).heap.size = gl from hgl)
        have HGL2 := Lib.hid (show hi ≤ gl by rw [← hgl]; exact HSZ.out)
        have hm1 : j * RB.m = j := Nat.mul_one j
        obtain ⟨dd, hdd⟩ : ∃ q, t.B.getD j [] = q := ⟨_, rfl⟩
        rw [hdd] at HPF HDJ
        have HDD := Lib.hid hdd
        clear hdd
        clear q0 hbl hd hBr hgl
        go_upto_region 5 with fail
        clear c0
        refine wp_region_turn (X := (fun q => q = gA)) (by kernel_rfl) ?_
        have hS : Turn (fun q => q = gA) wr (World.drew wr) := (Turn.refl _ _).drew
        refine wpAnyH_take (i := 0) (oi := ⟨some 25, _, _, _, _, _⟩) (v := ?_) rfl (by kernel_rfl) (by kernel_rfl) (by kernel_rfl) (fun _ _ _ h => h) (Or.inl ⟨by rfl, ?_⟩) hS ?_
        rotate_left
        · intro W hW; go_simp; with_reducible rfl
        try simp only [Act.put, List.setIfInBounds_toArray, List.set_cons_zero, List.set_cons_succ]
        refine wpAnyH_take (i := 1) (oi := ⟨some 26, _, _, _, _, _⟩) (v := ?_) rfl (by kernel_rfl) (by kernel_rfl) (by kernel_rfl) (fun _ _ _ h => h) (Or.inl ⟨by rfl, ?_⟩) hS ?_
        rotate_left
        · intro W hW; go_simp; with_reducible rfl
        try simp only [Act.put, List.setIfInBounds_toArray, List.set_cons_zero, List.set_cons_succ]
        refine wpAnyH_take (i := 2) (oi := ⟨some 27, _, _, _, _, _⟩) (v := ?_) rfl (by kernel_rfl) (by kernel_rfl) (by kernel_rfl) (fun _ _ _ h => h) (Or.inl ⟨by rfl, ?_⟩) hS ?_
        rotate_left
        · intro W hW; go_simp; with_reducible rfl
        try simp only [Act.put, List.setIfInBounds_toArray, List.set_cons_zero, List.set_cons_succ]
        refine wpAnyH_take (i := 3) (oi := ⟨some 28, _, _, _, _, _⟩) (v := ?_) rfl (by kernel_rfl) (by kernel_rfl) (by kernel_rfl) (fun _ _ _ h => h) (Or.inl ⟨by rfl, ?_⟩) hS ?_
        rotate_left
        · intro W hW; go_simp; with_reducible rfl
        try simp only [Act.put, List.setIfInBounds_toArray, List.set_cons_zero, List.set_cons_succ]
        refine wpAnyH_ready (rs := [4]) (by kernel_rfl) (by simp) ?_
        refine AllReadyH.cons (o := ⟨some 29, _, _, _, _, _⟩) rfl (fun Kr hKr => ?_) AllReadyH.nil
        -- operation 4: a call
        go_simp
        refine (laid_any Ax 32 cx dd (by omega) gl _ HGL.out HDJ.out).mono ?_
        rintro e V0 ⟨rfl, hd0, hg0, hv⟩
        rw [HPF.out] at hd0
        have HD0 := Lib.hid hd0
        have HO0 := Lib.hid (HOd.out.below hv)
        clear hd0 hg0
        show Kr _ _
        refine hKr.out _ _ ?_ (fun _ => ?_)
        · exact Turn.trans hS (Turn.ofBelow hv)
        clear hKr Kr
        replace hS : Turn (fun q => q = gA) wr V0 := Turn.trans hS (Turn.ofBelow hv)
        try simp only [Act.put, List.setIfInBounds_toArray, List.set_cons_zero, List.set_cons_succ]
        refine wpAnyH_take (i := 5) (oi := ⟨some 30, _, _, _, _, _⟩) (v := ?_) rfl (by kernel_rfl) (by kernel_rfl) (by kernel_rfl) (fun _ _ _ h => h) (Or.inl ⟨by rfl, ?_⟩) hS ?_
        rotate_left
        · intro W hW; go_simp; with_reducible rfl
        try simp only [Act.put, List.setIfInBounds_toArray, List.set_cons_zero, List.set_cons_succ]
        refine wpAnyH_ready (rs := [6]) (by kernel_rfl) (by simp) ?_
        refine AllReadyH.cons (o := ⟨none, _, _, _, _, _⟩) rfl (fun Kr hKr => ?_) AllReadyH.nil
        -- operation 6: a step
        refine Rk.wp_store_elem rb_ok (.tmp 30) (.tmp 29) rfl (i := j) (⟨some ⟨gl, 0, none⟩, 32, 32⟩ : Sl) (Sl.v ⟨some ⟨gl, 0, none⟩, 32, 32⟩) rfl (by rw [hm1]; rfl) rfl HO0.out HLS.out hi2 ?_
        intro wS hoS hgS
        have HOS := Lib.hid hoS
        have HT0 := Lib.hid (show Turn (fun q => q = gA) V0 wS from (Turn.refl _ _).grown hgS (fun q e => .inl (by injection e with e; exact e.symm)))
        clear hoS
        show Kr _ _
        refine hKr.out _ _ ?_ (fun _ => ?_)
        · exact Turn.trans hS HT0.out
        clear hKr Kr
        replace hS : Turn (fun q => q = gA) wr wS := Turn.trans hS HT0.out
        try simp only [Act.put, List.setIfInBounds_toArray, List.set_cons_zero, List.set_cons_succ]
        refine wpAnyH_done (by kernel_rfl) ?_ _
        have HTS := Lib.hid hS
        clear hS
        go_wp2_with fail
        exact ⟨⟨j + 1, _, rfl, hi2, HOS, Lib.hid (HDj.out.step HTS.out HT0.out (by have := HNN.out; omega) (by rw [HDD.out]; exact HD0.out) (fun q o e => by injection e with e; injection e with e; have := HGL2.out; omega)), Lib.hid (HTj.out.trans HTS.out)⟩, by simp [intOf]; omega⟩
      · obtain rfl : j = n := by omega
        have HOA2 := Lib.hid HOj.out
        have hBr : Below w.heap.size w wr := HBq.out.trans (HTj.out.below (B := w.heap.size) (fun q e => by have := HNN.out; omega) HBq.out.size)
        have HBr := Lib.hid hBr
        have HXr := Lib.hid (HXq.out.turn HTj.out (by have := HNN.out; omega))
        have HRr := Lib.hid (HRq.out.turn HTj.out (by have := HNN.out; omega))
        have HKr := Lib.hid (HK3.out.turn HTj.out (by have := HNN.out; omega))
        have HOBr := Lib.hid (HOB.out.turn HTj.out (fun k e h => by injection e with e; have e : gB = k := e; have := HNN.out; omega))
        have HSZr := Lib.hid (show hi ≤ wr.heap.size by have h1 := HTj.out.size; have h2 := HNN.out; omega)
        have hd4 : decide ((j : Int) < (j : Int)) = false := decide_eq_false (by omega)
        have hd5 : decide (j < j) = false := decide_eq_false (by omega)
        have x1 := HXr.out.v1
        clear hBr HBq HXq HRq HK3 HOB HOj HTj
        go_wp2_with fail
        clear x1 hd4 hd5
        obtain ⟨wo, hwo⟩ : ∃ wo, wo = wr := ⟨_, rfl⟩
        subst hwo
        go_loopw [35] (fun u wv => ∃ (i : Nat) (vs : List Vr), u = .int .i64 (i : Int) ∧ i ≤ m ∧ Hid (RVo.Own wv lo (.slice (some ⟨gB, 0, none⟩) m m) vs) ∧ Hid (DatsV wv hi i t.L vs) ∧ Hid (Turn (fun q => q = gB) wo wv)) (fun u _ => m - (intOf u).toNat)
        case atStart => exact ⟨0, _, rfl, Nat.zero_le _, HOBr, Lib.hid (fun i s hi1 => absurd hi1 (Nat.not_lt_zero _)), Lib.hid (Turn.refl _ _)⟩
        case round =>
          obtain ⟨i, vs, rfl, him, HOi, HDi, HTi⟩ := hrel
          have hBr : Below w.heap.size w wr := HBr.out.trans (HTi.out.below (B := w.heap.size) (fun q e => by have := HNN.out; omega) HBr.out.size)
          rcases Nat.lt_or_ge i m with hlt | hge2
          · obtain ⟨b2, o, zA, zn, zk, hA, hbl, _, q0, q1, q2, hdz⟩ := ver_cells rfl rv_oko HVS.out hlt
            subst hA
            obtain rfl : 32 = zn := by have := HM.out i hlt; have h2 := hdz.n; simp only at h2; omega
            have c0 := (hBr.cell (p := ⟨b2, o + i * 3, none⟩) hbl).trans q0
            have c1 := (hBr.cell (p := ⟨b2, o + i * 3 + 1, none⟩) hbl).trans q1
            have c2 := (hBr.cell (p := ⟨b2, o + i * 3 + 2, none⟩) hbl).trans q2
            have HPF := Lib.hid (padV_full (HM.out i hlt))
            have HLS := Lib.hid (own_len rv_oko HOi.out)
            have HSZ := Lib.hid (show hi ≤ wr.heap.size by have h1 := HTi.out.size; have h2 := HSZr.out; omega)
            have HKi := Lib.hid (HKr.out.turn HTi.out (by have := HNN.out; omega))
            have hdz2 := hdz.below hBr
            obtain ⟨p, hp⟩ : ∃ p, t.L.getD i vnD = p := ⟨_, rfl⟩
            rw [hp] at c0 c1 HPF hdz2
            have HPP := Lib.hid hp
            obtain ⟨pc, px, pd⟩ := p
            simp only at c0 c1 HPF hdz2
            have hd4 : decide ((i : Int) < (m : Int)) = true := decide_eq_true (by omega)
            have hd5 : decide (i < m) = true := decide_eq_true hlt
            have hi1 : (i : Int) < (m : Int) := by omega
            have hi2 : i < m := hlt
            clear q0 q1 q2 hbl hdz hBr hp
            go_upto_region 10 with fail
            obtain ⟨wk, hwk⟩ : ∃ q, q = wr.alloc (.cells (veC pc px zA 32 zk) 74) := ⟨_, rfl⟩
            obtain ⟨g7, hg7⟩ : ∃ q, q = wr.heap.size := ⟨_, rfl⟩
            have hbk : Below wr.heap.size wr wk := by rw [hwk]; exact below_new _ _
            have HK7 := Lib.hid (show Bk wk g7 (veC pc px zA 32 zk) 74 by rw [hwk, hg7]; exact Bk.new _ _ _)
            have HN7 := Lib.hid (show hi ≤ g7 by rw [hg7]; exact HSZ.out)
            have HKk := Lib.hid (HKi.out.below hbk)
            have HOk := Lib.hid (HOi.out.below hbk)
            have HTk := Lib.hid (HTi.out.trans (Turn.ofBelow hbk))
            have HDk := Lib.hid (show DatsV wk hi i t.L vs from HDi.out.turn (S := fun _ => False) (Turn.ofBelow hbk) (fun q h => h.elim))
            have HSk := Lib.hid (show hi ≤ wk.heap.size from Nat.le_trans HSZ.out hbk.size)
            have HDJ := Lib.hid (show DatAt (World.drew wk) ⟨zA, 32, zk⟩ pd from (hdz2.below hbk).below ((Below.refl _ _).drew))
            rw [← hg7, ← hwk]
            clear hbk hwk hg7 hdz2 c0 c1 c2
            have d0 : ∀ V, Turn (fun q => q = gB) wk V → V.cell? ⟨g3, 1, none⟩ = some (.slice (some ⟨gB, 0, none⟩) m m) := fun V hV => (HKk.out.turn hV (by have := HNN.out; omega)).v1
            have p0 : ∀ V, Turn (fun q => q = gB) wk V → V.cell? ⟨g7, 0, none⟩ = some (.int .i64 pc) := fun V hV => (HK7.out.turn hV (by have := HNN.out; have := HN7.out; omega)).e0
            have p1 : ∀ V, Turn (fun q => q = gB) wk V → V.cell? ⟨g7, 1, none⟩ = some (.int .i64 px) := fun V hV => (HK7.out.turn hV (by have := HNN.out; have := HN7.out; omega)).e1
            have p2 : ∀ V, Turn (fun q => q = gB) wk V → V.cell? ⟨g7, 2, none⟩ = some (.slice zA 32 zk) := fun V hV => (HK7.out.turn hV (by have := HNN.out; have := HN7.out; omega)).e2
            have HOd := Lib.hid (HOk.out.below (w' := World.drew wk) ((Below.refl _ _).drew))
            obtain ⟨gl, hgl⟩ : ∃ q, wk.heap.size = q := ⟨_, rfl⟩
            have HGL := Lib.hid (show (World.drew wk).heap.size = gl from hgl)
            have HGL2 := Lib.hid (show hi ≤ gl by rw [← hgl]; exact HSk.out)
            clear hgl
            refine wp_region_turn (X := (fun q => q = gB)) (by kernel_rfl) ?_
            have hS : Turn (fun q => q = gB) wk (World.drew wk) := (Turn.refl _ _).drew
            refine wpAnyH_take (i := 0) (oi := ⟨some 40, _, _, _, _, _⟩) (v := ?_) rfl (by kernel_rfl) (by kernel_rfl) (by kernel_rfl) (fun _ _ _ h => h) (Or.inl ⟨by rfl, ?_⟩) hS ?_
            rotate_left
            · intro W hW; go_simp; with_reducible rfl
            try simp only [Act.put, List.setIfInBounds_toArray, List.set_cons_zero, List.set_cons_succ]
            refine wpAnyH_take (i := 1) (oi := ⟨some 41, _, _, _, _, _⟩) (v := ?_) rfl (by kernel_rfl) (by kernel_rfl) (by kernel_rfl) (fun _ _ _ h => h) (Or.inl ⟨by rfl, ?_⟩) hS ?_
            rotate_left
            · intro W hW; go_simp; with_reducible rfl
            try simp only [Act.put, List.setIfInBounds_toArray, List.set_cons_zero, List.set_cons_succ]
            refine wpAnyH_take (i := 2) (oi := ⟨some 42, _, _, _, _, _⟩) (v := ?_) rfl (by kernel_rfl) (by kernel_rfl) (by kernel_rfl) (fun _ _ _ h => h) (Or.inl ⟨by rfl, ?_⟩) hS ?_
            rotate_left
            · intro W hW; go_simp; with_reducible rfl
            try simp only [Act.put, List.setIfInBounds_toArray, List.set_cons_zero, List.set_cons_succ]
            refine wpAnyH_take (i := 3) (oi := ⟨some 43, _, _, _, _, _⟩) (v := ?_) rfl (by kernel_rfl) (by kernel_rfl) (by kernel_rfl) (fun _ _ _ h => h) (Or.inl ⟨by rfl, ?_⟩) hS ?_
            rotate_left
            · intro W hW; go_simp; with_reducible rfl
            try simp only [Act.put, List.setIfInBounds_toArray, List.set_cons_zero, List.set_cons_succ]
            refine wpAnyH_take (i := 4) (oi := ⟨some 44, _, _, _, _, _⟩) (v := ?_) rfl (by kernel_rfl) (by kernel_rfl) (by kernel_rfl) (fun _ _ _ h => h) (Or.inl ⟨by rfl, ?_⟩) hS ?_
            rotate_left
            · intro W hW; go_simp; with_reducible rfl
            try simp only [Act.put, List.setIfInBounds_toArray, List.set_cons_zero, List.set_cons_succ]
            refine wpAnyH_take (i := 5) (oi := ⟨some 45, _, _, _, _, _⟩) (v := ?_) rfl (by kernel_rfl) (by kernel_rfl) (by kernel_rfl) (fun _ _ _ h => h) (Or.inl ⟨by rfl, ?_⟩) hS ?_
            rotate_left
            · intro W hW; go_simp; with_reducible rfl
            try simp only [Act.put, List.setIfInBounds_toArray, List.set_cons_zero, List.set_cons_succ]
            refine wpAnyH_take (i := 6) (oi := ⟨some 46, _, _, _, _, _⟩) (v := ?_) rfl (by kernel_rfl) (by kernel_rfl) (by kernel_rfl) (fun _ _ _ h => h) (Or.inl ⟨by rfl, ?_⟩) hS ?_
            rotate_left
            · intro W hW; go_simp; with_reducible rfl
            try simp only [Act.put, List.setIfInBounds_toArray, List.set_cons_zero, List.set_cons_succ]
            refine wpAnyH_take (i := 7) (oi := ⟨some 47, _, _, _, _, _⟩) (v := ?_) rfl (by kernel_rfl) (by kernel_rfl) (by kernel_rfl) (fun _ _ _ h => h) (Or.inl ⟨by rfl, ?_⟩) hS ?_
            rotate_left
            · intro W hW; go_simp; with_reducible rfl
            try simp only [Act.put, List.setIfInBounds_toArray, List.set_cons_zero, List.set_cons_succ]
            refine wpAnyH_take (i := 8) (oi := ⟨some 48, _, _, _, _, _⟩) (v := ?_) rfl (by kernel_rfl) (by kernel_rfl) (by kernel_rfl) (fun _ _ _ h => h) (Or.inl ⟨by rfl, ?_⟩) hS ?_
            rotate_left
            · intro W hW; go_simp; with_reducible rfl
            try simp only [Act.put, List.setIfInBounds_toArray, List.set_cons_zero, List.set_cons_succ]
            refine wpAnyH_ready (rs := [9]) (by kernel_rfl) (by simp) ?_
            refine AllReadyH.cons (o := ⟨some 49, _, _, _, _, _⟩) rfl (fun Kr hKr => ?_) AllReadyH.nil
            -- operation 9: a call
            go_simp
            refine (laid_any zA 32 zk pd (by omega) gl _ HGL.out HDJ.out).mono ?_
            rintro e V0 ⟨rfl, hd0, hg0, hv⟩
            rw [HPF.out] at hd0
            have HD0 := Lib.hid hd0
            have HO0 := Lib.hid (HOd.out.below hv)
            clear hd0 hg0
            show Kr _ _
            refine hKr.out _ _ ?_ (fun _ => ?_)
            · exact Turn.trans hS (Turn.ofBelow hv)
            clear hKr Kr
            replace hS : Turn (fun q => q = gB) wk V0 := Turn.trans hS (Turn.ofBelow hv)
            try simp only [Act.put, List.setIfInBounds_toArray, List.set_cons_zero, List.set_cons_succ]
            refine wpAnyH_take (i := 10) (oi := ⟨some 50, _, _, _, _, _⟩) (v := ?_) rfl (by kernel_rfl) (by kernel_rfl) (by kernel_rfl) (fun _ _ _ h => h) (Or.inl ⟨by rfl, ?_⟩) hS ?_
            rotate_left
            · intro W hW; go_simp; with_reducible rfl
            try simp only [Act.put, List.setIfInBounds_toArray, List.set_cons_zero, List.set_cons_succ]
            refine wpAnyH_take (i := 11) (oi := ⟨some 51, _, _, _, _, _⟩) (v := ?_) rfl (by kernel_rfl) (by kernel_rfl) (by kernel_rfl) (fun _ _ _ h => h) (Or.inl ⟨by rfl, ?_⟩) hS ?_
            rotate_left
            · intro W hW; go_simp; with_reducible rfl
            try simp only [Act.put, List.setIfInBounds_toArray, List.set_cons_zero, List.set_cons_succ]
            refine wpAnyH_ready (rs := [12]) (by kernel_rfl) (by simp) ?_
            refine AllReadyH.cons (o := ⟨none, _, _, _, _, _⟩) rfl (fun Kr hKr => ?_) AllReadyH.nil
            -- operation 12: a step
            refine Rk.wp_store_elem rv_oko (.tmp 51) (.tmp 50) rfl (i := i) (⟨pc, px, ⟨some ⟨gl, 0, none⟩, 32, 32⟩⟩ : Vr) (veV pc px (some ⟨gl, 0, none⟩) 32 32) rfl rfl rfl HO0.out HLS.out hi2 ?_
            intro wS hoS hgS
            have HOS := Lib.hid hoS
            have HT0 := Lib.hid (show Turn (fun q => q = gB) V0 wS from (Turn.refl _ _).grown hgS (fun q e => .inl (by injection e with e; exact e.symm)))
            clear hoS
            show Kr _ _
            refine hKr.out _ _ ?_ (fun _ => ?_)
            · exact Turn.trans hS HT0.out
            clear hKr Kr
            replace hS : Turn (fun q => q = gB) wk wS := Turn.trans hS HT0.out
            try simp only [Act.put, List.setIfInBounds_toArray, List.set_cons_zero, List.set_cons_succ]
            refine wpAnyH_done (by kernel_rfl) ?_ _
            have HTS := Lib.hid hS
            clear hS
            go_wp2_with fail
            exact ⟨⟨i + 1, _, rfl, hi2, HOS, Lib.hid (HDk.out.step HTS.out HT0.out (by have := HNN.out; omega) (by rw [HPP.out]; exact ⟨rfl, rfl⟩) (by rw [HPP.out]; exact HD0.out) (fun q o e => by injection e with e; injection e with e; have := HGL2.out; omega)), Lib.hid (HTk.out.trans HTS.out)⟩, by simp [intOf]; omega⟩
          · obtain rfl : i = m := by omega
            have hd4 : decide ((i : Int) < (i : Int)) = false := decide_eq_false (by omega)
            have hd5 : decide (i < i) = false := decide_eq_false (by omega)
            have HKi := HKr.out.turn HTi.out (by have := HNN.out; omega)
            have HRi := HRr.out.turn HTi.out (by have := HNN.out; omega)
            have k0 := HKi.v0
            have k1 := HKi.v1
            have z0 : wr.cell? ⟨w.heap.size + 1, 0, none⟩ = some (.slice none 0 0) := HRi.c 0 _ rfl
            have z1 : wr.cell? ⟨w.heap.size + 1, 1, none⟩ = some (.slice none 0 0) := HRi.c 1 _ rfl
            have f0 := HRi.fr 0
            have f1 := HRi.fr 1
            have HBE := Lib.hid hBr
            clear HKi HRi hBr
            go_wp2_with fail
            have hT8 := ((Turn.refl (fun q => q = w.heap.size + 1) wr).setCell ⟨w.heap.size + 1, 0, none⟩ (.slice (some ⟨gA, 0, none⟩) j j) (.inl rfl)).setCell ⟨w.heap.size + 1, 1, none⟩ (.slice (some ⟨gB, 0, none⟩) i i) (.inl rfl)
            have hTw : Tow wr lo hi (some ⟨gA, 0, none⟩) j j (some ⟨gB, 0, none⟩) i i t ss vs := ⟨HOA2.out.turn HTi.out (fun k e h => by injection e with e; have e : gA = k := e; have := HNN.out; omega), HOi.out, HKB.out, HKV.out, fun g o h p e1 e2 => by injection e1 with e1; injection e1 with e1; injection e2 with e2; injection e2 with e2; have := HNN.out; omega,
              fun g o e1 => by injection e1 with e1; injection e1 with e1; have := HNN.out; omega, fun g o e1 => by injection e1 with e1; injection e1 with e1; have := HNN.out; omega,
              fun k s e => (HDj.out.turn HTi.out (fun q h => by have := HNN.out; omega)) k s (by have h1 := (List.getElem?_eq_some_iff.1 e).1; rw [own_len rb_ok HOA2.out] at h1; exact h1) e,
              fun k r e => HDi.out k r (by have h1 := (List.getElem?_eq_some_iff.1 e).1; rw [own_len rv_oko HOi.out] at h1; exact h1) e, ⟨gA, rfl⟩⟩
            refine bodyPost_ret (v := vtV (some ⟨gA, 0, none⟩) j j (some ⟨gB, 0, none⟩) i i) (by rw [results_cell_one rfl]; go_simp) rfl ⟨lo, hi, some ⟨gA, 0, none⟩, some ⟨gB, 0, none⟩, ss, vs, rfl, hTw.turn hT8 (fun q h => by have := HNN.out; omega) (by have := HNN.out; omega), by have := HNN.out; omega, by have := HNN.out; omega, Nat.le_trans (show lo ≤ wr.heap.size by have h1 := HNN.out; have h2 := HSZr.out; have h3 := HTi.out.size; omega) hT8.size, (HBE.out.setCell (show w.heap.size ≤ w.heap.size + 1 from by omega) _).setCell (show w.heap.size ≤ w.heap.size + 1 from by omega) _⟩
end Go.Proofs.Ytmhnjmfcenbogaa
