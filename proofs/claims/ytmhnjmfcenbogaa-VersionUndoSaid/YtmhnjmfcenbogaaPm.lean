/-
  A block written.
-/
import Derived.Test.YtmhnjmfcenbogaaPl
import Derived.Test.YtmhnjmfcenbogaaPj
import Derived.Lib.MinMax
namespace Go.Proofs.Ytmhnjmfcenbogaa
set_option maxRecDepth 100000
set_option linter.unusedVariables false
set_option linter.unusedSimpArgs false
open Go.RowKit Go.Shelf

theorem wp_build_ve {W : World} {o : Oper} {a : Act} {K : Act → World → Prop} {Q : Exit → Act → World → Prop} (x : Operand) (ho : o.op = .buildSlice 28 1 #[(0, x)]) (b y : Int) (A : Option Addr) (n c : Nat) (hx : a.eval x = veV b y A n c)
    (h : ∀ w' h', W.heap.size ≤ h' → h' < w'.heap.size → RVo.At w' (some ⟨h', 0, none⟩) [⟨b, y, ⟨A, n, c⟩⟩] → Below W.heap.size W w' → K (a.put o.dst (.slice (some ⟨h', 0, none⟩) 1 1)) w') : o.wp Try.prog a W K Q := by
  unfold Oper.wp execOp
  simp only [ho, List.map_toArray, List.map_cons, List.map_nil, hx]
  go_simp
  exact h _ _ (Nat.le_refl _) (by simp) (ve_at W b y A n c _ rfl) (below_new W _)
theorem tx_cut {D : Option Addr} {N d : Nat} {W : World} {l : List Tx} (h : TxAt W D l) (hd : N ≤ d) : (∀ V : World, (Instr.slice 24 (.slice D N d) none (some (.int .i64 (N : Int))) none).run Try.prog V = .ok (.slice D N d) V) ∧
    (∀ V : World, (Instr.sliceAt 24 (.slice D N d) none (some (.int .i64 (N : Int))) none).run Try.prog V = .ok (.slice D N d) V) := by
  have hrun : ∀ V : World, (Instr.slice 24 (.slice D N d) none (some (.int .i64 (N : Int))) none).run Try.prog V = .ok (.slice D N d) V := fun V => by
    rw [run_slice_h V 24 D N d Try.underlying24 .i64 (N : Int) (by omega) (by omega), show (Go.sizeOf (Try.prog.elem 24)).run Try.prog V = .ok 4 V from Try.sizeOf38 V]
    simp only [Result.andThen, Int.toNat_natCast]
    unfold sliced
    by_cases e : d = 0
    · rw [if_pos e]; rfl
    · rw [if_neg e]
      rcases h with ⟨rfl, _⟩ | ⟨b, rfl, _⟩
      · rfl
      · rw [Nat.zero_mul, Option.map_some, addr_add]; rfl
  exact ⟨hrun, fun V => by rw [run_sliceAt_slice V 24 _ _ _ _ Try.underlying24, hrun V]⟩
theorem Bk.put0 {W : World} {g : Nat} {a b : Value} {t : TypeId} (h : Bk W g #[a, b] t) (x : Value) : Bk (W.setCell ⟨g, 0, none⟩ x) g #[x, b] t := heap_setCell_same W g 0 #[a, b] t x h
theorem Bk.put1 {W : World} {g : Nat} {a b : Value} {t : TypeId} (h : Bk W g #[a, b] t) (x : Value) : Bk (W.setCell ⟨g, 1, none⟩ x) g #[a, x] t := heap_setCell_same W g 1 #[a, b] t x h

/-- a table whose bytes all lie in new memory -/
structure VtNew (lo : Nat) (W : World) (A : Option Addr) (n a : Nat) (B : Option Addr) (m b : Nat) (t : Vt) : Prop where
  base : ∃ ss, BasAt W A n t.B ss ∧ ∀ s ∈ ss, ∀ q o, s.A = some ⟨q, o, none⟩ → lo ≤ q
  vers : ∃ vs, VrsAt RVo W B m t.L vs ∧ ∀ r ∈ vs, ∀ q o, r.s.A = some ⟨q, o, none⟩ → lo ≤ q
  na : n ≤ a
  sa : a = 0 ∨ Sp A
  mb : m ≤ b
  sb : b = 0 ∨ Sp B
section
variable {lo : Nat} {W V : World} {A B : Option Addr} {n a m b : Nat} {t : Vt}
theorem VtNew.vt (h : VtNew lo W A n a B m b t) : VtAt RVo W A n a B m b t := by
  obtain ⟨ss, h1, _⟩ := h.base
  obtain ⟨vs, h2, _⟩ := h.vers
  exact ⟨⟨ss, h1⟩, ⟨vs, h2⟩, h.na, h.sa, h.mb, h.sb⟩
theorem VtNew.below (h : VtNew lo W A n a B m b t) (hb : Below W.heap.size W V) : VtNew lo V A n a B m b t := by
  obtain ⟨ss, h1, k1⟩ := h.base
  obtain ⟨vs, h2, k2⟩ := h.vers
  exact ⟨⟨ss, h1.below hb, k1⟩, ⟨vs, h2.below hb, k2⟩, h.na, h.sa, h.mb, h.sb⟩
theorem VtNew.off {g : Nat} {cs : Array Value} {ty : TypeId} (h : VtNew lo W A n a B m b t) (hg : Bk W g cs ty) (hb : ∀ (j : Nat) (z : UInt8), cs[j]? ≠ some (byV z)) (ha : Away A B g) (hT : Turn (fun q => q = g) W V) : VtNew lo V A n a B m b t := by
  obtain ⟨ss, h1, k1⟩ := h.base
  obtain ⟨vs, h2, k2⟩ := h.vers
  refine ⟨⟨ss, ⟨h1.k, h1.l, h1.at_.turn hT (fun b o e => .inr (ha.1 b o e)), fun i s d e1 e2 => ?_⟩, k1⟩, ⟨vs, ⟨h2.k, h2.l, h2.at_.turn hT (fun b o e => .inr (ha.2 b o e)), fun i r v e1 e2 => ?_⟩, k2⟩, h.na, h.sa, h.mb, h.sb⟩
  · have h3 := h1.d i s d e1 e2
    exact h3.turn hT (dat_off h3.at_ hg hb)
  · obtain ⟨q1, q2, h3⟩ := h2.d i r v e1 e2
    exact ⟨q1, q2, h3.turn hT (dat_off h3.at_ hg hb)⟩
/-- an elder block turns -/
theorem VtNew.turn {S : Nat → Prop} (h : VtNew lo W A n a B m b t) (hT : Turn S W V) (hS : ∀ q, S q → q < lo) (ha : ∀ q, S q → Away A B q) : VtNew lo V A n a B m b t := by
  obtain ⟨ss, h1, k1⟩ := h.base
  obtain ⟨vs, h2, k2⟩ := h.vers
  refine ⟨⟨ss, ⟨h1.k, h1.l, h1.at_.turn hT (fun b o e => .inr (fun hs => (ha b hs).1 b o e rfl)), fun i s d e1 e2 => ?_⟩, k1⟩, ⟨vs, ⟨h2.k, h2.l, h2.at_.turn hT (fun b o e => .inr (fun hs => (ha b hs).2 b o e rfl)), fun i r v e1 e2 => ?_⟩, k2⟩, h.na, h.sa, h.mb, h.sb⟩
  · exact (h1.d i s d e1 e2).turn hT (fun q o e => .inr fun hs => by have h5 := k1 s (List.mem_of_getElem? e1) q o e; have h6 := hS q hs; omega)
  · obtain ⟨q1, q2, h3⟩ := h2.d i r v e1 e2
    exact ⟨q1, q2, h3.turn hT (fun q o e => .inr fun hs => by have h5 := k2 r (List.mem_of_getElem? e1) q o e; have h6 := hS q hs; omega)⟩
end
def WriteNew (t : Vt) (T : Tr) (x k : Int) (d : List UInt8) (w : World) (e : Ending) (w' : World) : Prop :=
  Below w.heap.size w w' ∧ ((askV t T x k = 0 ∧ ∃ A n a B m b, (∀ g, g < w.heap.size ∨ w'.heap.size ≤ g → Away A B g) ∧ e = .returned (.tuple #[vtV A n a B m b, .int .i64 0]) ∧ VtNew w.heap.size w' A n a B m b ⟨t.B, putV ⟨k, x, padV d⟩ t.L⟩) ∨
    (askV t T x k ≠ 0 ∧ e = .returned (.tuple #[vtV none 0 0 none 0 0, .int .i64 (askV t T x k)])))

set_option maxHeartbeats 4000000 in
theorem write_new : ∀ (A B : Option Addr) (n a m b : Nat) (t : Vt) (D : Option Addr) (N d : Nat) (c : Int) (T : Tr) (x k : Int) (s : Sl) (l : List UInt8) (w : World),
    VtAt RVo w A n a B m b t → SanV t → t.L.length ≤ 1000 → TxAt w D T.l → Good T → T.c = c → c ≤ 900 → T.l.length = N → N ≤ d → okI x → okI k → DatAt w s l → l.length ≤ 32 →
      Calls Try.prog 10 #[vtV A n a B m b, .agg (txC2 D N d c), .int .i64 x, .int .i64 k, s.v] w (WriteNew t T x k l w) := by
  intro A B n a m b t D N d c T x k s l w ht hs hl hr hG hTc hc9 hN hNd hx hk hd h32
  obtain ⟨DA, dn, dc⟩ := s
  have hdn : l.length = dn := hd.n
  have hN64 : N ≤ 64 := by have := hG.n; omega
  obtain ⟨hcut, hcut2⟩ := tx_cut hr hNd
  obtain ⟨w1, hw1⟩ : ∃ q, q = ((w.alloc (.cells (vtC A n a B m b) 30)).alloc (.cells (txC2 D N d c) 26)).alloc (.cells (vtC none 0 0 none 0 0) 30) := ⟨_, rfl⟩
  have HB1 := Lib.hid (show Below w.heap.size w w1 by rw [hw1]; exact below_two (below_two (below_new w _) (below_new _ _)) (below_new _ _))
  have h5 : Bk w1 w.heap.size (vtC A n a B m b) 30 := by rw [hw1]; exact ((Bk.new w _ _).al _).al _
  have h6 : Bk w1 (w.heap.size + 1) (txC2 D N d c) 26 := by
    rw [hw1]
    have h := Bk.new (w.alloc (.cells (vtC A n a B m b) 30)) (txC2 D N d c) 26
    rw [size_al] at h; exact h.al _
  have h10 : Bk w1 (w.heap.size + 1 + 1) (vtC none 0 0 none 0 0) 30 := by
    rw [hw1]
    have h := Bk.new ((w.alloc (.cells (vtC A n a B m b) 30)).alloc (.cells (txC2 D N d c) 26)) (vtC none 0 0 none 0 0) 30
    rw [size_al, size_al] at h; exact h
  have HT := Lib.hid ht
  have HS := Lib.hid hs
  have HL := Lib.hid hl
  have HR := Lib.hid hr
  have HNN := Lib.hid hN
  have HD := Lib.hid hd
  have H32 := Lib.hid (show dn ≤ 32 by omega)
  have HLL := Lib.hid (show l.length ≤ 32 from h32)
  have H5 := Lib.hid h5
  have H6 := Lib.hid h6
  have H10 := Lib.hid h10
  have d1 : decide ((dn : Int) > 32) = false := decide_eq_false (by omega)
  have d2 : decide ((32 : Int) < (dn : Int)) = false := decide_eq_false (by omega)
  have d3 : decide (32 < dn) = false := decide_eq_false (by omega)
  have hmin : min (N : Int) 64 = (N : Int) := by omega
  have y0 : w1.cell? ⟨w.heap.size + 1, 0, none⟩ = some (.slice D N d) := h6.c 0 _ rfl
  have f0 := h6.fr 0
  clear ht hs hl hr hG hTc hc9 hN hNd hd h32 hdn h5 h6 h10 hN64
  go_enter Try.func10, Try.ntmps10
  go_upto_region 1 with fail
  rw [← hw1]
  clear hw1
  obtain ⟨g6, hg6⟩ : ∃ q, q = w.heap.size + 1 := ⟨_, rfl⟩
  obtain ⟨g10, hg10⟩ : ∃ q, q = w.heap.size + 1 + 1 := ⟨_, rfl⟩
  rw [← hg10] at H10 ⊢
  rw [← hg6] at H6 y0 f0 ⊢
  have HGG := Lib.hid (And.intro hg6 hg10)
  clear hg6 hg10
  go_upto_region 4 with fail
  have hT2 : Turn (fun q => q = g6) w1 (w1.setCell ⟨g6, 0, none⟩ (.slice D N d)) := (Turn.refl _ _).setCell _ _ (.inl rfl)
  have H62 := Lib.hid (H6.out.put0 (.slice D N d))
  have H52 := Lib.hid (H5.out.turn hT2 (by have := HGG.out; omega))
  have H102 := Lib.hid (H10.out.turn hT2 (by have := HGG.out; omega))
  have HB2 := Lib.hid (HB1.out.setCell (show w.heap.size ≤ (⟨g6, 0, none⟩ : Addr).block by have := HGG.out; show _ ≤ g6; omega) (.slice D N d))
  generalize w1.setCell ⟨g6, 0, none⟩ (.slice D N d) = w2 at *
  clear hT2 H6 H5 H10 HB1 y0 f0 hcut hcut2 hmin d1 d2 d3
  have x0 := H52.out.v0
  have x1 := H52.out.v1
  have y0 : w2.cell? ⟨g6, 0, none⟩ = some (.slice D N d) := H62.out.c 0 _ rfl
  have y1 : w2.cell? ⟨g6, 1, none⟩ = some (.int .i64 c) := H62.out.c 1 _ rfl
  go_wp2_with fail
  refine (asked_any A B n a m b t D N d c T x k w2 (HT.out.below HB2.out) HS.out HL.out (HR.out.below HB2.out) HNN.out).mono ?_
  rintro e w3 ⟨rfl, hb3⟩
  have H53 := Lib.hid (H52.out.below hb3)
  have H103 := Lib.hid (H102.out.below hb3)
  have HB3 := Lib.hid (HB2.out.trans (hb3.mono HB2.out.size))
  clear hb3 H52 H62 H102 HB2 x0 x1 y0 y1
  obtain ⟨E, hE⟩ : ∃ E, askV t T x k = E := ⟨_, rfl⟩
  have HE := Lib.hid hE
  rw [hE]
  clear hE
  by_cases e0 : E = 0
  · subst e0
    have x0 := H53.out.v0
    have x1 := H53.out.v1
    go_wp2_with fail
    refine (copied_any A B n a m b t w3 (HT.out.below HB3.out) HS.out HL.out).mono ?_
    rintro e w4 ⟨lo, hi, A4, B4, ss, vs, rfl, htow, hlo, hlh, _, hb4⟩
    have H54 := Lib.hid (H53.out.below hb4)
    have H104 := Lib.hid (H103.out.below hb4)
    have HB4 := Lib.hid (HB3.out.trans (hb4.mono HB3.out.size))
    have HLO := Lib.hid (And.intro (show w3.heap.size ≤ lo from hlo) hlh)
    have HG3 := Lib.hid (show w.heap.size < w3.heap.size ∧ g10 < w3.heap.size from ⟨H53.out.lt, H103.out.lt⟩)
    have HTW := Lib.hid htow
    have hb4s : w3.heap.size ≤ w4.heap.size := hb4.size
    have z0 := H54.out.v0
    have z1 := H54.out.v1
    have f0 := H54.out.fr 0
    have f1 := H54.out.fr 1
    clear htow hlo hlh hb4 H53 H103 HB3 x0 x1
    go_upto_region 8 with fail
    have hT5 := Turn.two (W := w4) w.heap.size (.slice A4 n n) (.slice B4 m m)
    have H55 := Lib.hid (H54.out.two (.slice A4 n n) (.slice B4 m m))
    have H105 := Lib.hid (H104.out.turn hT5 (by have := HGG.out; omega))
    have HTW5 := Lib.hid (HTW.out.turn hT5 (fun q h => by have h1 := HLO.out.1; have h2 := HG3.out; omega) HLO.out.2)
    have HB5 := Lib.hid (HB4.out.trans (hT5.below (B := w.heap.size) (fun q h => by omega) HB4.out.size))
    have HSZ5 := Lib.hid (show w3.heap.size ≤ ((w4.setCell ⟨w.heap.size, 0, none⟩ (.slice A4 n n)).setCell ⟨w.heap.size, 1, none⟩ (.slice B4 m m)).heap.size from Nat.le_trans hb4s hT5.size)
    generalize (w4.setCell ⟨w.heap.size, 0, none⟩ (.slice A4 n n)).setCell ⟨w.heap.size, 1, none⟩ (.slice B4 m m) = w5 at *
    clear hT5 z0 z1 f0 f1 H54 H104 HTW HB4 hb4s
    have k1 : ∀ V, Since w5 V → V.cell? ⟨w.heap.size, 1, none⟩ = some (.slice B4 m m) := fun V hV => (H55.out.below hV).v1
    obtain ⟨gl, hgl⟩ : ∃ q, w5.heap.size = q := ⟨_, rfl⟩
    have HGL := Lib.hid (show (World.drew w5).heap.size = gl from hgl)
    have HPL := Lib.hid (show (padV l).length = 32 from padV_len HLL.out)
    have HDD := Lib.hid (show DatAt (World.drew w5) ⟨DA, dn, dc⟩ l from (HD.out.below HB5.out).below ((Below.refl _ _).drew))
    have HVS := Lib.hid (show VrsAt RVo w5 B4 m t.L vs from by
      have h2 := own_parts rv_oko HTW5.out.ov (own_len rv_oko HTW5.out.ov)
      exact ⟨HTW5.out.kv, own_len rv_oko HTW5.out.ov, h2.1, fun i r v e1 e2 => by
        have h3 := HTW5.out.dv i r e1
        rw [List.getD_eq_getElem?_getD, e2] at h3
        exact ⟨h3.1.1, h3.1.2, h3.2.1⟩⟩)
    have HSPB := Lib.hid (show m ≤ 1000 ∧ (m = 0 ∨ Sp B4) from ⟨by rw [← HTW5.out.kv]; exact HL.out, .inr (own_parts rv_oko HTW5.out.ov (own_len rv_oko HTW5.out.ov)).2.2.1⟩)
    clear hgl
    refine wp_region_turn (X := (fun q => q = w.heap.size)) (by kernel_rfl) ?_
    have hS : Turn (fun q => q = w.heap.size) w5 (World.drew w5) := (Turn.refl _ _).drew
    refine wpAnyH_take (i := 0) (oi := ⟨some 36, _, _, _, _, _⟩) (v := ?_) rfl (by kernel_rfl) (by kernel_rfl) (by kernel_rfl) (fun _ _ _ h => h) (Or.inl ⟨by rfl, ?_⟩) hS ?_
    rotate_left
    · intro W hW; go_simp; with_reducible rfl
    try simp only [Act.put, List.setIfInBounds_toArray, List.set_cons_zero, List.set_cons_succ]
    refine wpAnyH_take (i := 2) (oi := ⟨some 38, _, _, _, _, _⟩) (v := ?_) rfl (by kernel_rfl) (by kernel_rfl) (by kernel_rfl) (fun _ _ _ h => h) (Or.inl ⟨by rfl, ?_⟩) hS ?_
    rotate_left
    · intro W hW; go_simp; with_reducible rfl
    try simp only [Act.put, List.setIfInBounds_toArray, List.set_cons_zero, List.set_cons_succ]
    refine wpAnyH_take (i := 3) (oi := ⟨some 39, _, _, _, _, _⟩) (v := ?_) rfl (by kernel_rfl) (by kernel_rfl) (by kernel_rfl) (fun _ _ _ h => h) (Or.inl ⟨by rfl, ?_⟩) hS ?_
    rotate_left
    · intro W hW; go_simp; with_reducible rfl
    try simp only [Act.put, List.setIfInBounds_toArray, List.set_cons_zero, List.set_cons_succ]
    refine wpAnyH_take (i := 4) (oi := ⟨some 40, _, _, _, _, _⟩) (v := ?_) rfl (by kernel_rfl) (by kernel_rfl) (by kernel_rfl) (fun _ _ _ h => h) (Or.inl ⟨by rfl, ?_⟩) hS ?_
    rotate_left
    · intro W hW; go_simp; with_reducible rfl
    try simp only [Act.put, List.setIfInBounds_toArray, List.set_cons_zero, List.set_cons_succ]
    refine wpAnyH_ready (rs := [1, 5]) (by kernel_rfl) (by simp) ?_
    refine AllReadyH.cons (o := ⟨some 37, _, _, _, _, _⟩) rfl (fun Kr hKr => ?_) (AllReadyH.cons (o := ⟨some 41, _, _, _, _, _⟩) rfl (fun Kr hKr => ?_) AllReadyH.nil)
    · skip
      -- operation 1: a step
      first | (have k1c : (World.drew w5).cell? ⟨w.heap.size, 1, none⟩ = some (.slice B4 m m) := k1 _ ((Below.refl _ _).drew)) | skip
      go_simp
      show Kr _ _
      refine hKr.out _ _ ?_ (fun _ => ?_)
      · exact hS
      clear hKr Kr
      try simp only [Act.put, List.setIfInBounds_toArray, List.set_cons_zero, List.set_cons_succ]
      refine wpAnyH_ready (rs := [5]) (by kernel_rfl) (by simp) ?_
      refine AllReadyH.cons (o := ⟨some 41, _, _, _, _, _⟩) rfl (fun Kr hKr => ?_) AllReadyH.nil
      -- operation 5: a call
      go_simp
      refine (laid_any DA dn dc l H32.out gl _ HGL.out HDD.out).mono ?_
      rintro e V0 ⟨rfl, hd0, hg0, hv⟩
      have HD0 := Lib.hid hd0
      have HV0 := Lib.hid (show Since w5 V0 from since_trans (Below.refl _ _).drew hv)
      have k1b : V0.cell? ⟨w.heap.size, 1, none⟩ = some (.slice B4 m m) := k1 V0 HV0.out
      clear hd0 hg0
      show Kr _ _
      refine hKr.out _ _ ?_ (fun _ => ?_)
      · exact Turn.trans hS (Turn.ofBelow hv)
      clear hKr Kr
      replace hS : Turn (fun q => q = w.heap.size) w5 V0 := Turn.trans hS (Turn.ofBelow hv)
      try simp only [Act.put, List.setIfInBounds_toArray, List.set_cons_zero, List.set_cons_succ]
      refine wpAnyH_take (i := 6) (oi := ⟨some 42, _, _, _, _, _⟩) (v := ?_) rfl (by kernel_rfl) (by kernel_rfl) (by kernel_rfl) (fun _ _ _ h => h) (Or.inl ⟨by rfl, ?_⟩) hS ?_
      rotate_left
      · intro W hW; go_simp; with_reducible rfl
      try simp only [Act.put, List.setIfInBounds_toArray, List.set_cons_zero, List.set_cons_succ]
      refine wpAnyH_ready (rs := [7]) (by kernel_rfl) (by simp) ?_
      refine AllReadyH.cons (o := ⟨some 43, _, _, _, _, _⟩) rfl (fun Kr hKr => ?_) AllReadyH.nil
      -- operation 7: a step
      refine wp_build_ve (.tmp 42) rfl k x (some ⟨gl, 0, none⟩) 32 32 rfl ?_
      intro V1 gv hgv hgv2 hav hv1
      have HAV := Lib.hid hav
      have HV1 := Lib.hid (since_trans HV0.out hv1)
      have HD1 := Lib.hid (HD0.out.below hv1)
      have k1d : V1.cell? ⟨w.heap.size, 1, none⟩ = some (.slice B4 m m) := k1 V1 HV1.out
      clear hav hgv hgv2
      show Kr _ _
      refine hKr.out _ _ ?_ (fun _ => ?_)
      · exact Turn.trans hS (Turn.ofBelow hv1)
      clear hKr Kr
      replace hS : Turn (fun q => q = w.heap.size) w5 V1 := Turn.trans hS (Turn.ofBelow hv1)
      try simp only [Act.put, List.setIfInBounds_toArray, List.set_cons_zero, List.set_cons_succ]
      refine wpAnyH_ready (rs := [8]) (by kernel_rfl) (by simp) ?_
      refine AllReadyH.cons (o := ⟨some 44, _, _, _, _, _⟩) rfl (fun Kr hKr => ?_) AllReadyH.nil
      -- operation 8: a call
      go_simp
      refine (with_any B4 (some ⟨gv, 0, none⟩) m m 1 1 t.L [⟨k, x, padV l⟩] vs [⟨k, x, ⟨some ⟨gl, 0, none⟩, 32, 32⟩⟩] HSPB.out.1 (by omega) HS.out.up (List.pairwise_singleton ..) (Nat.le_refl _) HSPB.out.2 V1 (HVS.out.below HV1.out) ((Prs.one (r := ⟨k, x, ⟨some ⟨gl, 0, none⟩, 32, 32⟩⟩) (v := ⟨k, x, padV l⟩) rfl rfl HD1.out).vrs rfl HAV.out)).mono ?_
      rintro e V2 ⟨A6, n6, c6, vs6, rfl, hvs6, ho6, hv6, hpv⟩
      have HPV := Lib.hid hpv
      have HVS6 := Lib.hid hvs6
      have HO6 := Lib.hid ho6
      have HV2 := Lib.hid (since_trans HV1.out hv6)
      have k2 : V2.cell? ⟨w.heap.size, 1, none⟩ = some (.slice B4 m m) := k1 V2 HV2.out
      have f2 := (H55.out.below HV2.out).fr 1
      clear hvs6 ho6 hpv
      show Kr _ _
      refine hKr.out _ _ ?_ (fun _ => ?_)
      · exact Turn.trans hS (Turn.ofBelow hv6)
      clear hKr Kr
      replace hS : Turn (fun q => q = w.heap.size) w5 V2 := Turn.trans hS (Turn.ofBelow hv6)
      try simp only [Act.put, List.setIfInBounds_toArray, List.set_cons_zero, List.set_cons_succ]
      refine wpAnyH_take (i := 9) (oi := ⟨some 45, _, _, _, _, _⟩) (v := ?_) rfl (by kernel_rfl) (by kernel_rfl) (by kernel_rfl) (fun _ _ _ h => h) (Or.inl ⟨by rfl, ?_⟩) hS ?_
      rotate_left
      · intro W hW; go_simp; with_reducible rfl
      try simp only [Act.put, List.setIfInBounds_toArray, List.set_cons_zero, List.set_cons_succ]
      refine wpAnyH_ready (rs := [10]) (by kernel_rfl) (by simp) ?_
      refine AllReadyH.cons (o := ⟨none, _, _, _, _, _⟩) rfl (fun Kr hKr => ?_) AllReadyH.nil
      -- operation 10: a step
      try rw [if_pos (by kernel_rfl)]
      go_simp
      show Kr _ _
      refine hKr.out _ _ ?_ (fun _ => ?_)
      · exact hS.setCell _ _ (.inl rfl)
      clear hKr Kr
      replace hS : Turn (fun q => q = w.heap.size) w5 (V2.setCell ⟨w.heap.size, 1, none⟩ (.slice A6 n6 c6)) := hS.setCell _ _ (.inl rfl)
      try simp only [Act.put, List.setIfInBounds_toArray, List.set_cons_zero, List.set_cons_succ]
      refine wpAnyH_done (by kernel_rfl) ?_ _
      clear hS
      have hT7 : Turn (fun q => q = w.heap.size) V2 (V2.setCell ⟨w.heap.size, 1, none⟩ (.slice A6 n6 c6)) := (Turn.refl _ _).setCell _ _ (.inl rfl)
      have H57 := Lib.hid ((H55.out.below HV2.out).put1 (.slice A6 n6 c6))
      have H107 := Lib.hid ((H105.out.below HV2.out).turn hT7 (by have := HGG.out; omega))
      have HVSZ := Lib.hid (show w5.heap.size ≤ V1.heap.size ∧ V1.heap.size ≤ V2.heap.size from ⟨HV1.out.size, hv6.size⟩)
      have hpo := own_parts rv_oko HO6.out (own_len rv_oko HO6.out)
      have htw2 := (HTW5.out.below HV2.out)
      have hlo : w.heap.size ≤ hi := by have h1 := HLO.out; have h2 := HG3.out; omega
      have hvt : VtNew w.heap.size V2 A4 n n A6 n6 c6 ⟨t.B, putV ⟨k, x, padV l⟩ t.L⟩ := ⟨⟨ss, ⟨htw2.kb, own_len rb_ok htw2.ob, (own_parts rb_ok htw2.ob (own_len rb_ok htw2.ob)).1, fun i s d e1 e2 => by have h3 := (htw2.db i s e1).1; rw [List.getD_eq_getElem?_getD, e2] at h3; exact h3⟩, fun s hsm q o e => by obtain ⟨i, hi2, rfl⟩ := List.getElem_of_mem hsm; exact Nat.le_trans hlo ((htw2.db i _ (List.getElem?_eq_getElem hi2)).2 q o e)⟩, ⟨vs6, HVS6.out, fun r hrm q o e => by rcases HPV.out r hrm with h | h; (obtain ⟨i, hi2, rfl⟩ := List.getElem_of_mem h; exact Nat.le_trans hlo ((htw2.dv i _ (List.getElem?_eq_getElem hi2)).2.2 q o e)); (rw [List.mem_singleton.1 h] at e; injection e with e; injection e with e _; have h1 := HGL.out; have h2 : w5.heap.size = gl := h1; have h3 := HSZ5.out; have h4 := HG3.out; omega)⟩, Nat.le_refl _, htw2.vt.sa, hpo.2.1, .inr hpo.2.2.1⟩
      have HAW := Lib.hid (show ∀ g, (g < w3.heap.size ∨ V2.heap.size ≤ g) → Away A4 A6 g from fun g hg => ⟨(htw2.away (by have := HLO.out; omega)).1, fun b o e => by have h1 := hpo.2.2.2 b o e; have h2 := HVSZ.out; have h3 := HSZ5.out; omega⟩)
      have HVT := Lib.hid (hvt.off (H55.out.below HV2.out) vtc_by (HAW.out _ (by have := HG3.out; omega)) hT7)
      have HV3 := Lib.hid (show Below w.heap.size w (V2.setCell ⟨w.heap.size, 1, none⟩ (.slice A6 n6 c6)) from (HB5.out.trans (Below.mono HV2.out HB5.out.size)).setCell (Nat.le_refl _) _)
      have HVZ := Lib.hid hT7.size
      clear hvt htw2 hpo hlo hT7 k2 f2
      have x0 := H57.out.v0
      have x1 := H57.out.v1
      have z0 := H107.out.v0
      have z1 := H107.out.v1
      have f0 := H107.out.fr 0
      have f1 := H107.out.fr 1
      generalize V2.setCell ⟨w.heap.size, 1, none⟩ (.slice A6 n6 c6) = V3 at *
      go_wp2_with fail
      have hT10 := Turn.two (W := V3) g10 (.slice A4 n n) (.slice A6 n6 c6)
      refine bodyPost_ret (v := .tuple #[vtV A4 n n A6 n6 c6, .int .i64 0]) (by rw [results_cell_tmp rfl]; go_simp) rfl ⟨?_, .inl ⟨HE.out, A4, n, n, A6, n6, c6, ?_, rfl, ?_⟩⟩
      · exact HV3.out.trans (hT10.below (B := w.heap.size) (fun q h => by have := HGG.out; omega) HV3.out.size)
      · intro g hg; exact HAW.out g (by rcases hg with hg | hg; have := HG3.out; omega; have h1 := HVZ.out; have h2 := hT10.size; omega)
      · exact HVT.out.off H107.out vtc_by (HAW.out _ (by have := HG3.out; omega)) hT10
    · skip
      -- operation 5: a call
      go_simp
      refine (laid_any DA dn dc l H32.out gl _ HGL.out HDD.out).mono ?_
      rintro e V0 ⟨rfl, hd0, hg0, hv⟩
      have HD0 := Lib.hid hd0
      have HV0 := Lib.hid (show Since w5 V0 from since_trans (Below.refl _ _).drew hv)
      have k1b : V0.cell? ⟨w.heap.size, 1, none⟩ = some (.slice B4 m m) := k1 V0 HV0.out
      clear hd0 hg0
      show Kr _ _
      refine hKr.out _ _ ?_ (fun _ => ?_)
      · exact Turn.trans hS (Turn.ofBelow hv)
      clear hKr Kr
      replace hS : Turn (fun q => q = w.heap.size) w5 V0 := Turn.trans hS (Turn.ofBelow hv)
      try simp only [Act.put, List.setIfInBounds_toArray, List.set_cons_zero, List.set_cons_succ]
      refine wpAnyH_take (i := 6) (oi := ⟨some 42, _, _, _, _, _⟩) (v := ?_) rfl (by kernel_rfl) (by kernel_rfl) (by kernel_rfl) (fun _ _ _ h => h) (Or.inl ⟨by rfl, ?_⟩) hS ?_
      rotate_left
      · intro W hW; go_simp; with_reducible rfl
      try simp only [Act.put, List.setIfInBounds_toArray, List.set_cons_zero, List.set_cons_succ]
      refine wpAnyH_ready (rs := [1, 7]) (by kernel_rfl) (by simp) ?_
      refine AllReadyH.cons (o := ⟨some 37, _, _, _, _, _⟩) rfl (fun Kr hKr => ?_) (AllReadyH.cons (o := ⟨some 43, _, _, _, _, _⟩) rfl (fun Kr hKr => ?_) AllReadyH.nil)
      · skip
        -- operation 1: a step
        first | (have k1c : (World.drew w5).cell? ⟨w.heap.size, 1, none⟩ = some (.slice B4 m m) := k1 _ ((Below.refl _ _).drew)) | skip
        go_simp
        show Kr _ _
        refine hKr.out _ _ ?_ (fun _ => ?_)
        · exact hS
        clear hKr Kr
        try simp only [Act.put, List.setIfInBounds_toArray, List.set_cons_zero, List.set_cons_succ]
        refine wpAnyH_ready (rs := [7]) (by kernel_rfl) (by simp) ?_
        refine AllReadyH.cons (o := ⟨some 43, _, _, _, _, _⟩) rfl (fun Kr hKr => ?_) AllReadyH.nil
        -- operation 7: a step
        refine wp_build_ve (.tmp 42) rfl k x (some ⟨gl, 0, none⟩) 32 32 rfl ?_
        intro V1 gv hgv hgv2 hav hv1
        have HAV := Lib.hid hav
        have HV1 := Lib.hid (since_trans HV0.out hv1)
        have HD1 := Lib.hid (HD0.out.below hv1)
        have k1d : V1.cell? ⟨w.heap.size, 1, none⟩ = some (.slice B4 m m) := k1 V1 HV1.out
        clear hav hgv hgv2
        show Kr _ _
        refine hKr.out _ _ ?_ (fun _ => ?_)
        · exact Turn.trans hS (Turn.ofBelow hv1)
        clear hKr Kr
        replace hS : Turn (fun q => q = w.heap.size) w5 V1 := Turn.trans hS (Turn.ofBelow hv1)
        try simp only [Act.put, List.setIfInBounds_toArray, List.set_cons_zero, List.set_cons_succ]
        refine wpAnyH_ready (rs := [8]) (by kernel_rfl) (by simp) ?_
        refine AllReadyH.cons (o := ⟨some 44, _, _, _, _, _⟩) rfl (fun Kr hKr => ?_) AllReadyH.nil
        -- operation 8: a call
        go_simp
        refine (with_any B4 (some ⟨gv, 0, none⟩) m m 1 1 t.L [⟨k, x, padV l⟩] vs [⟨k, x, ⟨some ⟨gl, 0, none⟩, 32, 32⟩⟩] HSPB.out.1 (by omega) HS.out.up (List.pairwise_singleton ..) (Nat.le_refl _) HSPB.out.2 V1 (HVS.out.below HV1.out) ((Prs.one (r := ⟨k, x, ⟨some ⟨gl, 0, none⟩, 32, 32⟩⟩) (v := ⟨k, x, padV l⟩) rfl rfl HD1.out).vrs rfl HAV.out)).mono ?_
        rintro e V2 ⟨A6, n6, c6, vs6, rfl, hvs6, ho6, hv6, hpv⟩
        have HPV := Lib.hid hpv
        have HVS6 := Lib.hid hvs6
        have HO6 := Lib.hid ho6
        have HV2 := Lib.hid (since_trans HV1.out hv6)
        have k2 : V2.cell? ⟨w.heap.size, 1, none⟩ = some (.slice B4 m m) := k1 V2 HV2.out
        have f2 := (H55.out.below HV2.out).fr 1
        clear hvs6 ho6 hpv
        show Kr _ _
        refine hKr.out _ _ ?_ (fun _ => ?_)
        · exact Turn.trans hS (Turn.ofBelow hv6)
        clear hKr Kr
        replace hS : Turn (fun q => q = w.heap.size) w5 V2 := Turn.trans hS (Turn.ofBelow hv6)
        try simp only [Act.put, List.setIfInBounds_toArray, List.set_cons_zero, List.set_cons_succ]
        refine wpAnyH_take (i := 9) (oi := ⟨some 45, _, _, _, _, _⟩) (v := ?_) rfl (by kernel_rfl) (by kernel_rfl) (by kernel_rfl) (fun _ _ _ h => h) (Or.inl ⟨by rfl, ?_⟩) hS ?_
        rotate_left
        · intro W hW; go_simp; with_reducible rfl
        try simp only [Act.put, List.setIfInBounds_toArray, List.set_cons_zero, List.set_cons_succ]
        refine wpAnyH_ready (rs := [10]) (by kernel_rfl) (by simp) ?_
        refine AllReadyH.cons (o := ⟨none, _, _, _, _, _⟩) rfl (fun Kr hKr => ?_) AllReadyH.nil
        -- operation 10: a step
        try rw [if_pos (by kernel_rfl)]
        go_simp
        show Kr _ _
        refine hKr.out _ _ ?_ (fun _ => ?_)
        · exact hS.setCell _ _ (.inl rfl)
        clear hKr Kr
        replace hS : Turn (fun q => q = w.heap.size) w5 (V2.setCell ⟨w.heap.size, 1, none⟩ (.slice A6 n6 c6)) := hS.setCell _ _ (.inl rfl)
        try simp only [Act.put, List.setIfInBounds_toArray, List.set_cons_zero, List.set_cons_succ]
        refine wpAnyH_done (by kernel_rfl) ?_ _
        clear hS
        have hT7 : Turn (fun q => q = w.heap.size) V2 (V2.setCell ⟨w.heap.size, 1, none⟩ (.slice A6 n6 c6)) := (Turn.refl _ _).setCell _ _ (.inl rfl)
        have H57 := Lib.hid ((H55.out.below HV2.out).put1 (.slice A6 n6 c6))
        have H107 := Lib.hid ((H105.out.below HV2.out).turn hT7 (by have := HGG.out; omega))
        have HVSZ := Lib.hid (show w5.heap.size ≤ V1.heap.size ∧ V1.heap.size ≤ V2.heap.size from ⟨HV1.out.size, hv6.size⟩)
        have hpo := own_parts rv_oko HO6.out (own_len rv_oko HO6.out)
        have htw2 := (HTW5.out.below HV2.out)
        have hlo : w.heap.size ≤ hi := by have h1 := HLO.out; have h2 := HG3.out; omega
        have hvt : VtNew w.heap.size V2 A4 n n A6 n6 c6 ⟨t.B, putV ⟨k, x, padV l⟩ t.L⟩ := ⟨⟨ss, ⟨htw2.kb, own_len rb_ok htw2.ob, (own_parts rb_ok htw2.ob (own_len rb_ok htw2.ob)).1, fun i s d e1 e2 => by have h3 := (htw2.db i s e1).1; rw [List.getD_eq_getElem?_getD, e2] at h3; exact h3⟩, fun s hsm q o e => by obtain ⟨i, hi2, rfl⟩ := List.getElem_of_mem hsm; exact Nat.le_trans hlo ((htw2.db i _ (List.getElem?_eq_getElem hi2)).2 q o e)⟩, ⟨vs6, HVS6.out, fun r hrm q o e => by rcases HPV.out r hrm with h | h; (obtain ⟨i, hi2, rfl⟩ := List.getElem_of_mem h; exact Nat.le_trans hlo ((htw2.dv i _ (List.getElem?_eq_getElem hi2)).2.2 q o e)); (rw [List.mem_singleton.1 h] at e; injection e with e; injection e with e _; have h1 := HGL.out; have h2 : w5.heap.size = gl := h1; have h3 := HSZ5.out; have h4 := HG3.out; omega)⟩, Nat.le_refl _, htw2.vt.sa, hpo.2.1, .inr hpo.2.2.1⟩
        have HAW := Lib.hid (show ∀ g, (g < w3.heap.size ∨ V2.heap.size ≤ g) → Away A4 A6 g from fun g hg => ⟨(htw2.away (by have := HLO.out; omega)).1, fun b o e => by have h1 := hpo.2.2.2 b o e; have h2 := HVSZ.out; have h3 := HSZ5.out; omega⟩)
        have HVT := Lib.hid (hvt.off (H55.out.below HV2.out) vtc_by (HAW.out _ (by have := HG3.out; omega)) hT7)
        have HV3 := Lib.hid (show Below w.heap.size w (V2.setCell ⟨w.heap.size, 1, none⟩ (.slice A6 n6 c6)) from (HB5.out.trans (Below.mono HV2.out HB5.out.size)).setCell (Nat.le_refl _) _)
        have HVZ := Lib.hid hT7.size
        clear hvt htw2 hpo hlo hT7 k2 f2
        have x0 := H57.out.v0
        have x1 := H57.out.v1
        have z0 := H107.out.v0
        have z1 := H107.out.v1
        have f0 := H107.out.fr 0
        have f1 := H107.out.fr 1
        generalize V2.setCell ⟨w.heap.size, 1, none⟩ (.slice A6 n6 c6) = V3 at *
        go_wp2_with fail
        have hT10 := Turn.two (W := V3) g10 (.slice A4 n n) (.slice A6 n6 c6)
        refine bodyPost_ret (v := .tuple #[vtV A4 n n A6 n6 c6, .int .i64 0]) (by rw [results_cell_tmp rfl]; go_simp) rfl ⟨?_, .inl ⟨HE.out, A4, n, n, A6, n6, c6, ?_, rfl, ?_⟩⟩
        · exact HV3.out.trans (hT10.below (B := w.heap.size) (fun q h => by have := HGG.out; omega) HV3.out.size)
        · intro g hg; exact HAW.out g (by rcases hg with hg | hg; have := HG3.out; omega; have h1 := HVZ.out; have h2 := hT10.size; omega)
        · exact HVT.out.off H107.out vtc_by (HAW.out _ (by have := HG3.out; omega)) hT10
      · skip
        -- operation 7: a step
        refine wp_build_ve (.tmp 42) rfl k x (some ⟨gl, 0, none⟩) 32 32 rfl ?_
        intro V1 gv hgv hgv2 hav hv1
        have HAV := Lib.hid hav
        have HV1 := Lib.hid (since_trans HV0.out hv1)
        have HD1 := Lib.hid (HD0.out.below hv1)
        have k1d : V1.cell? ⟨w.heap.size, 1, none⟩ = some (.slice B4 m m) := k1 V1 HV1.out
        clear hav hgv hgv2
        show Kr _ _
        refine hKr.out _ _ ?_ (fun _ => ?_)
        · exact Turn.trans hS (Turn.ofBelow hv1)
        clear hKr Kr
        replace hS : Turn (fun q => q = w.heap.size) w5 V1 := Turn.trans hS (Turn.ofBelow hv1)
        try simp only [Act.put, List.setIfInBounds_toArray, List.set_cons_zero, List.set_cons_succ]
        refine wpAnyH_ready (rs := [1]) (by kernel_rfl) (by simp) ?_
        refine AllReadyH.cons (o := ⟨some 37, _, _, _, _, _⟩) rfl (fun Kr hKr => ?_) AllReadyH.nil
        -- operation 1: a step
        first | (have k1c : (World.drew w5).cell? ⟨w.heap.size, 1, none⟩ = some (.slice B4 m m) := k1 _ ((Below.refl _ _).drew)) | skip
        go_simp
        show Kr _ _
        refine hKr.out _ _ ?_ (fun _ => ?_)
        · exact hS
        clear hKr Kr
        try simp only [Act.put, List.setIfInBounds_toArray, List.set_cons_zero, List.set_cons_succ]
        refine wpAnyH_ready (rs := [8]) (by kernel_rfl) (by simp) ?_
        refine AllReadyH.cons (o := ⟨some 44, _, _, _, _, _⟩) rfl (fun Kr hKr => ?_) AllReadyH.nil
        -- operation 8: a call
        go_simp
        refine (with_any B4 (some ⟨gv, 0, none⟩) m m 1 1 t.L [⟨k, x, padV l⟩] vs [⟨k, x, ⟨some ⟨gl, 0, none⟩, 32, 32⟩⟩] HSPB.out.1 (by omega) HS.out.up (List.pairwise_singleton ..) (Nat.le_refl _) HSPB.out.2 V1 (HVS.out.below HV1.out) ((Prs.one (r := ⟨k, x, ⟨some ⟨gl, 0, none⟩, 32, 32⟩⟩) (v := ⟨k, x, padV l⟩) rfl rfl HD1.out).vrs rfl HAV.out)).mono ?_
        rintro e V2 ⟨A6, n6, c6, vs6, rfl, hvs6, ho6, hv6, hpv⟩
        have HPV := Lib.hid hpv
        have HVS6 := Lib.hid hvs6
        have HO6 := Lib.hid ho6
        have HV2 := Lib.hid (since_trans HV1.out hv6)
        have k2 : V2.cell? ⟨w.heap.size, 1, none⟩ = some (.slice B4 m m) := k1 V2 HV2.out
        have f2 := (H55.out.below HV2.out).fr 1
        clear hvs6 ho6 hpv
        show Kr _ _
        refine hKr.out _ _ ?_ (fun _ => ?_)
        · exact Turn.trans hS (Turn.ofBelow hv6)
        clear hKr Kr
        replace hS : Turn (fun q => q = w.heap.size) w5 V2 := Turn.trans hS (Turn.ofBelow hv6)
        try simp only [Act.put, List.setIfInBounds_toArray, List.set_cons_zero, List.set_cons_succ]
        refine wpAnyH_take (i := 9) (oi := ⟨some 45, _, _, _, _, _⟩) (v := ?_) rfl (by kernel_rfl) (by kernel_rfl) (by kernel_rfl) (fun _ _ _ h => h) (Or.inl ⟨by rfl, ?_⟩) hS ?_
        rotate_left
        · intro W hW; go_simp; with_reducible rfl
        try simp only [Act.put, List.setIfInBounds_toArray, List.set_cons_zero, List.set_cons_succ]
        refine wpAnyH_ready (rs := [10]) (by kernel_rfl) (by simp) ?_
        refine AllReadyH.cons (o := ⟨none, _, _, _, _, _⟩) rfl (fun Kr hKr => ?_) AllReadyH.nil
        -- operation 10: a step
        try rw [if_pos (by kernel_rfl)]
        go_simp
        show Kr _ _
        refine hKr.out _ _ ?_ (fun _ => ?_)
        · exact hS.setCell _ _ (.inl rfl)
        clear hKr Kr
        replace hS : Turn (fun q => q = w.heap.size) w5 (V2.setCell ⟨w.heap.size, 1, none⟩ (.slice A6 n6 c6)) := hS.setCell _ _ (.inl rfl)
        try simp only [Act.put, List.setIfInBounds_toArray, List.set_cons_zero, List.set_cons_succ]
        refine wpAnyH_done (by kernel_rfl) ?_ _
        clear hS
        have hT7 : Turn (fun q => q = w.heap.size) V2 (V2.setCell ⟨w.heap.size, 1, none⟩ (.slice A6 n6 c6)) := (Turn.refl _ _).setCell _ _ (.inl rfl)
        have H57 := Lib.hid ((H55.out.below HV2.out).put1 (.slice A6 n6 c6))
        have H107 := Lib.hid ((H105.out.below HV2.out).turn hT7 (by have := HGG.out; omega))
        have HVSZ := Lib.hid (show w5.heap.size ≤ V1.heap.size ∧ V1.heap.size ≤ V2.heap.size from ⟨HV1.out.size, hv6.size⟩)
        have hpo := own_parts rv_oko HO6.out (own_len rv_oko HO6.out)
        have htw2 := (HTW5.out.below HV2.out)
        have hlo : w.heap.size ≤ hi := by have h1 := HLO.out; have h2 := HG3.out; omega
        have hvt : VtNew w.heap.size V2 A4 n n A6 n6 c6 ⟨t.B, putV ⟨k, x, padV l⟩ t.L⟩ := ⟨⟨ss, ⟨htw2.kb, own_len rb_ok htw2.ob, (own_parts rb_ok htw2.ob (own_len rb_ok htw2.ob)).1, fun i s d e1 e2 => by have h3 := (htw2.db i s e1).1; rw [List.getD_eq_getElem?_getD, e2] at h3; exact h3⟩, fun s hsm q o e => by obtain ⟨i, hi2, rfl⟩ := List.getElem_of_mem hsm; exact Nat.le_trans hlo ((htw2.db i _ (List.getElem?_eq_getElem hi2)).2 q o e)⟩, ⟨vs6, HVS6.out, fun r hrm q o e => by rcases HPV.out r hrm with h | h; (obtain ⟨i, hi2, rfl⟩ := List.getElem_of_mem h; exact Nat.le_trans hlo ((htw2.dv i _ (List.getElem?_eq_getElem hi2)).2.2 q o e)); (rw [List.mem_singleton.1 h] at e; injection e with e; injection e with e _; have h1 := HGL.out; have h2 : w5.heap.size = gl := h1; have h3 := HSZ5.out; have h4 := HG3.out; omega)⟩, Nat.le_refl _, htw2.vt.sa, hpo.2.1, .inr hpo.2.2.1⟩
        have HAW := Lib.hid (show ∀ g, (g < w3.heap.size ∨ V2.heap.size ≤ g) → Away A4 A6 g from fun g hg => ⟨(htw2.away (by have := HLO.out; omega)).1, fun b o e => by have h1 := hpo.2.2.2 b o e; have h2 := HVSZ.out; have h3 := HSZ5.out; omega⟩)
        have HVT := Lib.hid (hvt.off (H55.out.below HV2.out) vtc_by (HAW.out _ (by have := HG3.out; omega)) hT7)
        have HV3 := Lib.hid (show Below w.heap.size w (V2.setCell ⟨w.heap.size, 1, none⟩ (.slice A6 n6 c6)) from (HB5.out.trans (Below.mono HV2.out HB5.out.size)).setCell (Nat.le_refl _) _)
        have HVZ := Lib.hid hT7.size
        clear hvt htw2 hpo hlo hT7 k2 f2
        have x0 := H57.out.v0
        have x1 := H57.out.v1
        have z0 := H107.out.v0
        have z1 := H107.out.v1
        have f0 := H107.out.fr 0
        have f1 := H107.out.fr 1
        generalize V2.setCell ⟨w.heap.size, 1, none⟩ (.slice A6 n6 c6) = V3 at *
        go_wp2_with fail
        have hT10 := Turn.two (W := V3) g10 (.slice A4 n n) (.slice A6 n6 c6)
        refine bodyPost_ret (v := .tuple #[vtV A4 n n A6 n6 c6, .int .i64 0]) (by rw [results_cell_tmp rfl]; go_simp) rfl ⟨?_, .inl ⟨HE.out, A4, n, n, A6, n6, c6, ?_, rfl, ?_⟩⟩
        · exact HV3.out.trans (hT10.below (B := w.heap.size) (fun q h => by have := HGG.out; omega) HV3.out.size)
        · intro g hg; exact HAW.out g (by rcases hg with hg | hg; have := HG3.out; omega; have h1 := HVZ.out; have h2 := hT10.size; omega)
        · exact HVT.out.off H107.out vtc_by (HAW.out _ (by have := HG3.out; omega)) hT10
  · have eb : (E == 0) = false := by simpa using e0
    have eb2 : (E != 0) = true := by simpa using e0
    have HE0 := Lib.hid e0
    clear e0
    have z0 := H103.out.v0
    have z1 := H103.out.v1
    have f0 := H103.out.fr 0
    have f1 := H103.out.fr 1
    go_wp2_with fail
    refine bodyPost_ret (v := .tuple #[vtV none 0 0 none 0 0, .int .i64 E]) (by rw [results_cell_tmp rfl]; go_simp) rfl ⟨?_, .inr ⟨by rw [HE.out]; exact HE0.out, by rw [HE.out]⟩⟩
    exact (HB3.out.setCell (show w.heap.size ≤ (⟨g10, 0, none⟩ : Addr).block by have := HGG.out; show _ ≤ g10; omega) _).setCell (show w.heap.size ≤ (⟨g10, 1, none⟩ : Addr).block by have := HGG.out; show _ ≤ g10; omega) _
theorem write_any : WriteOk := by
  intro A B n a m b t D N d c T x k s l w ht hs hl hr hG hTc hc9 hN hNd hx hk hd h32
  refine (write_new A B n a m b t D N d c T x k s l w ht hs hl hr hG hTc hc9 hN hNd hx hk hd h32).mono ?_
  rintro e w' ⟨hb, ⟨h0, A, n, a, B, m, b, haw, he, hv⟩ | ⟨h0, he⟩⟩
  · exact ⟨hb, .inl ⟨h0, A, n, a, B, m, b, fun g hg => haw g (by rcases hg with hg | hg; exact .inl hg.1; exact .inr hg), he, hv.vt⟩⟩
  · exact ⟨hb, .inr ⟨h0, he⟩⟩
end Go.Proofs.Ytmhnjmfcenbogaa
