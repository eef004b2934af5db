/-
  What one stands in: in another one, the top one, whether one is lost or fixed, whether a state may be.
-/
import Derived.Test.YtohnfjneghbceaaDeep
namespace Go.Proofs.Ytohnfjneghbceaa
set_option maxRecDepth 100000
set_option linter.unusedVariables false
open Go.RowKit Go.Shelf
attribute [local go_sem] Oper.semAt_some

theorem below_put {w W : World} (hB : Below w.heap.size w W) {D : Nat} (hD : w.heap.size ≤ D) (o : Obj) : Below w.heap.size w (W.putObj D o) :=
  hB.trans ((Turn.refl (fun k => k = D) W).grown (grownBy_putObj' W D o) (fun j e => by cases e; exact .inl rfl) |>.below (fun k e => by omega) hB.size)
theorem frozen_al {W : World} {a : Addr} {v : Value} (o : Obj) (h : W.cell? a = some v) {b : Bool} (hf : W.frozen? a = b) : (W.alloc o).frozen? a = b := (frozen_kept h (World.grownBy_alloc W o none) (fun r e => by cases e)).trans hf
theorem cell_put {W : World} {a : Addr} {v : Value} {D : Nat} {o : Obj} (h : W.cell? a = some v) (hK : W.heap[D]? = some (.deferred (some []))) : (W.putObj D o).cell? a = some v := cell_kept h (grownBy_putObj' _ D o) (fun r e => by cases e; exact ⟨_, hK, rfl⟩)

/-- in which order what has come stands on a way -/
theorem pre_mem {n : Nat} {pre : List (Id n)} {l : List Nat} (h : pre.map (·.val) <+: l) {y : Id n} (hy : y ∈ pre) : y.val ∈ l := h.subset (List.mem_map_of_mem hy)
theorem all_mem {n : Nat} {xs : List (Id n)} {l : List Nat} (h : xs.map (·.val) = l) {y : Nat} (hy : y ∈ l) : ∃ x ∈ xs, x.val = y := by rw [← h] at hy; simpa using hy

/-- does one stand in another one? -/
def Tr.stands (T : Tr) (i of : Int) : Bool := (T.way i).any fun x => decide ((x : Int) = of)
def Tr.top (T : Tr) (i : Int) : Int := match (T.way i).find? (fun x => decide ((T.tx x).p = -1)) with | some x => (x : Int) | none => -1
def Tr.lost (T : Tr) (i : Int) : Bool := (T.way i).any (fun x => decide ((T.tx x).s = 3)) || !decide (0 ≤ i ∧ i < (T.l.length : Int))
def Tr.fixed (T : Tr) (i : Int) : Bool := (T.way i).all (fun x => decide ((T.tx x).s = 2)) && decide (0 ≤ i ∧ i < (T.l.length : Int))

theorem stands_none {T : Tr} {n : Nat} {i of : Int} {xs : List (Id n)} (h : xs.map (·.val) = T.way i) (hp : ∀ y ∈ xs, (y.val : Int) ≠ of) : T.stands i of = false := by
  unfold Tr.stands
  rw [List.any_eq_false]
  intro y hy
  obtain ⟨x, hx, rfl⟩ := all_mem h hy
  simpa using hp x hx
theorem stands_some {T : Tr} {n : Nat} {i of : Int} {pre : List (Id n)} (h : pre.map (·.val) <+: T.way i) (hp : ∃ y ∈ pre, (y.val : Int) = of) : T.stands i of = true := by
  obtain ⟨y, hy, e⟩ := hp
  unfold Tr.stands
  rw [List.any_eq_true]
  exact ⟨y.val, pre_mem h hy, by simpa using e⟩
theorem lost_none {T : Tr} {N : Nat} {i : Int} {xs : List (Id N)} (hN : T.l.length = N) (h : xs.map (·.val) = T.way i) (hp : ∀ y ∈ xs, (T.tx (y : Id N).val).s ≠ 3) : T.lost i = !decide (0 ≤ i ∧ i < (N : Int)) := by
  unfold Tr.lost
  rw [hN]
  rw [show (T.way i).any (fun x => decide ((T.tx x).s = 3)) = false from by
    rw [List.any_eq_false]
    intro y hy
    obtain ⟨x, hx, rfl⟩ := all_mem h hy
    simpa using hp x hx]
  rw [Bool.false_or]
theorem lost_some {T : Tr} {N : Nat} {i : Int} {pre : List (Id N)} (h : pre.map (·.val) <+: T.way i) (hp : ∃ y ∈ pre, (T.tx (y : Id N).val).s = 3) : T.lost i = true := by
  obtain ⟨y, hy, e⟩ := hp
  unfold Tr.lost
  rw [show (T.way i).any (fun x => decide ((T.tx x).s = 3)) = true from by
    rw [List.any_eq_true]
    exact ⟨y.val, pre_mem h hy, by simpa using e⟩]
  rw [Bool.true_or]
theorem fixed_none {T : Tr} {N : Nat} {i : Int} {xs : List (Id N)} (hN : T.l.length = N) (h : xs.map (·.val) = T.way i) (hp : ∀ y ∈ xs, (T.tx (y : Id N).val).s = 2) : T.fixed i = decide (0 ≤ i ∧ i < (N : Int)) := by
  unfold Tr.fixed
  rw [hN]
  rw [show (T.way i).all (fun x => decide ((T.tx x).s = 2)) = true from by
    rw [List.all_eq_true]
    intro y hy
    obtain ⟨x, hx, rfl⟩ := all_mem h hy
    simpa using hp x hx]
  rw [Bool.true_and]
theorem fixed_some {T : Tr} {N : Nat} {i : Int} {pre : List (Id N)} (h : pre.map (·.val) <+: T.way i) (hp : ∃ y ∈ pre, (T.tx (y : Id N).val).s ≠ 2) : T.fixed i = false := by
  obtain ⟨y, hy, e⟩ := hp
  unfold Tr.fixed
  rw [show (T.way i).all (fun x => decide ((T.tx x).s = 2)) = false from by
    rw [List.all_eq_false]
    exact ⟨y.val, pre_mem h hy, by simpa using e⟩]
  rw [Bool.false_and]
/-- the first on the way that has no parent -/
def topOf {N : Nat} (T : Tr) (pre : List (Id N)) (z : Int) : Prop := ∃ q x, pre = q ++ [x] ∧ (∀ y ∈ q, (T.tx (y : Id N).val).p ≠ -1) ∧ (T.tx x.val).p = -1 ∧ z = (x.val : Int)
theorem find_top {T : Tr} : ∀ (l : List Nat) (x : Nat) (r : List Nat), (∀ y ∈ l, (T.tx y).p ≠ -1) → (T.tx x).p = -1 → (l ++ x :: r).find? (fun x => decide ((T.tx x).p = -1)) = some x
  | [], x, r, _, hx => by simp [hx]
  | y :: l, x, r, hl, hx => by
    have h1 := hl y (by simp)
    simp only [List.cons_append, List.find?_cons, decide_eq_false h1]
    exact find_top l x r (fun z hz => hl z (List.mem_cons_of_mem _ hz)) hx
theorem top_some {T : Tr} {N : Nat} {i z : Int} {pre : List (Id N)} (h : pre.map (·.val) <+: T.way i) (hp : topOf T pre z) : T.top i = z := by
  obtain ⟨q, x, rfl, hq, hx, rfl⟩ := hp
  obtain ⟨r, hr⟩ := h
  unfold Tr.top
  rw [← hr]
  have := find_top (T := T) (q.map (·.val)) x.val r (fun y hy => by obtain ⟨z, hz, rfl⟩ := List.mem_map.1 hy; exact hq z hz) hx
  simp only [List.map_append, List.map_cons, List.map_nil, List.append_assoc, List.cons_append, List.nil_append]
  rw [this]
theorem top_none {T : Tr} {N : Nat} {i : Int} {xs : List (Id N)} (h : xs.map (·.val) = T.way i) (hp : ∀ y ∈ xs, (T.tx (y : Id N).val).p ≠ -1) : T.top i = -1 := by
  unfold Tr.top
  rw [List.find?_eq_none.2 (fun y hy => by obtain ⟨x, hx, rfl⟩ := all_mem h hy; simpa using hp x hx)]

/-- a state that may not be in one of state si -/
def badN (T : Tr) (si : Int) (y : Nat) : Prop := (si = 1 ∧ (T.tx y).s ≠ 1) ∨ (si = 2 ∧ (T.tx y).s = 3)
theorem badN_yes {T : Tr} {si q : Int} {y : Nat} (hq : q = (T.tx y).s) (h : (si = 1 ∧ q ≠ 1) ∨ (si = 2 ∧ q = 3)) : badN T si y := by unfold badN; rw [← hq]; exact h
theorem badN_no {T : Tr} {si q : Int} {y : Nat} (hq : q = (T.tx y).s) (h : ¬ ((si = 1 ∧ q ≠ 1) ∨ (si = 2 ∧ q = 3))) : ¬ badN T si y := by unfold badN; rw [← hq]; exact h
theorem badN_none {T : Tr} {N : Nat} {i : Nat} {si : Int} {pre : List (Id N)} (hG : Good T) (hi : i < T.l.length) (hsi : si = (T.tx i).s) (h : pre.map (·.val) <+: T.way (i : Int)) (hp : ∃ y ∈ pre, badN T si (y : Id N).val) : False := by
  obtain ⟨y, hy, hb⟩ := hp
  have hm := pre_mem h hy
  rw [Tr.way_nat hi] at hm
  have hn := hG.nest i hi _ hm
  rw [← hsi] at hn
  rcases hb with ⟨h1, h2⟩ | ⟨h1, h2⟩
  · exact h2 (hn.1 h1)
  · exact hn.2 h1 h2

set_option maxHeartbeats 4000000 in
theorem top_any (A : Option Addr) (T : Tr) (N cap : Nat) (c i : Int) (hN : T.l.length = N) (hG : Good T) (w : World) (hT : TxAt w A T.l) :
    Calls Try.prog 24 #[.agg #[.slice A N cap, .int .i64 c], .int .i64 i] w fun e w' => e = .returned (.int .i64 (T.top i)) ∧ Below w.heap.size w w' := by
  refine (callsIn_wide (n := 9)).1 ?_
  refine callsIn_of_wp_marks Try.func24 rfl trivial ?_ rfl
  simp only [Try.ntmps24, List.size_toArray, List.length_cons, List.length_nil, Nat.reduceAdd, Nat.reduceSub, Array.replicate_succ, Array.replicate_zero, List.push_toArray, List.append_toArray, List.nil_append, List.cons_append]
  have HG := Lib.hid hG
  have HT := Lib.hid hT
  have HN := Lib.hid hN
  clear hG hT hN
  gi_wp2_with fail
  obtain ⟨wx0, hw0⟩ : ∃ wx, wx = w.alloc (.cells #[.slice A N cap, .int .i64 c] 26) := ⟨_, rfl⟩
  obtain ⟨wx1, hw1⟩ : ∃ wx, wx = wx0.alloc (.cells #[.int .i64 0] 3) := ⟨_, rfl⟩
  have s0 : wx0.heap.size = w.heap.size + 1 := by rw [hw0]; simp
  have s1 : wx1.heap.size = w.heap.size + 2 := by rw [hw1]; simp [s0]
  have k0 : wx1.cell? ⟨w.heap.size, 0, none⟩ = some (.slice A N cap) := by rw [hw1, hw0]; exact cell_al _ ((cell_new w _ _ 0).trans rfl)
  have HB := Lib.hid (show Below w.heap.size w wx1 from by rw [hw1, hw0]; exact below_two (below_new w _) (below_new _ _))
  have k1 : wx1.cell? ⟨w.heap.size + 1, 0, none⟩ = some (.int .i64 0) := by rw [hw1, ← s0]; exact (cell_new wx0 _ _ 0).trans rfl
  have f0 : wx1.frozen? ⟨w.heap.size + 1, 0, none⟩ = false := by rw [hw1, ← s0]; exact frozen_new wx0 _ _ 0
  rw [← hw0, ← hw1]
  have HT2 := Lib.hid (HT.out.below HB.out)
  have HA := Lib.hid HT.out.lt
  have H0 := Lib.hid k0
  have H1 := Lib.hid k1
  have HF := Lib.hid f0
  have HS := Lib.hid s1
  clear hw0 s0 k0 hw1 s1 k1 f0
  clear wx0
  obtain ⟨w2, hw2⟩ : ∃ w2, w2 = wx1 := ⟨_, rfl⟩
  subst hw2
  refine ⟨trivial, (callsIn_wide.2 (up_any A N cap c i w2)).mono ?_⟩
  rintro e w3 ⟨rfl, rfl⟩
  gi_wp2_with fail
  refine wpIn_rangeFunc_ownF rfl (by omega) (gf := 62) (lb := #[.pointer (some ⟨w2.heap.size + 1, 0, none⟩), .pointer (some ⟨w2.heap.size, 0, none⟩)]) rfl trivial (enters_of Try.func62 (by kernel_rfl) rfl)
    (up_stops 8 (by omega) (fun k => w2.heap.size + 2 ≤ k) A T N cap c i HN.out HG.out w2 HT2.out (fun b o e => (HA.out b o e).imp id (fun h h2 => by have := HS.out; omega)) (fun h => by omega)) Kp.t (Kp.b (by simp)) (Below.refl _ _) (fun _ => rfl)
    (fun pre W => ((∀ y ∈ pre, (T.tx (y : Id N).val).p ≠ -1) ∧ W.cell? ⟨w.heap.size, 0, none⟩ = some (.slice A N cap) ∧ W.cell? ⟨w.heap.size + 1, 0, none⟩ = some (.int .i64 0) ∧ W.frozen? ⟨w.heap.size + 1, 0, none⟩ = false) ∧ Below w.heap.size w W)
    (fun c pre W => (c = .ret ∧ ∃ z : Int, topOf T pre z ∧ W.cell? ⟨w.heap.size + 1, 0, none⟩ = some (.int .i64 z)) ∧ Below w.heap.size w W)
    (OwnFrom.and (Own.from (fun s A B row hs hg hr => ⟨hs.1, cell_kept hs.2.1 hg hr, cell_kept hs.2.2.1 hg hr, (frozen_kept hs.2.2.1 hg hr).trans hs.2.2.2⟩) _) (ownFrom_below (Nat.le_refl _) (by have := HS.out; simp; omega)))
    (fun _ => OwnFrom.and (Own.from (fun s A B row hs hg hr => (by obtain ⟨h1, z, h2, h3⟩ := hs; exact ⟨h1, z, h2, cell_kept h3 hg hr⟩)) _) (ownFrom_below (Nat.le_refl _) (by have := HS.out; simp; omega)))
    ⟨⟨by simp, cell_al _ (cell_al _ H0.out), cell_al _ (cell_al _ H1.out), frozen_al _ (cell_al _ H1.out) (frozen_al _ H1.out HF.out)⟩, below_two (below_two HB.out (below_new w2 _)) (below_new _ _)⟩
    ?acts ?assign ?body ?done ?stop
  case assign =>
    intro l x W K hK
    gi_wp2
    exact hK
  case body =>
    rintro l pre x W ⟨⟨hp, k0, kr, fr⟩, hB⟩ hlen
    obtain ⟨b, hAe, hb, p0, p1, _, _⟩ := (HT.out.below hB).get (i := x.val) (by rw [HN.out]; exact x.isLt)
    subst hAe
    have hxl : x.val < N := x.isLt
    have hn64 : N ≤ 64 := by have := HG.out.n; have := HN.out; omega
    have HP := Lib.hid hp
    have HB3 := Lib.hid hB
    clear hB hlen hp
    obtain ⟨q, hq⟩ : ∃ q, q = (T.tx x.val).p := ⟨_, rfl⟩
    have p9 : W.cell? ⟨b, x.val * 4, none⟩ = some (.int .i64 q) := by rw [hq]; exact p0
    have HQ := Lib.hid hq
    clear hq p0 p1
    by_cases hx : q = -1
    · have hxb : (q == -1) = true := by simpa using hx
      have HX := Lib.hid hx
      clear hx
      gi_wp2
      exact ⟨KeepsOthers.setCell _ _ _, ⟨rfl, (x.val : Int), ⟨pre, x, rfl, HP.out, by rw [← HQ.out]; exact HX.out, rfl⟩, World.cell?_setCell_same' _ _ _ (by rw [kr]; rfl)⟩, HB3.out.setCell (by show w.heap.size ≤ w.heap.size + 1; omega) _⟩
    · have hxb : (q == -1) = false := by simpa using hx
      have HX := Lib.hid hx
      clear hx
      gi_wp2
      exact ⟨KeepsOthers.refl _, ⟨KeepsWalks.refl _, Turn.refl _ _⟩, ⟨fun y hy => (List.mem_append.1 hy).elim (HP.out y) (fun h => by simp at h; subst h; rw [← HQ.out]; exact HX.out), k0, kr, fr⟩, HB3.out⟩
  case done =>
    rintro D ys WD hD hys ⟨⟨hp, k0, kr, fr⟩, hB⟩ hK
    have HW := Lib.hid (top_none (T := T) hys hp)
    clear hp hys
    have HB3 := Lib.hid hB
    have HD := Lib.hid (show w.heap.size ≤ D from by have := HS.out; simp at hD; omega)
    clear hB hD
    gi_wp2
    have hK' := (KeepsOthers.setCell WD ⟨w.heap.size + 1, 0, none⟩ (.int .i64 (-1))).same D _ hK rfl
    refine ⟨by simp, .inl ⟨_, _, rfl, run_takeDeferred hK', ?_⟩⟩
    have hc5 := cell_put (o := .deferred none) (World.cell?_setCell_same' WD ⟨w.heap.size + 1, 0, none⟩ (.int .i64 (-1)) (by rw [kr]; rfl)) hK'
    refine ⟨.int .i64 (-1), ?_, by rw [HW.out], below_put (HB3.out.setCell (by show w.heap.size ≤ w.heap.size + 1; omega) _) HD.out _⟩
    simp [results, Try.f24, go_sem, hc5]
  case stop =>
    rintro D c pre W hD hpre ⟨⟨rfl, z, hz, kr⟩, hB⟩ hK
    have HW := Lib.hid (top_some hpre hz)
    clear hpre hz
    have HB3 := Lib.hid hB
    have HD := Lib.hid (show w.heap.size ≤ D from by have := HS.out; simp at hD; omega)
    clear hB hD
    gi_wp2
    refine ⟨by simp, .inl ⟨_, _, rfl, run_takeDeferred hK, ?_⟩⟩
    have hc5 := cell_put (o := .deferred none) kr hK
    refine ⟨.int .i64 z, ?_, by rw [HW.out], below_put HB3.out HD.out _⟩
    simp [results, Try.f24, go_sem, hc5]

set_option maxHeartbeats 4000000 in
theorem lost_any (A : Option Addr) (T : Tr) (N cap : Nat) (c i : Int) (hN : T.l.length = N) (hG : Good T) (w : World) (hT : TxAt w A T.l) :
    Calls Try.prog 17 #[.agg #[.slice A N cap, .int .i64 c], .int .i64 i] w fun e w' => e = .returned (.bool (T.lost i)) ∧ Below w.heap.size w w' := by
  refine (callsIn_wide (n := 9)).1 ?_
  refine callsIn_of_wp_marks Try.func17 rfl trivial ?_ rfl
  simp only [Try.ntmps17, List.size_toArray, List.length_cons, List.length_nil, Nat.reduceAdd, Nat.reduceSub, Array.replicate_succ, Array.replicate_zero, List.push_toArray, List.append_toArray, List.nil_append, List.cons_append]
  have HG := Lib.hid hG
  have HT := Lib.hid hT
  have HN := Lib.hid hN
  clear hG hT hN
  gi_wp2_with fail
  obtain ⟨wx0, hw0⟩ : ∃ wx, wx = w.alloc (.cells #[.slice A N cap, .int .i64 c] 26) := ⟨_, rfl⟩
  obtain ⟨wx1, hw1⟩ : ∃ wx, wx = wx0.alloc (.cells #[.bool false] 4) := ⟨_, rfl⟩
  have s0 : wx0.heap.size = w.heap.size + 1 := by rw [hw0]; simp
  have s1 : wx1.heap.size = w.heap.size + 2 := by rw [hw1]; simp [s0]
  have k0 : wx1.cell? ⟨w.heap.size, 0, none⟩ = some (.slice A N cap) := by rw [hw1, hw0]; exact cell_al _ ((cell_new w _ _ 0).trans rfl)
  have k9 : wx1.cell? ⟨w.heap.size, 1, none⟩ = some (.int .i64 c) := by rw [hw1, hw0]; exact cell_al _ ((cell_new w _ _ 1).trans rfl)
  have HC1 := Lib.hid k9
  have HB := Lib.hid (show Below w.heap.size w wx1 from by rw [hw1, hw0]; exact below_two (below_new w _) (below_new _ _))
  have k1 : wx1.cell? ⟨w.heap.size + 1, 0, none⟩ = some (.bool false) := by rw [hw1, ← s0]; exact (cell_new wx0 _ _ 0).trans rfl
  have f0 : wx1.frozen? ⟨w.heap.size + 1, 0, none⟩ = false := by rw [hw1, ← s0]; exact frozen_new wx0 _ _ 0
  rw [← hw0, ← hw1]
  have HT2 := Lib.hid (HT.out.below HB.out)
  have HA := Lib.hid HT.out.lt
  have H0 := Lib.hid k0
  have H1 := Lib.hid k1
  have HF := Lib.hid f0
  have HS := Lib.hid s1
  clear k9 hw0 s0 k0 hw1 s1 k1 f0
  clear wx0
  obtain ⟨w2, hw2⟩ : ∃ w2, w2 = wx1 := ⟨_, rfl⟩
  subst hw2
  refine ⟨trivial, (callsIn_wide.2 (up_any A N cap c i w2)).mono ?_⟩
  rintro e w3 ⟨rfl, rfl⟩
  gi_wp2_with fail
  refine wpIn_rangeFunc_ownF rfl (by omega) (gf := 62) (lb := #[.pointer (some ⟨w2.heap.size + 1, 0, none⟩), .pointer (some ⟨w2.heap.size, 0, none⟩)]) rfl trivial (enters_of Try.func62 (by kernel_rfl) rfl)
    (up_stops 8 (by omega) (fun k => w2.heap.size + 2 ≤ k) A T N cap c i HN.out HG.out w2 HT2.out (fun b o e => (HA.out b o e).imp id (fun h h2 => by have := HS.out; omega)) (fun h => by omega)) Kp.t (Kp.b (by simp)) (Below.refl _ _) (fun _ => rfl)
    (fun pre W => ((∀ y ∈ pre, (T.tx (y : Id N).val).s ≠ 3) ∧ W.cell? ⟨w.heap.size, 0, none⟩ = some (.slice A N cap) ∧ W.cell? ⟨w.heap.size, 1, none⟩ = some (.int .i64 c) ∧ W.cell? ⟨w.heap.size + 1, 0, none⟩ = some (.bool false) ∧ W.frozen? ⟨w.heap.size + 1, 0, none⟩ = false) ∧ Below w.heap.size w W)
    (fun c pre W => (c = .ret ∧ (∃ y ∈ pre, (T.tx (y : Id N).val).s = 3) ∧ W.cell? ⟨w.heap.size + 1, 0, none⟩ = some (.bool true)) ∧ Below w.heap.size w W)
    (OwnFrom.and (Own.from (fun s A B row hs hg hr => ⟨hs.1, cell_kept hs.2.1 hg hr, cell_kept hs.2.2.1 hg hr, cell_kept hs.2.2.2.1 hg hr, (frozen_kept hs.2.2.2.1 hg hr).trans hs.2.2.2.2⟩) _) (ownFrom_below (Nat.le_refl _) (by have := HS.out; simp; omega)))
    (fun _ => OwnFrom.and (Own.from (fun s A B row hs hg hr => ⟨hs.1, hs.2.1, cell_kept hs.2.2 hg hr⟩) _) (ownFrom_below (Nat.le_refl _) (by have := HS.out; simp; omega)))
    ⟨⟨by simp, cell_al _ (cell_al _ H0.out), cell_al _ (cell_al _ HC1.out), cell_al _ (cell_al _ H1.out), frozen_al _ (cell_al _ H1.out) (frozen_al _ H1.out HF.out)⟩, below_two (below_two HB.out (below_new w2 _)) (below_new _ _)⟩
    ?acts ?assign ?body ?done ?stop
  case assign =>
    intro l x W K hK
    gi_wp2
    exact hK
  case body =>
    rintro l pre x W ⟨⟨hp, k0, kc, kr, fr⟩, hB⟩ hlen
    obtain ⟨b, hAe, hb, p0, p1, _, _⟩ := (HT.out.below hB).get (i := x.val) (by rw [HN.out]; exact x.isLt)
    subst hAe
    have hxl : x.val < N := x.isLt
    have hn64 : N ≤ 64 := by have := HG.out.n; have := HN.out; omega
    have HP := Lib.hid hp
    have HB3 := Lib.hid hB
    clear hB hlen hp
    obtain ⟨q, hq⟩ : ∃ q, q = (T.tx x.val).s := ⟨_, rfl⟩
    have p9 : W.cell? ⟨b, x.val * 4 + 1, none⟩ = some (.int .i64 q) := by rw [hq]; exact p1
    have HQ := Lib.hid hq
    clear hq p0 p1
    by_cases hx : q = 3
    · have hxb : (q == 3) = true := by simpa using hx
      have HX := Lib.hid hx
      clear hx
      gi_wp2
      exact ⟨KeepsOthers.setCell _ _ _, ⟨rfl, ⟨x, by simp, by rw [← HQ.out]; exact HX.out⟩, World.cell?_setCell_same' _ _ _ (by rw [kr]; rfl)⟩, HB3.out.setCell (by show w.heap.size ≤ w.heap.size + 1; omega) _⟩
    · have hxb : (q == 3) = false := by simpa using hx
      have HX := Lib.hid hx
      clear hx
      gi_wp2
      exact ⟨KeepsOthers.refl _, ⟨KeepsWalks.refl _, Turn.refl _ _⟩, ⟨fun y hy => (List.mem_append.1 hy).elim (HP.out y) (fun h => by simp at h; subst h; rw [← HQ.out]; exact HX.out), k0, kc, kr, fr⟩, HB3.out⟩
  case done =>
    rintro D ys WD hD hys ⟨⟨hp, k0, kc, kr, fr⟩, hB⟩ hK
    have HW := Lib.hid (lost_none (T := T) HN.out hys hp)
    clear hp hys
    have HB3 := Lib.hid hB
    have HD := Lib.hid (show w.heap.size ≤ D from by have := HS.out; simp at hD; omega)
    clear hB hD
    have hkn := known_any A N cap c i WD
    obtain ⟨kb, hkb⟩ : ∃ kb, kb = decide (0 ≤ i ∧ i < (N : Int)) := ⟨_, rfl⟩
    rw [← hkb] at hkn
    have HW := Lib.hid (show T.lost i = (!kb) from by rw [hkb]; exact HW.out)
    have HKN := Lib.hid hkn
    clear hkn hkb
    gi_wp2_with fail
    refine ⟨trivial, (callsIn_wide.2 HKN.out).mono ?_⟩
    rintro e w4 ⟨rfl, hw4⟩
    have hB4 : Below WD.heap.size WD w4 := by rw [hw4]; exact below_new _ _
    have hlt := block_lt_of_cell kr
    have kr4 := (hB4.cell (p := ⟨w.heap.size + 1, 0, none⟩) hlt).trans kr
    have fr4 := (hB4.frozen (p := ⟨w.heap.size + 1, 0, none⟩) hlt).trans fr
    have hK4 := (hB4.block D (lt_of_block hK)).trans hK
    have HB4 := Lib.hid (HB3.out.trans (hB4.mono HB3.out.size))
    clear hw4 hB4 kr fr hK k0 kc HB3 hlt
    gi_wp2
    have hK' := (KeepsOthers.setCell w4 ⟨w.heap.size + 1, 0, none⟩ (.bool (!kb))).same D _ hK4 rfl
    refine ⟨by simp, .inl ⟨_, _, rfl, run_takeDeferred hK', ?_⟩⟩
    have hc5 := cell_put (o := .deferred none) (World.cell?_setCell_same' w4 ⟨w.heap.size + 1, 0, none⟩ (.bool (!kb)) (by rw [kr4]; rfl)) hK'
    refine ⟨.bool (!kb), ?_, by rw [HW.out], below_put (HB4.out.setCell (by show w.heap.size ≤ w.heap.size + 1; omega) _) HD.out _⟩
    simp [results, Try.f17, go_sem, hc5]
  case stop =>
    rintro D c pre W hD hpre ⟨⟨rfl, hz, kr⟩, hB⟩ hK
    have HW := Lib.hid (lost_some (T := T) hpre hz)
    clear hpre hz
    have HB3 := Lib.hid hB
    have HD := Lib.hid (show w.heap.size ≤ D from by have := HS.out; simp at hD; omega)
    clear hB hD
    gi_wp2
    refine ⟨by simp, .inl ⟨_, _, rfl, run_takeDeferred hK, ?_⟩⟩
    have hc5 := cell_put (o := .deferred none) kr hK
    refine ⟨.bool true, ?_, by rw [HW.out], below_put HB3.out HD.out _⟩
    simp [results, Try.f17, go_sem, hc5]

set_option maxHeartbeats 4000000 in
theorem fixed_any (A : Option Addr) (T : Tr) (N cap : Nat) (c i : Int) (hN : T.l.length = N) (hG : Good T) (w : World) (hT : TxAt w A T.l) :
    Calls Try.prog 16 #[.agg #[.slice A N cap, .int .i64 c], .int .i64 i] w fun e w' => e = .returned (.bool (T.fixed i)) ∧ Below w.heap.size w w' := by
  refine (callsIn_wide (n := 9)).1 ?_
  refine callsIn_of_wp_marks Try.func16 rfl trivial ?_ rfl
  simp only [Try.ntmps16, List.size_toArray, List.length_cons, List.length_nil, Nat.reduceAdd, Nat.reduceSub, Array.replicate_succ, Array.replicate_zero, List.push_toArray, List.append_toArray, List.nil_append, List.cons_append]
  have HG := Lib.hid hG
  have HT := Lib.hid hT
  have HN := Lib.hid hN
  clear hG hT hN
  gi_wp2_with fail
  obtain ⟨wx0, hw0⟩ : ∃ wx, wx = w.alloc (.cells #[.slice A N cap, .int .i64 c] 26) := ⟨_, rfl⟩
  obtain ⟨wx1, hw1⟩ : ∃ wx, wx = wx0.alloc (.cells #[.bool false] 4) := ⟨_, rfl⟩
  have s0 : wx0.heap.size = w.heap.size + 1 := by rw [hw0]; simp
  have s1 : wx1.heap.size = w.heap.size + 2 := by rw [hw1]; simp [s0]
  have k0 : wx1.cell? ⟨w.heap.size, 0, none⟩ = some (.slice A N cap) := by rw [hw1, hw0]; exact cell_al _ ((cell_new w _ _ 0).trans rfl)
  have k9 : wx1.cell? ⟨w.heap.size, 1, none⟩ = some (.int .i64 c) := by rw [hw1, hw0]; exact cell_al _ ((cell_new w _ _ 1).trans rfl)
  have HC1 := Lib.hid k9
  have HB := Lib.hid (show Below w.heap.size w wx1 from by rw [hw1, hw0]; exact below_two (below_new w _) (below_new _ _))
  have k1 : wx1.cell? ⟨w.heap.size + 1, 0, none⟩ = some (.bool false) := by rw [hw1, ← s0]; exact (cell_new wx0 _ _ 0).trans rfl
  have f0 : wx1.frozen? ⟨w.heap.size + 1, 0, none⟩ = false := by rw [hw1, ← s0]; exact frozen_new wx0 _ _ 0
  rw [← hw0, ← hw1]
  have HT2 := Lib.hid (HT.out.below HB.out)
  have HA := Lib.hid HT.out.lt
  have H0 := Lib.hid k0
  have H1 := Lib.hid k1
  have HF := Lib.hid f0
  have HS := Lib.hid s1
  clear k9 hw0 s0 k0 hw1 s1 k1 f0
  clear wx0
  obtain ⟨w2, hw2⟩ : ∃ w2, w2 = wx1 := ⟨_, rfl⟩
  subst hw2
  refine ⟨trivial, (callsIn_wide.2 (up_any A N cap c i w2)).mono ?_⟩
  rintro e w3 ⟨rfl, rfl⟩
  gi_wp2_with fail
  refine wpIn_rangeFunc_ownF rfl (by omega) (gf := 62) (lb := #[.pointer (some ⟨w2.heap.size + 1, 0, none⟩), .pointer (some ⟨w2.heap.size, 0, none⟩)]) rfl trivial (enters_of Try.func62 (by kernel_rfl) rfl)
    (up_stops 8 (by omega) (fun k => w2.heap.size + 2 ≤ k) A T N cap c i HN.out HG.out w2 HT2.out (fun b o e => (HA.out b o e).imp id (fun h h2 => by have := HS.out; omega)) (fun h => by omega)) Kp.t (Kp.b (by simp)) (Below.refl _ _) (fun _ => rfl)
    (fun pre W => ((∀ y ∈ pre, (T.tx (y : Id N).val).s = 2) ∧ W.cell? ⟨w.heap.size, 0, none⟩ = some (.slice A N cap) ∧ W.cell? ⟨w.heap.size, 1, none⟩ = some (.int .i64 c) ∧ W.cell? ⟨w.heap.size + 1, 0, none⟩ = some (.bool false) ∧ W.frozen? ⟨w.heap.size + 1, 0, none⟩ = false) ∧ Below w.heap.size w W)
    (fun c pre W => (c = .ret ∧ (∃ y ∈ pre, (T.tx (y : Id N).val).s ≠ 2) ∧ W.cell? ⟨w.heap.size + 1, 0, none⟩ = some (.bool false)) ∧ Below w.heap.size w W)
    (OwnFrom.and (Own.from (fun s A B row hs hg hr => ⟨hs.1, cell_kept hs.2.1 hg hr, cell_kept hs.2.2.1 hg hr, cell_kept hs.2.2.2.1 hg hr, (frozen_kept hs.2.2.2.1 hg hr).trans hs.2.2.2.2⟩) _) (ownFrom_below (Nat.le_refl _) (by have := HS.out; simp; omega)))
    (fun _ => OwnFrom.and (Own.from (fun s A B row hs hg hr => ⟨hs.1, hs.2.1, cell_kept hs.2.2 hg hr⟩) _) (ownFrom_below (Nat.le_refl _) (by have := HS.out; simp; omega)))
    ⟨⟨by simp, cell_al _ (cell_al _ H0.out), cell_al _ (cell_al _ HC1.out), cell_al _ (cell_al _ H1.out), frozen_al _ (cell_al _ H1.out) (frozen_al _ H1.out HF.out)⟩, below_two (below_two HB.out (below_new w2 _)) (below_new _ _)⟩
    ?acts ?assign ?body ?done ?stop
  case assign =>
    intro l x W K hK
    gi_wp2
    exact hK
  case body =>
    rintro l pre x W ⟨⟨hp, k0, kc, kr, fr⟩, hB⟩ hlen
    obtain ⟨b, hAe, hb, p0, p1, _, _⟩ := (HT.out.below hB).get (i := x.val) (by rw [HN.out]; exact x.isLt)
    subst hAe
    have hxl : x.val < N := x.isLt
    have hn64 : N ≤ 64 := by have := HG.out.n; have := HN.out; omega
    have HP := Lib.hid hp
    have HB3 := Lib.hid hB
    clear hB hlen hp
    obtain ⟨q, hq⟩ : ∃ q, q = (T.tx x.val).s := ⟨_, rfl⟩
    have p9 : W.cell? ⟨b, x.val * 4 + 1, none⟩ = some (.int .i64 q) := by rw [hq]; exact p1
    have HQ := Lib.hid hq
    clear hq p0 p1
    by_cases hx : q ≠ 2
    · have hxb : (q == 2) = false := by simpa using hx
      have HX := Lib.hid hx
      clear hx
      gi_wp2
      exact ⟨KeepsOthers.setCell _ _ _, ⟨rfl, ⟨x, by simp, by rw [← HQ.out]; exact HX.out⟩, World.cell?_setCell_same' _ _ _ (by rw [kr]; rfl)⟩, HB3.out.setCell (by show w.heap.size ≤ w.heap.size + 1; omega) _⟩
    · have hxb : (q == 2) = true := by simpa using hx
      have HX := Lib.hid hx
      clear hx
      gi_wp2
      exact ⟨KeepsOthers.refl _, ⟨KeepsWalks.refl _, Turn.refl _ _⟩, ⟨fun y hy => (List.mem_append.1 hy).elim (HP.out y) (fun h => by simp at h; subst h; rw [← HQ.out]; exact Classical.not_not.1 HX.out), k0, kc, kr, fr⟩, HB3.out⟩
  case done =>
    rintro D ys WD hD hys ⟨⟨hp, k0, kc, kr, fr⟩, hB⟩ hK
    have HW := Lib.hid (fixed_none (T := T) HN.out hys hp)
    clear hp hys
    have HB3 := Lib.hid hB
    have HD := Lib.hid (show w.heap.size ≤ D from by have := HS.out; simp at hD; omega)
    clear hB hD
    have hkn := known_any A N cap c i WD
    obtain ⟨kb, hkb⟩ : ∃ kb, kb = decide (0 ≤ i ∧ i < (N : Int)) := ⟨_, rfl⟩
    rw [← hkb] at hkn
    have HW := Lib.hid (show T.fixed i = (kb) from by rw [hkb]; exact HW.out)
    have HKN := Lib.hid hkn
    clear hkn hkb
    gi_wp2_with fail
    refine ⟨trivial, (callsIn_wide.2 HKN.out).mono ?_⟩
    rintro e w4 ⟨rfl, hw4⟩
    have hB4 : Below WD.heap.size WD w4 := by rw [hw4]; exact below_new _ _
    have hlt := block_lt_of_cell kr
    have kr4 := (hB4.cell (p := ⟨w.heap.size + 1, 0, none⟩) hlt).trans kr
    have fr4 := (hB4.frozen (p := ⟨w.heap.size + 1, 0, none⟩) hlt).trans fr
    have hK4 := (hB4.block D (lt_of_block hK)).trans hK
    have HB4 := Lib.hid (HB3.out.trans (hB4.mono HB3.out.size))
    clear hw4 hB4 kr fr hK k0 kc HB3 hlt
    gi_wp2
    have hK' := (KeepsOthers.setCell w4 ⟨w.heap.size + 1, 0, none⟩ (.bool (kb))).same D _ hK4 rfl
    refine ⟨by simp, .inl ⟨_, _, rfl, run_takeDeferred hK', ?_⟩⟩
    have hc5 := cell_put (o := .deferred none) (World.cell?_setCell_same' w4 ⟨w.heap.size + 1, 0, none⟩ (.bool (kb)) (by rw [kr4]; rfl)) hK'
    refine ⟨.bool (kb), ?_, by rw [HW.out], below_put (HB4.out.setCell (by show w.heap.size ≤ w.heap.size + 1; omega) _) HD.out _⟩
    simp [results, Try.f16, go_sem, hc5]
  case stop =>
    rintro D c pre W hD hpre ⟨⟨rfl, hz, kr⟩, hB⟩ hK
    have HW := Lib.hid (fixed_some (T := T) hpre hz)
    clear hpre hz
    have HB3 := Lib.hid hB
    have HD := Lib.hid (show w.heap.size ≤ D from by have := HS.out; simp at hD; omega)
    clear hB hD
    gi_wp2
    refine ⟨by simp, .inl ⟨_, _, rfl, run_takeDeferred hK, ?_⟩⟩
    have hc5 := cell_put (o := .deferred none) kr hK
    refine ⟨.bool false, ?_, by rw [HW.out], below_put HB3.out HD.out _⟩
    simp [results, Try.f16, go_sem, hc5]

set_option maxHeartbeats 4000000 in
theorem within_any (A : Option Addr) (T : Tr) (N cap : Nat) (c i of : Int) (hN : T.l.length = N) (hG : Good T) (w : World) (hT : TxAt w A T.l) :
    Calls Try.prog 23 #[.agg #[.slice A N cap, .int .i64 c], .int .i64 i, .int .i64 of] w fun e w' => e = .returned (.bool (T.stands i of)) ∧ Below w.heap.size w w' := by
  refine (callsIn_wide (n := 9)).1 ?_
  refine callsIn_of_wp_marks Try.func23 rfl trivial ?_ rfl
  simp only [Try.ntmps23, List.size_toArray, List.length_cons, List.length_nil, Nat.reduceAdd, Nat.reduceSub, Array.replicate_succ, Array.replicate_zero, List.push_toArray, List.append_toArray, List.nil_append, List.cons_append]
  have HG := Lib.hid hG
  have HT := Lib.hid hT
  have HN := Lib.hid hN
  clear hG hT hN
  gi_wp2_with fail
  obtain ⟨wx0, hw0⟩ : ∃ wx, wx = w.alloc (.cells #[.slice A N cap, .int .i64 c] 26) := ⟨_, rfl⟩
  obtain ⟨wx1, hw1⟩ : ∃ wx, wx = wx0.alloc (.cells #[.int .i64 of] 3) := ⟨_, rfl⟩
  obtain ⟨wx2, hw2⟩ : ∃ wx, wx = wx1.alloc (.cells #[.bool false] 4) := ⟨_, rfl⟩
  have s0 : wx0.heap.size = w.heap.size + 1 := by rw [hw0]; simp
  have s1 : wx1.heap.size = w.heap.size + 2 := by rw [hw1]; simp [s0]
  have s2 : wx2.heap.size = w.heap.size + 3 := by rw [hw2]; simp [s1]
  have k0 : wx2.cell? ⟨w.heap.size, 0, none⟩ = some (.slice A N cap) := by rw [hw2, hw1, hw0]; exact cell_al _ (cell_al _ ((cell_new w _ _ 0).trans rfl))
  have HB := Lib.hid (show Below w.heap.size w wx2 from by rw [hw2, hw1, hw0]; exact below_two (below_two (below_new w _) (below_new _ _)) (below_new _ _))
  have k1 : wx2.cell? ⟨w.heap.size + 1, 0, none⟩ = some (.int .i64 of) := by rw [hw2, hw1, ← s0]; exact cell_al _ ((cell_new wx0 _ _ 0).trans rfl)
  have k2 : wx2.cell? ⟨w.heap.size + 2, 0, none⟩ = some (.bool false) := by rw [hw2, ← s1]; exact (cell_new wx1 _ _ 0).trans rfl
  have f0 : wx2.frozen? ⟨w.heap.size + 2, 0, none⟩ = false := by rw [hw2, ← s1]; exact frozen_new wx1 _ _ 0
  rw [← hw0, ← hw1, ← hw2]
  have HT2 := Lib.hid (HT.out.below HB.out)
  have HA := Lib.hid HT.out.lt
  have H0 := Lib.hid k0
  have H1 := Lib.hid k1
  have H2 := Lib.hid k2
  have HF := Lib.hid f0
  have HS := Lib.hid s2
  clear hw0 s0 k0 hw1 s1 k1 hw2 s2 k2 f0
  clear wx0 wx1
  obtain ⟨w2, hw2⟩ : ∃ w2, w2 = wx2 := ⟨_, rfl⟩
  subst hw2
  refine ⟨trivial, (callsIn_wide.2 (up_any A N cap c i w2)).mono ?_⟩
  rintro e w3 ⟨rfl, rfl⟩
  gi_wp2_with fail
  refine wpIn_rangeFunc_ownF rfl (by omega) (gf := 62) (lb := #[.pointer (some ⟨w2.heap.size + 1, 0, none⟩), .pointer (some ⟨w2.heap.size, 0, none⟩)]) rfl trivial (enters_of Try.func62 (by kernel_rfl) rfl)
    (up_stops 8 (by omega) (fun k => w2.heap.size + 2 ≤ k) A T N cap c i HN.out HG.out w2 HT2.out (fun b o e => (HA.out b o e).imp id (fun h h2 => by have := HS.out; omega)) (fun h => by omega)) Kp.t (Kp.b (by simp)) (Below.refl _ _) (fun _ => rfl)
    (fun pre W => ((∀ y ∈ pre, (y.val : Int) ≠ of) ∧ W.cell? ⟨w.heap.size + 1, 0, none⟩ = some (.int .i64 of) ∧ W.cell? ⟨w.heap.size + 2, 0, none⟩ = some (.bool false) ∧ W.frozen? ⟨w.heap.size + 2, 0, none⟩ = false) ∧ Below w.heap.size w W)
    (fun c pre W => (c = .ret ∧ (∃ y ∈ pre, (y.val : Int) = of) ∧ W.cell? ⟨w.heap.size + 2, 0, none⟩ = some (.bool true)) ∧ Below w.heap.size w W)
    (OwnFrom.and (Own.from (fun s A B row hs hg hr => ⟨hs.1, cell_kept hs.2.1 hg hr, cell_kept hs.2.2.1 hg hr, (frozen_kept hs.2.2.1 hg hr).trans hs.2.2.2⟩) _) (ownFrom_below (Nat.le_refl _) (by have := HS.out; simp; omega)))
    (fun _ => OwnFrom.and (Own.from (fun s A B row hs hg hr => ⟨hs.1, hs.2.1, cell_kept hs.2.2 hg hr⟩) _) (ownFrom_below (Nat.le_refl _) (by have := HS.out; simp; omega)))
    ⟨⟨by simp, cell_al _ (cell_al _ H1.out), cell_al _ (cell_al _ H2.out), frozen_al _ (cell_al _ H2.out) (frozen_al _ H2.out HF.out)⟩, below_two (below_two HB.out (below_new w2 _)) (below_new _ _)⟩
    ?acts ?assign ?body ?done ?stop
  case assign =>
    intro l x W K hK
    gi_wp2
    exact hK
  case body =>
    rintro l pre x W ⟨⟨hp, k1, kr, fr⟩, hB⟩ hlen
    have HP := Lib.hid hp
    have HB3 := Lib.hid hB
    clear hB hlen hp
    by_cases hx : (x.val : Int) = of
    · have hxb : ((x.val : Int) == of) = true := by simpa using hx
      have HX := Lib.hid hx
      clear hx
      gi_wp2
      exact ⟨KeepsOthers.setCell _ _ _, ⟨rfl, ⟨x, by simp, HX.out⟩, World.cell?_setCell_same' _ _ _ (by rw [kr]; rfl)⟩, HB3.out.setCell (by show w.heap.size ≤ w.heap.size + 2; omega) _⟩
    · have hxb : ((x.val : Int) == of) = false := by simpa using hx
      have HX := Lib.hid hx
      clear hx
      gi_wp2
      exact ⟨KeepsOthers.refl _, ⟨KeepsWalks.refl _, Turn.refl _ _⟩, ⟨fun y hy => (List.mem_append.1 hy).elim (HP.out y) (fun h => by simp at h; subst h; exact HX.out), k1, kr, fr⟩, HB3.out⟩
  case done =>
    rintro D ys WD hD hys ⟨⟨hp, k1, kr, fr⟩, hB⟩ hK
    have HW := Lib.hid (stands_none (T := T) hys hp)
    clear hp hys
    have HB3 := Lib.hid hB
    have HD := Lib.hid (show w.heap.size ≤ D from by have := HS.out; simp at hD; omega)
    clear hB hD
    gi_wp2
    have hK' := (KeepsOthers.setCell WD ⟨w.heap.size + 2, 0, none⟩ (.bool false)).same D _ hK rfl
    refine ⟨by simp, .inl ⟨_, _, rfl, run_takeDeferred hK', ?_⟩⟩
    have hc5 := cell_put (o := .deferred none) (World.cell?_setCell_same' WD ⟨w.heap.size + 2, 0, none⟩ (.bool false) (by rw [kr]; rfl)) hK'
    refine ⟨.bool false, ?_, by rw [HW.out], below_put (HB3.out.setCell (by show w.heap.size ≤ w.heap.size + 2; omega) _) HD.out _⟩
    simp [results, Try.f23, go_sem, hc5]
  case stop =>
    rintro D c pre W hD hpre ⟨⟨rfl, hz, kr⟩, hB⟩ hK
    have HW := Lib.hid (stands_some (T := T) hpre hz)
    clear hpre hz
    have HB3 := Lib.hid hB
    have HD := Lib.hid (show w.heap.size ≤ D from by have := HS.out; simp at hD; omega)
    clear hB hD
    gi_wp2
    refine ⟨by simp, .inl ⟨_, _, rfl, run_takeDeferred hK, ?_⟩⟩
    have hc5 := cell_put (o := .deferred none) kr hK
    refine ⟨.bool true, ?_, by rw [HW.out], below_put HB3.out HD.out _⟩
    simp [results, Try.f23, go_sem, hc5]

set_option maxHeartbeats 4000000 in
theorem nested_any (A : Option Addr) (T : Tr) (N cap : Nat) (c : Int) (i : Nat) (hi : i < N) (hN : T.l.length = N) (hG : Good T) (w : World) (hT : TxAt w A T.l) :
    Calls Try.prog 41 #[.agg #[.slice A N cap, .int .i64 c], .int .i64 (i : Int)] w fun e w' => e = .returned (.bool true) ∧ Below w.heap.size w w' := by
  refine (callsIn_wide (n := 9)).1 ?_
  refine callsIn_of_wp_marks Try.func41 rfl trivial ?_ rfl
  simp only [Try.ntmps41, List.size_toArray, List.length_cons, List.length_nil, Nat.reduceAdd, Nat.reduceSub, Array.replicate_succ, Array.replicate_zero, List.push_toArray, List.append_toArray, List.nil_append, List.cons_append]
  have HG := Lib.hid hG
  have HT := Lib.hid hT
  have HN := Lib.hid hN
  clear hG hT hN
  obtain ⟨b, hAe, hb, _, p1, _, _⟩ := HT.out.get (i := i) (by rw [HN.out]; exact hi)
  subst hAe
  have hn64 : N ≤ 64 := by have := HG.out.n; have := HN.out; omega
  obtain ⟨si, hsi⟩ : ∃ si, si = (T.tx i).s := ⟨_, rfl⟩
  rw [← hsi] at p1
  have HS3 := Lib.hid (show si = 1 ∨ si = 2 ∨ si = 3 from by rw [hsi]; exact HG.out.s3 (by rw [HN.out]; exact hi))
  have HSI := Lib.hid hsi
  clear hsi
  have c9 := cell_al (.cells #[.bool false] 4) (cell_al (.cells #[.slice (some ⟨b, 0, none⟩) N cap, .int .i64 c] 26) p1)
  clear p1
  gi_wp2_with fail
  clear c9
  obtain ⟨wx0, hw0⟩ : ∃ wx, wx = w.alloc (.cells #[.slice (some ⟨b, 0, none⟩) N cap, .int .i64 c] 26) := ⟨_, rfl⟩
  obtain ⟨wx1, hw1⟩ : ∃ wx, wx = wx0.alloc (.cells #[.bool false] 4) := ⟨_, rfl⟩
  obtain ⟨wx2, hw2⟩ : ∃ wx, wx = wx1.alloc (.cells #[.int .i64 si] 3) := ⟨_, rfl⟩
  have s0 : wx0.heap.size = w.heap.size + 1 := by rw [hw0]; simp
  have s1 : wx1.heap.size = w.heap.size + 2 := by rw [hw1]; simp [s0]
  have s2 : wx2.heap.size = w.heap.size + 3 := by rw [hw2]; simp [s1]
  have k0 : wx2.cell? ⟨w.heap.size, 0, none⟩ = some (.slice (some ⟨b, 0, none⟩) N cap) := by rw [hw2, hw1, hw0]; exact cell_al _ (cell_al _ ((cell_new w _ _ 0).trans rfl))
  have HB := Lib.hid (show Below w.heap.size w wx2 from by rw [hw2, hw1, hw0]; exact below_two (below_two (below_new w _) (below_new _ _)) (below_new _ _))
  have k1 : wx2.cell? ⟨w.heap.size + 1, 0, none⟩ = some (.bool false) := by rw [hw2, hw1, ← s0]; exact cell_al _ ((cell_new wx0 _ _ 0).trans rfl)
  have k2 : wx2.cell? ⟨w.heap.size + 2, 0, none⟩ = some (.int .i64 si) := by rw [hw2, ← s1]; exact (cell_new wx1 _ _ 0).trans rfl
  have f0 : wx2.frozen? ⟨w.heap.size + 1, 0, none⟩ = false := by rw [hw2, hw1, ← s0]; exact frozen_al _ ((cell_new wx0 _ _ 0).trans rfl) (frozen_new wx0 _ _ 0)
  rw [← hw0, ← hw1, ← hw2]
  have HT2 := Lib.hid (HT.out.below HB.out)
  have HA := Lib.hid HT.out.lt
  have H0 := Lib.hid k0
  have H1 := Lib.hid k1
  have H2 := Lib.hid k2
  have HF := Lib.hid f0
  have HS := Lib.hid s2
  clear hw0 s0 k0 hw1 s1 k1 hw2 s2 k2 f0
  clear wx0 wx1
  obtain ⟨w2, hw2⟩ : ∃ w2, w2 = wx2 := ⟨_, rfl⟩
  subst hw2
  refine ⟨trivial, (callsIn_wide.2 (up_any (some ⟨b, 0, none⟩) N cap c i w2)).mono ?_⟩
  rintro e w3 ⟨rfl, rfl⟩
  gi_wp2_with fail
  refine wpIn_rangeFunc_ownF rfl (by omega) (gf := 62) (lb := #[.pointer (some ⟨w2.heap.size + 1, 0, none⟩), .pointer (some ⟨w2.heap.size, 0, none⟩)]) rfl trivial (enters_of Try.func62 (by kernel_rfl) rfl)
    (up_stops 8 (by omega) (fun k => w2.heap.size + 2 ≤ k) (some ⟨b, 0, none⟩) T N cap c i HN.out HG.out w2 HT2.out (fun b o e => (HA.out b o e).imp id (fun h h2 => by have := HS.out; omega)) (fun h => by omega)) Kp.t (Kp.b (by simp)) (Below.refl _ _) (fun _ => rfl)
    (fun pre W => ((∀ y ∈ pre, ¬ badN T si (y : Id N).val) ∧ W.cell? ⟨w.heap.size, 0, none⟩ = some (.slice (some ⟨b, 0, none⟩) N cap) ∧ W.cell? ⟨w.heap.size + 2, 0, none⟩ = some (.int .i64 si) ∧ W.cell? ⟨w.heap.size + 1, 0, none⟩ = some (.bool false) ∧ W.frozen? ⟨w.heap.size + 1, 0, none⟩ = false) ∧ Below w.heap.size w W)
    (fun c pre W => (c = .ret ∧ (∃ y ∈ pre, badN T si (y : Id N).val) ∧ W.cell? ⟨w.heap.size + 1, 0, none⟩ = some (.bool false)) ∧ Below w.heap.size w W)
    (OwnFrom.and (Own.from (fun s A B row hs hg hr => ⟨hs.1, cell_kept hs.2.1 hg hr, cell_kept hs.2.2.1 hg hr, cell_kept hs.2.2.2.1 hg hr, (frozen_kept hs.2.2.2.1 hg hr).trans hs.2.2.2.2⟩) _) (ownFrom_below (Nat.le_refl _) (by have := HS.out; simp; omega)))
    (fun _ => OwnFrom.and (Own.from (fun s A B row hs hg hr => ⟨hs.1, hs.2.1, cell_kept hs.2.2 hg hr⟩) _) (ownFrom_below (Nat.le_refl _) (by have := HS.out; simp; omega)))
    ⟨⟨by simp, cell_al _ (cell_al _ H0.out), cell_al _ (cell_al _ H2.out), cell_al _ (cell_al _ H1.out), frozen_al _ (cell_al _ H1.out) (frozen_al _ H1.out HF.out)⟩, below_two (below_two HB.out (below_new w2 _)) (below_new _ _)⟩
    ?acts ?assign ?body ?done ?stop
  case assign =>
    intro l x W K hK
    gi_wp2
    exact hK
  case body =>
    rintro l pre x W ⟨⟨hp, k0, k2, kr, fr⟩, hB⟩ hlen
    obtain ⟨b', hAe, hb', p0, p1, _, _⟩ := (HT.out.below hB).get (i := x.val) (by rw [HN.out]; exact x.isLt)
    obtain rfl : b' = b := by injection hAe with e; injection e with e1; exact e1.symm
    have hxl : x.val < N := x.isLt
    have hn64 : N ≤ 64 := by have := HG.out.n; have := HN.out; omega
    have HP := Lib.hid hp
    have HB3 := Lib.hid hB
    obtain ⟨q, hq⟩ : ∃ q, q = (T.tx x.val).s := ⟨_, rfl⟩
    have q3 := HG.out.s3 (i := x.val) (by rw [HN.out]; exact x.isLt)
    rw [← hq] at q3
    have p9 : W.cell? ⟨b', x.val * 4 + 1, none⟩ = some (.int .i64 q) := by rw [hq]; exact p1
    have HQ := Lib.hid hq
    have H3 := HS3.out
    clear hB hlen hp hq p0 p1 hAe
    rcases q3 with rfl | rfl | rfl <;> rcases H3 with rfl | rfl | rfl
    all_goals
      gi_wp2
      first
        | exact ⟨KeepsOthers.refl _, ⟨KeepsWalks.refl _, Turn.refl _ _⟩, ⟨fun y hy => (List.mem_append.1 hy).elim (HP.out y) (fun h => by simp at h; subst h; exact badN_no HQ.out (by decide)), k0, k2, kr, fr⟩, HB3.out⟩
        | exact ⟨KeepsOthers.setCell _ _ _, ⟨rfl, ⟨x, by simp, badN_yes HQ.out (by decide)⟩, World.cell?_setCell_same' _ _ _ (by rw [kr]; rfl)⟩, HB3.out.setCell (by show w.heap.size ≤ w.heap.size + 1; omega) _⟩
  case done =>
    rintro D ys WD hD hys ⟨⟨hp, k0, k2, kr, fr⟩, hB⟩ hK
    have HW : Hid (True = True) := rfl
    clear hp hys
    have HB3 := Lib.hid hB
    have HD := Lib.hid (show w.heap.size ≤ D from by have := HS.out; simp at hD; omega)
    clear hB hD
    gi_wp2
    have hK' := (KeepsOthers.setCell WD ⟨w.heap.size + 1, 0, none⟩ (.bool true)).same D _ hK rfl
    refine ⟨by simp, .inl ⟨_, _, rfl, run_takeDeferred hK', ?_⟩⟩
    have hc5 := cell_put (o := .deferred none) (World.cell?_setCell_same' WD ⟨w.heap.size + 1, 0, none⟩ (.bool true) (by rw [kr]; rfl)) hK'
    refine ⟨.bool true, ?_, rfl, below_put (HB3.out.setCell (by show w.heap.size ≤ w.heap.size + 1; omega) _) HD.out _⟩
    simp [results, Try.f41, go_sem, hc5]
  case stop =>
    rintro D c pre W hD hpre ⟨⟨rfl, hz, kr⟩, hB⟩ hK
    exact (badN_none HG.out (by rw [HN.out]; exact hi) HSI.out hpre hz).elim

end Go.Proofs.Ytohnfjneghbceaa
