/-
  Where one stands is found out: the plain part, and settle.
-/
import Derived.Test.YtohnfjneghbceaaWays
namespace Go.Proofs.Ytohnfjneghbceaa
set_option maxRecDepth 100000
set_option linter.unusedVariables false
open Go.RowKit Go.Shelf
attribute [local go_sem] Oper.semAt_some

/-- what is told of all is right -/
structure Pk (T : Tr) (of : Nat) (f : Nat → Int) : Prop where
  s : ∀ j, j < T.l.length → f j = 0 ∨ f j = 1 ∨ f j = 2
  yes : ∀ j, j < T.l.length → f j = 1 → T.inn of j
  no : ∀ j, j < T.l.length → f j = 2 → ¬ T.inn of j
  one : f of = 1

def upd (f : Nat → Int) (q : List Nat) (d : Int) (j : Nat) : Int := if j ∈ q then d else f j
/-- what is found on the way up -/
def Fd (T : Tr) (i : Nat) (f : Nat → Int) (d : Int) : Prop :=
  (∃ q x, (q ++ [x]) <+: wayN T.par i ∧ (∀ y ∈ q, f y = 0) ∧ f x ≠ 0 ∧ d = f x) ∨ ((∀ y ∈ wayN T.par i, f y = 0) ∧ d = 2)

theorem Fd.two {T : Tr} {of i : Nat} {f : Nat → Int} {d : Int} (hP : Pk T of f) (hi : i < T.l.length) (h : Fd T i f d) : d = 1 ∨ d = 2 := by
  rcases h with ⟨q, x, hq, _, hx, rfl⟩ | ⟨_, rfl⟩
  · have hm : x ∈ wayN T.par i := hq.subset (by simp)
    rcases hP.s x (way_lt hi hm) with h | h
    · exact absurd h hx
    · exact h
  · exact .inr rfl

theorem prefix_total {l a b : List Nat} (ha : a <+: l) (hb : b <+: l) : a <+: b ∨ b <+: a := by
  rcases Nat.le_total a.length b.length with h | h
  · exact .inl (List.prefix_of_prefix_length_le ha hb h)
  · exact .inr (List.prefix_of_prefix_length_le hb ha h)

theorem Pk.set {T : Tr} {of i : Nat} {f : Nat → Int} {d : Int} (hP : Pk T of f) (hi : i < T.l.length) (h : Fd T i f d) {q : List Nat} (hq : q <+: wayN T.par i) (h0 : ∀ y ∈ q, f y = 0) : Pk T of (upd f q d) := by
  have two := h.two hP hi
  have hof : of ∉ q := fun hm => by have := h0 of hm; rw [hP.one] at this; omega
  have key : ∀ y ∈ q, (d = 1 → T.inn of y) ∧ (d = 2 → ¬ T.inn of y) := by
    intro y hy
    rcases h with ⟨p, x, hp, hp0, hx, rfl⟩ | ⟨hall, rfl⟩
    · have hxl : x < T.l.length := way_lt hi (hp.subset (by simp))
      have hpof : of ∉ p := fun hm => by have := hp0 of hm; rw [hP.one] at this; omega
      have hsub : y ∈ p := by
        rcases prefix_total hq hp with hh | hh
        · have hm := hh.subset hy
          rcases List.mem_append.1 hm with hm | hm
          · exact hm
          · simp at hm; subst hm; exact absurd (h0 y hy) hx
        · have hm : x ∈ q := hh.subset (by simp)
          exact absurd (h0 x hm) hx
      have ht := wayN_told i of p x hp hpof y (List.mem_append_left _ hsub)
      exact ⟨fun e => ht.2 (hP.yes x hxl e), fun e h => hP.no x hxl e (ht.1 h)⟩
    · refine ⟨fun e => by omega, fun _ hm => ?_⟩
      have h1 : of ∈ wayN T.par i := wayN_trans (hq.subset hy) hm
      have := hall of h1
      rw [hP.one] at this
      omega
  refine ⟨fun j hj => ?_, fun j hj e => ?_, fun j hj e => ?_, ?_⟩
  · unfold upd; split
    · exact .inr two
    · exact hP.s j hj
  · unfold upd at e; split at e
    · next hm => exact (key j hm).1 e
    · exact hP.yes j hj e
  · unfold upd at e; split at e
    · next hm => exact (key j hm).2 e
    · exact hP.no j hj e
  · unfold upd; rw [if_neg hof]; exact hP.one

theorem upd_snoc (f : Nat → Int) (q : List Nat) (x : Nat) (d : Int) (j : Nat) : upd f (q ++ [x]) d j = if j = x then d else upd f q d j := by
  unfold upd
  by_cases h1 : j ∈ q <;> by_cases h2 : j = x <;> simp [h1, h2]

/-- the second way: it ends at one of which it is told, or all have come -/
theorem settled {T : Tr} {of i : Nat} {f : Nat → Int} {d : Int} (hP : Pk T of f) (hi : i < T.l.length) (h : Fd T i f d) {q : List Nat} (h0 : ∀ y ∈ q, f y = 0)
    (hq : q = wayN T.par i ∨ ∃ x, (q ++ [x]) <+: wayN T.par i ∧ upd f q d x ≠ 0) : Pk T of (upd f q d) ∧ (upd f q d i = 1 ∨ upd f q d i = 2) := by
  have hpre : q <+: wayN T.par i := by
    rcases hq with rfl | ⟨x, hx, _⟩
    · exact List.prefix_rfl
    · exact (List.prefix_append q [x]).trans hx
  have hPk := hP.set hi h hpre h0
  refine ⟨hPk, ?_⟩
  have hs := hPk.s i hi
  suffices upd f q d i ≠ 0 by rcases hs with h | h; exact absurd h this; exact h
  obtain ⟨r, hr⟩ := wayN_head T.par i
  have two := h.two hP hi
  by_cases hm : i ∈ q
  · unfold upd; rw [if_pos hm]; omega
  · rcases hq with rfl | ⟨x, hx, hne⟩
    · exact absurd (wayN_self T.par i) hm
    · have hx2 : x = i := by
        cases q with
        | nil => rw [hr] at hx; obtain ⟨r', hr'⟩ := hx; simp at hr'; exact hr'.1
        | cons a q => rw [hr] at hx; obtain ⟨r', hr'⟩ := hx; simp at hr'; exact absurd (by rw [hr'.1]; simp) hm
      subst hx2; exact hne

/-- what is told lies in block P -/
def Pl (W : World) (P N : Nat) (f : Nat → Int) : Prop := P < W.heap.size ∧ ∀ j, j < N → W.cell? ⟨P, j, none⟩ = some (.int .i64 (f j)) ∧ W.frozen? ⟨P, j, none⟩ = false
theorem Pl.turn {S : Nat → Prop} {W V : World} {P N : Nat} {f : Nat → Int} (h : Pl W P N f) (ht : Turn S W V) (hS : ¬ S P) : Pl V P N f :=
  ⟨Nat.lt_of_lt_of_le h.1 ht.size, fun j hj => ⟨ht.cell (h.2 j hj).1 hS, (World.frozen?_of_block (a := ⟨P, j, none⟩) (ht.block P h.1 hS)).trans (h.2 j hj).2⟩⟩
theorem Pl.below {W V : World} {P N : Nat} {f : Nat → Int} (h : Pl W P N f) (hb : Below W.heap.size W V) : Pl V P N f := h.turn (S := fun _ => False) (Turn.ofBelow hb) id
theorem Pl.set {W : World} {P N : Nat} {f g : Nat → Int} (h : Pl W P N f) {x : Nat} (hx : x < N) {d : Int} (hg : ∀ j, g j = if j = x then d else f j) : Pl (W.setCell ⟨P, x, none⟩ (.int .i64 d)) P N g := by
  refine ⟨by simpa [World.setCell] using h.1, fun j hj => ⟨?_, by rw [World.frozen?_setCell]; exact (h.2 j hj).2⟩⟩
  rw [hg j]
  by_cases e : j = x
  · subst e
    rw [if_pos rfl]
    exact World.cell?_setCell_same' _ _ _ (by rw [(h.2 j hj).1]; rfl)
  · rw [if_neg e, World.cell?_setCell_other _ _ _ _ (by intro h; injection h with _ h; exact e h.symm)]
    exact (h.2 j hj).1
theorem ownPl {B P N : Nat} {β : Type} (g : β → Nat → Int) : OwnFrom B (fun s W => Pl W P N (g s)) := fun s W W' row h hg hr => by
  have hne : 0 < N → some P ≠ row := fun h0 e => by
    obtain ⟨_, o, ho, hc⟩ := hr P e.symm
    obtain ⟨o', ho', hc'⟩ := cells_of_cell (h.2 0 h0).1
    have : o = o' := by have h1 : W.heap[P]? = some o' := ho'; rw [ho] at h1; injection h1
    subst this; rw [hc] at hc'; cases hc'
  exact ⟨Nat.lt_of_lt_of_le h.1 hg.size, fun j hj => ⟨cell_kept (h.2 j hj).1 hg (fun r e => (hr r e).2), (frozen_kept (h.2 j hj).1 hg (fun r e => (hr r e).2)).trans (h.2 j hj).2⟩⟩
theorem ownTurn {B : Nat} {S : Nat → Prop} {w : World} {β : Type} (hB : w.heap.size ≤ B) : OwnFrom (β := β) B (fun _ W => Turn S w W) := fun s W W' row h hg hr => h.grown hg (fun j e => .inr (by have := (hr j e).1; omega))
theorem ownHeap {B D : Nat} {o : Obj} {β : Type} (hD : D < B) : OwnFrom (β := β) B (fun _ W => W.heap[D]? = some o) := fun s W W' row h hg hr =>
  (hg.block D (lt_of_block h) (fun e => by have := (hr D e.symm).1; omega)).trans h

set_option maxHeartbeats 8000000 in
/-- where one stands, and all on its way, is found out -/
theorem settle_any (A : Option Addr) (T : Tr) (N cap pc P : Nat) (c : Int) (i of : Nat) (hi : i < N) (f : Nat → Int) (hN : T.l.length = N) (hG : Good T) (w : World) (hT : TxAt w A T.l) (hPl : Pl w P N f) (hPk : Pk T of f) (hAP : ∀ b o, A = some ⟨b, o, none⟩ → b ≠ P) :
    Calls Try.prog 64 #[.agg #[.slice A N cap, .int .i64 c], .slice (some ⟨P, 0, none⟩) N pc, .int .i64 (i : Int)] w fun e w' => e = .returned (.tuple #[]) ∧ Turn (fun k => k = P) w w' ∧ ∃ f', Pl w' P N f' ∧ Pk T of f' ∧ (f' i = 1 ∨ f' i = 2) := by
  refine (callsIn_wide (n := 9)).1 ?_
  refine callsIn_of_wp_marks Try.func64 rfl trivial ?_ rfl
  simp only [Try.ntmps64, List.size_toArray, List.length_cons, List.length_nil, Nat.reduceAdd, Nat.reduceSub, Array.replicate_succ, Array.replicate_zero, List.push_toArray, List.append_toArray, List.nil_append, List.cons_append]
  have HG := Lib.hid hG
  have HT := Lib.hid hT
  have HN := Lib.hid hN
  have HPL := Lib.hid hPl
  have HPK := Lib.hid hPk
  have HA := Lib.hid (show ∀ b o, A = some ⟨b, o, none⟩ → T.l = [] ∨ (b < w.heap.size ∧ b ≠ P) from fun b o e => (hT.lt b o e).imp id (fun h => ⟨h, hAP b o e⟩))
  clear hG hT hN hPl hPk hAP
  gi_wp2_with fail
  obtain ⟨wx0, hw0⟩ : ∃ wx, wx = w.alloc (.cells #[.slice A N cap, .int .i64 c] 26) := ⟨_, rfl⟩
  obtain ⟨wx1, hw1⟩ : ∃ wx, wx = wx0.alloc (.cells #[.slice (some ⟨P, 0, none⟩) N pc] 102) := ⟨_, rfl⟩
  obtain ⟨w2, hw2⟩ : ∃ wx, wx = wx1.alloc (.cells #[.int .i64 2] 103) := ⟨_, rfl⟩
  have s0 : wx0.heap.size = w.heap.size + 1 := by rw [hw0]; simp
  have s1 : wx1.heap.size = w.heap.size + 2 := by rw [hw1]; simp [s0]
  have s2 : w2.heap.size = w.heap.size + 3 := by rw [hw2]; simp [s1]
  have k0 : w2.cell? ⟨w.heap.size, 0, none⟩ = some (.slice A N cap) := by rw [hw2, hw1, hw0]; exact cell_al _ (cell_al _ ((cell_new w _ _ 0).trans rfl))
  have k9 : w2.cell? ⟨w.heap.size, 1, none⟩ = some (.int .i64 c) := by rw [hw2, hw1, hw0]; exact cell_al _ (cell_al _ ((cell_new w _ _ 1).trans rfl))
  have k1 : w2.cell? ⟨w.heap.size + 1, 0, none⟩ = some (.slice (some ⟨P, 0, none⟩) N pc) := by rw [hw2, hw1, ← s0]; exact cell_al _ ((cell_new wx0 _ _ 0).trans rfl)
  have k2 : w2.cell? ⟨w.heap.size + 2, 0, none⟩ = some (.int .i64 2) := by rw [hw2, ← s1]; exact (cell_new wx1 _ _ 0).trans rfl
  have f0 : w2.frozen? ⟨w.heap.size + 2, 0, none⟩ = false := by rw [hw2, ← s1]; exact frozen_new wx1 _ _ 0
  have HB := Lib.hid (show Below w.heap.size w w2 from by rw [hw2, hw1, hw0]; exact below_two (below_two (below_new w _) (below_new _ _)) (below_new _ _))
  rw [← hw0, ← hw1, ← hw2]
  have HT2 := Lib.hid (HT.out.below HB.out)
  have H0 := Lib.hid k0
  have H9 := Lib.hid k9
  have H1 := Lib.hid k1
  have H2 := Lib.hid k2
  have HF := Lib.hid f0
  have HS := Lib.hid s2
  clear hw0 s0 k0 hw1 s1 k1 hw2 s2 k2 k9 f0
  clear wx0 wx1
  refine ⟨trivial, (callsIn_wide.2 (up_any A N cap c (i : Int) w2)).mono ?_⟩
  rintro e w3 ⟨rfl, rfl⟩
  gi_wp2_with fail
  refine wpIn_rangeFunc_ownF rfl (by omega) (gf := 62) (lb := #[.pointer (some ⟨w2.heap.size + 1, 0, none⟩), .pointer (some ⟨w2.heap.size, 0, none⟩)]) rfl trivial (enters_of Try.func62 (by kernel_rfl) rfl)
    (up_stops 8 (by omega) (fun k => w2.heap.size + 2 ≤ k) A T N cap c (i : Int) HN.out HG.out w2 HT2.out (fun b o e => (HA.out b o e).imp id (fun h h2 => by have := HS.out; omega)) (fun h => by omega)) Kp.t (Kp.b (by simp)) (Below.refl _ _) (fun _ => rfl)
    (fun pre W => ((∀ y ∈ pre, f (y : Id N).val = 0) ∧ W.cell? ⟨w.heap.size, 0, none⟩ = some (.slice A N cap) ∧ W.cell? ⟨w.heap.size, 1, none⟩ = some (.int .i64 c) ∧ W.cell? ⟨w.heap.size + 1, 0, none⟩ = some (.slice (some ⟨P, 0, none⟩) N pc) ∧ W.cell? ⟨w.heap.size + 2, 0, none⟩ = some (.int .i64 2) ∧ W.frozen? ⟨w.heap.size + 2, 0, none⟩ = false) ∧ Below w.heap.size w W)
    (fun cc pre W => (cc = .exit 0 ∧ (∃ q : List (Id N), ∃ x, pre = q ++ [x] ∧ (∀ y ∈ q, f (y : Id N).val = 0) ∧ f x.val ≠ 0 ∧ W.cell? ⟨w.heap.size + 2, 0, none⟩ = some (.int .i64 (f x.val))) ∧ W.cell? ⟨w.heap.size, 0, none⟩ = some (.slice A N cap) ∧ W.cell? ⟨w.heap.size, 1, none⟩ = some (.int .i64 c) ∧ W.cell? ⟨w.heap.size + 1, 0, none⟩ = some (.slice (some ⟨P, 0, none⟩) N pc)) ∧ Below w.heap.size w W)
    (OwnFrom.and (Own.from (fun s A B row hs hg hr => ⟨hs.1, cell_kept hs.2.1 hg hr, cell_kept hs.2.2.1 hg hr, cell_kept hs.2.2.2.1 hg hr, cell_kept hs.2.2.2.2.1 hg hr, (frozen_kept hs.2.2.2.2.1 hg hr).trans hs.2.2.2.2.2⟩) _) (ownFrom_below (Nat.le_refl _) (by have := HS.out; simp; omega)))
    (fun _ => OwnFrom.and (Own.from (fun s A B row hs hg hr => ⟨hs.1, (by obtain ⟨q, x, e1, e2, e3, e4⟩ := hs.2.1; exact ⟨q, x, e1, e2, e3, cell_kept e4 hg hr⟩), cell_kept hs.2.2.1 hg hr, cell_kept hs.2.2.2.1 hg hr, cell_kept hs.2.2.2.2 hg hr⟩) _) (ownFrom_below (Nat.le_refl _) (by have := HS.out; simp; omega)))
    ⟨⟨by simp, cell_al _ (cell_al _ H0.out), cell_al _ (cell_al _ H9.out), cell_al _ (cell_al _ H1.out), cell_al _ (cell_al _ H2.out), frozen_al _ (cell_al _ H2.out) (frozen_al _ H2.out HF.out)⟩, below_two (below_two HB.out (below_new w2 _)) (below_new _ _)⟩
    ?acts ?assign ?body ?done ?stop
  case assign =>
    intro l x W K hK
    gi_wp2
    exact hK
  case body =>
    rintro l pre x W ⟨⟨hp, k0, k9, k1, k2, f0⟩, hB⟩ hlen
    have hxl : x.val < N := x.isLt
    obtain ⟨hc, hf⟩ := (HPL.out.below hB).2 x.val hxl
    obtain ⟨q, hq⟩ : ∃ q, q = f x.val := ⟨_, rfl⟩
    rw [← hq] at hc
    have HQ := Lib.hid hq
    have HP := Lib.hid hp
    have HB3 := Lib.hid hB
    have hn64 : N ≤ 64 := by have := HG.out.n; have := HN.out; omega
    clear hq hp hB hlen
    by_cases hx : q = 0
    · have hxb : (q == 0) = true := by simpa using hx
      have HX := Lib.hid hx
      clear hx
      gi_wp2
      exact ⟨KeepsOthers.refl _, ⟨KeepsWalks.refl _, Turn.refl _ _⟩, ⟨fun y hy => (List.mem_append.1 hy).elim (HP.out y) (fun h => by simp at h; subst h; rw [← HQ.out]; exact HX.out), k0, k9, k1, k2, f0⟩, HB3.out⟩
    · have hxb : (q == 0) = false := by simpa using hx
      have HX := Lib.hid hx
      clear hx
      gi_wp2
      refine ⟨KeepsOthers.setCell _ _ _, ⟨rfl, ⟨pre, x, rfl, HP.out, by rw [← HQ.out]; exact HX.out, ?_⟩, ?_, ?_, ?_⟩, HB3.out.setCell (by show w.heap.size ≤ w.heap.size + 2; omega) _⟩
      · rw [← HQ.out]; exact World.cell?_setCell_same' _ _ _ (by rw [k2]; rfl)
      · rw [World.cell?_setCell_far _ _ _ _ (by simp only [ne_eq]; omega)]; exact k0
      · rw [World.cell?_setCell_far _ _ _ _ (by simp only [ne_eq]; omega)]; exact k9
      · rw [World.cell?_setCell_far _ _ _ _ (by simp only [ne_eq]; omega)]; exact k1
  case done =>
    rintro D ys WD hD hys ⟨⟨hp, k0, k9, k1, k2, f0⟩, hB⟩ hK
    obtain ⟨fd, hi2⟩ : ∃ fd : Int, fd = 2 := ⟨_, rfl⟩
    rw [← hi2] at k2
    have hfd : Fd T i f fd := by exact .inr ⟨fun y hy => by rw [← Tr.way_nat (T := T) (by rw [HN.out]; exact hi)] at hy; obtain ⟨z, hz, rfl⟩ := all_mem hys hy; exact hp z hz, hi2⟩
    have htwo := hfd.two HPK.out (by rw [HN.out]; exact hi)
    have HFD := Lib.hid hfd
    have HTWO := Lib.hid htwo
    have HW0 := Lib.hid hB
    have HD := Lib.hid (show w.heap.size ≤ D from by have := HS.out; simp at hD; omega)
    have HKD := Lib.hid hK
    clear hp hys hfd htwo hB hD hK hi2
    gi_wp2_with fail
    refine ⟨trivial, (callsIn_wide.2 (up_any A N cap c (i : Int) WD)).mono ?_⟩
    rintro e w4 ⟨rfl, rfl⟩
    gi_wp2_with fail
    have hsz : w.heap.size ≤ WD.heap.size := HW0.out.size
    have hDl : D < WD.heap.size := lt_of_block HKD.out
    have HSZ := Lib.hid hsz
    have HDL := Lib.hid hDl
    clear hsz hDl
    refine wpIn_rangeFunc_ownF rfl (by omega) (gf := 62) (lb := #[.pointer (some ⟨WD.heap.size + 1, 0, none⟩), .pointer (some ⟨WD.heap.size, 0, none⟩)]) rfl trivial (enters_of Try.func62 (by kernel_rfl) rfl)
      (up_stops 8 (by omega) (fun k => k = P ∨ WD.heap.size + 2 ≤ k) A T N cap c (i : Int) HN.out HG.out WD (HT.out.below HW0.out) (fun b o e => by
        rcases HA.out b o e with h | ⟨h1, h2⟩
        · exact .inl h
        · exact .inr (fun h => by have := HSZ.out; omega)) (fun h => by have h1 := HPL.out.1; have := HSZ.out; omega)) Kp.t (Kp.b (by simp; omega)) (Below.refl _ _) (fun _ => rfl)
      (fun pre W => ((∀ y ∈ pre, f (y : Id N).val = 0) ∧ W.cell? ⟨w.heap.size + 1, 0, none⟩ = some (.slice (some ⟨P, 0, none⟩) N pc) ∧ W.cell? ⟨w.heap.size + 2, 0, none⟩ = some (.int .i64 fd)) ∧ Pl W P N (upd f (pre.map (·.val)) fd) ∧ Turn (fun k => k = P) w W ∧ W.heap[D]? = some (.deferred (some [])))
      (fun cc pre W => (cc = .exit 2 ∧ ∃ q : List (Id N), ∃ x, pre = q ++ [x] ∧ (∀ y ∈ q, f (y : Id N).val = 0) ∧ upd f (q.map (·.val)) fd x.val ≠ 0) ∧ Pl W P N (upd f (pre.dropLast.map (·.val)) fd) ∧ Turn (fun k => k = P) w W ∧ W.heap[D]? = some (.deferred (some [])))
      (OwnFrom.and (Own.from (fun s A B row hs hg hr => ⟨hs.1, cell_kept hs.2.1 hg hr, cell_kept hs.2.2 hg hr⟩) _) (OwnFrom.and (ownPl (fun pre : List (Id N) => upd f (pre.map (·.val)) fd)) (OwnFrom.and (ownTurn (by have := HSZ.out; simp; omega)) (ownHeap (by have := HDL.out; simp; omega)))))
      (fun _ => OwnFrom.and (Own.from (fun s A B row hs hg hr => hs) _) (OwnFrom.and (ownPl (fun pre : List (Id N) => upd f (pre.dropLast.map (·.val)) fd)) (OwnFrom.and (ownTurn (by have := HSZ.out; simp; omega)) (ownHeap (by have := HDL.out; simp; omega)))))
      ⟨⟨by simp, cell_al _ (cell_al _ k1), cell_al _ (cell_al _ k2)⟩, ((HPL.out.below HW0.out).below (below_new _ _)).below (below_new _ _), Turn.ofBelow (below_two (below_two HW0.out (below_new WD _)) (below_new _ _)), ((below_new _ _).block D (by have := HDL.out; simp; omega)).trans (((below_new WD _).block D HDL.out).trans HKD.out)⟩
      ?acts2 ?assign2 ?body2 ?done2 ?stop2
    case assign2 =>
      intro l x W K hK
      gi_wp2
      exact hK
    case body2 =>
      rintro l pre x W ⟨⟨hp, k1, k2⟩, hpl, ht, hkd⟩ hlen
      have hxl : x.val < N := x.isLt
      obtain ⟨hc, hf⟩ := hpl.2 x.val hxl
      obtain ⟨q, hq⟩ : ∃ q, q = upd f (pre.map (·.val)) fd x.val := ⟨_, rfl⟩
      rw [← hq] at hc
      have HQ := Lib.hid hq
      have HP := Lib.hid hp
      have HPL2 := Lib.hid hpl
      have HT3 := Lib.hid ht
      have HKD2 := Lib.hid hkd
      have hn64 : N ≤ 64 := by have := HG.out.n; have := HN.out; omega
      clear hq hp hpl ht hkd hlen
      by_cases hx : q = 0
      · have hxb : (q == 0) = true := by simpa using hx
        have hfx : f x.val = 0 := by
          have h1 := HQ.out
          rw [hx] at h1
          unfold upd at h1
          split at h1
          · have := HTWO.out; omega
          · exact h1.symm
        have HFX := Lib.hid hfx
        clear hx hfx
        gi_wp2
        refine ⟨KeepsOthers.setCell _ _ _, ⟨KeepsWalks.setCell _ _ _, (Turn.refl _ W).setCell _ _ (.inl (.inl rfl))⟩, ⟨fun y hy => (List.mem_append.1 hy).elim (HP.out y) (fun h => by simp at h; subst h; exact HFX.out), ?_, ?_⟩, ?_, HT3.out.setCell _ _ (.inl rfl), ?_⟩
        · rw [World.cell?_setCell_far _ _ _ _ (by have := HPL.out.1; simp; omega)]; exact k1
        · rw [World.cell?_setCell_far _ _ _ _ (by have := HPL.out.1; simp; omega)]; exact k2
        · exact HPL2.out.set hxl (fun j => by rw [List.map_append]; exact upd_snoc _ _ _ _ _)
        · exact (KeepsOthers.setCell W _ _).same D _ HKD2.out rfl
      · have hxb : (q == 0) = false := by simpa using hx
        have HX := Lib.hid hx
        clear hx
        gi_wp2
        exact ⟨KeepsOthers.refl _, ⟨rfl, pre, x, rfl, HP.out, by rw [← HQ.out]; exact HX.out⟩, by rw [List.dropLast_concat]; exact HPL2.out, HT3.out, HKD2.out⟩
    case done2 =>
      rintro D2 ys W2 hD2 hys ⟨⟨hp, k1, k2⟩, hpl, ht, hkd⟩ hK2
      have hend := settled HPK.out (by rw [HN.out]; exact hi) HFD.out (q := ys.map (·.val)) (fun y hy => by obtain ⟨z, hz, rfl⟩ := List.mem_map.1 hy; exact hp z hz) (.inl (by rw [hys, Tr.way_nat (by rw [HN.out]; exact hi)]))
      have hD3 : WD.heap.size + 2 ≤ D2 := by simpa using hD2
      have HE := Lib.hid hend
      have HPL3 := Lib.hid hpl
      have HT4 := Lib.hid ht
      have HD3 := Lib.hid hD3
      have hKD2 := hkd
      clear hp hys hend hpl ht hD2 hD3 hkd
      gi_wp2
      refine ⟨by simp, .inl ⟨_, _, rfl, run_takeDeferred hK2, ?_⟩⟩
      have hne2 : D ≠ D2 := by have := HD3.out; have := HDL.out; omega
      have hKD3 : (W2.putObj D2 (.deferred none)).heap[D]? = some (.deferred (some [])) := (World.putObj_heap_other hne2).trans hKD2
      refine ⟨by simp, .inl ⟨_, _, rfl, run_takeDeferred hKD3, ?_⟩⟩
      have hs2 : w.heap.size ≤ W2.heap.size := HT4.out.size
      have t1 : Turn (fun k => k = P) w (W2.putObj D2 (.deferred none)) := HT4.out.grown (grownBy_putObj' _ _ _) (fun j e => by cases e; have := HD3.out; have := HSZ.out; exact .inr (by omega))
      have t2 : Turn (fun k => k = P) w ((W2.putObj D2 (.deferred none)).putObj D (.deferred none)) := t1.grown (grownBy_putObj' _ _ _) (fun j e => by cases e; exact .inr HD.out)
      have hPlt := HPL.out.1
      have p1 : Pl (W2.putObj D2 (.deferred none)) P N _ := HPL3.out.turn (S := fun k => k = D2) ((Turn.refl _ W2).grown (grownBy_putObj' _ _ _) (fun j e => by cases e; exact .inl rfl)) (by have := HD3.out; have := HSZ.out; omega)
      have p2 : Pl ((W2.putObj D2 (.deferred none)).putObj D (.deferred none)) P N _ := p1.turn (S := fun k => k = D) ((Turn.refl _ _).grown (grownBy_putObj' _ _ _) (fun j e => by cases e; exact .inl rfl)) (by have := HD.out; omega)
      exact ⟨.tuple #[], results_none rfl _ _ _, rfl, t2, _, p2, HE.out.1, HE.out.2⟩
    case stop2 =>
      rintro D2 cc pre W2 hD2 hpre ⟨⟨rfl, q, x, rfl, hp, hne⟩, hpl, ht, hkd⟩ hK2
      rw [List.dropLast_concat] at hpl
      have hend := settled HPK.out (by rw [HN.out]; exact hi) HFD.out (q := q.map (·.val)) (fun y hy => by obtain ⟨z, hz, rfl⟩ := List.mem_map.1 hy; exact hp z hz) (.inr ⟨x.val, by rw [← Tr.way_nat (T := T) (by rw [HN.out]; exact hi)]; simpa using hpre, hne⟩)
      have hD3 : WD.heap.size + 2 ≤ D2 := by simpa using hD2
      have HE := Lib.hid hend
      have HPL3 := Lib.hid hpl
      have HT4 := Lib.hid ht
      have HD3 := Lib.hid hD3
      have hKD2 := hkd
      clear hp hne hpre hend hpl ht hD2 hD3 hkd
      gi_wp2
      refine ⟨by simp, .inl ⟨_, _, rfl, run_takeDeferred hK2, ?_⟩⟩
      have hne2 : D ≠ D2 := by have := HD3.out; have := HDL.out; omega
      have hKD3 : (W2.putObj D2 (.deferred none)).heap[D]? = some (.deferred (some [])) := (World.putObj_heap_other hne2).trans hKD2
      refine ⟨by simp, .inl ⟨_, _, rfl, run_takeDeferred hKD3, ?_⟩⟩
      have hs2 : w.heap.size ≤ W2.heap.size := HT4.out.size
      have t1 : Turn (fun k => k = P) w (W2.putObj D2 (.deferred none)) := HT4.out.grown (grownBy_putObj' _ _ _) (fun j e => by cases e; have := HD3.out; have := HSZ.out; exact .inr (by omega))
      have t2 : Turn (fun k => k = P) w ((W2.putObj D2 (.deferred none)).putObj D (.deferred none)) := t1.grown (grownBy_putObj' _ _ _) (fun j e => by cases e; exact .inr HD.out)
      have hPlt := HPL.out.1
      have p1 : Pl (W2.putObj D2 (.deferred none)) P N _ := HPL3.out.turn (S := fun k => k = D2) ((Turn.refl _ W2).grown (grownBy_putObj' _ _ _) (fun j e => by cases e; exact .inl rfl)) (by have := HD3.out; have := HSZ.out; omega)
      have p2 : Pl ((W2.putObj D2 (.deferred none)).putObj D (.deferred none)) P N _ := p1.turn (S := fun k => k = D) ((Turn.refl _ _).grown (grownBy_putObj' _ _ _) (fun j e => by cases e; exact .inl rfl)) (by have := HD.out; omega)
      exact ⟨.tuple #[], results_none rfl _ _ _, rfl, t2, _, p2, HE.out.1, HE.out.2⟩
  case stop =>
    rintro D cc pre WD hD hpre ⟨⟨rfl, ⟨q, x, rfl, hq0, hx0, k2⟩, k0, k9, k1⟩, hB⟩ hK
    obtain ⟨fd, hi2⟩ : ∃ fd : Int, fd = f x.val := ⟨_, rfl⟩
    rw [← hi2] at k2
    have hfd : Fd T i f fd := by exact .inl ⟨q.map (·.val), x.val, by rw [← Tr.way_nat (T := T) (by rw [HN.out]; exact hi)]; simpa using hpre, (fun y hy => by obtain ⟨z, hz, rfl⟩ := List.mem_map.1 hy; exact hq0 z hz), hx0, hi2⟩
    have htwo := hfd.two HPK.out (by rw [HN.out]; exact hi)
    have HFD := Lib.hid hfd
    have HTWO := Lib.hid htwo
    have HW0 := Lib.hid hB
    have HD := Lib.hid (show w.heap.size ≤ D from by have := HS.out; simp at hD; omega)
    have HKD := Lib.hid hK
    clear hq0 hx0 hpre hfd htwo hB hD hK hi2
    gi_wp2_with fail
    refine ⟨trivial, (callsIn_wide.2 (up_any A N cap c (i : Int) WD)).mono ?_⟩
    rintro e w4 ⟨rfl, rfl⟩
    gi_wp2_with fail
    have hsz : w.heap.size ≤ WD.heap.size := HW0.out.size
    have hDl : D < WD.heap.size := lt_of_block HKD.out
    have HSZ := Lib.hid hsz
    have HDL := Lib.hid hDl
    clear hsz hDl
    refine wpIn_rangeFunc_ownF rfl (by omega) (gf := 62) (lb := #[.pointer (some ⟨WD.heap.size + 1, 0, none⟩), .pointer (some ⟨WD.heap.size, 0, none⟩)]) rfl trivial (enters_of Try.func62 (by kernel_rfl) rfl)
      (up_stops 8 (by omega) (fun k => k = P ∨ WD.heap.size + 2 ≤ k) A T N cap c (i : Int) HN.out HG.out WD (HT.out.below HW0.out) (fun b o e => by
        rcases HA.out b o e with h | ⟨h1, h2⟩
        · exact .inl h
        · exact .inr (fun h => by have := HSZ.out; omega)) (fun h => by have h1 := HPL.out.1; have := HSZ.out; omega)) Kp.t (Kp.b (by simp; omega)) (Below.refl _ _) (fun _ => rfl)
      (fun pre W => ((∀ y ∈ pre, f (y : Id N).val = 0) ∧ W.cell? ⟨w.heap.size + 1, 0, none⟩ = some (.slice (some ⟨P, 0, none⟩) N pc) ∧ W.cell? ⟨w.heap.size + 2, 0, none⟩ = some (.int .i64 fd)) ∧ Pl W P N (upd f (pre.map (·.val)) fd) ∧ Turn (fun k => k = P) w W ∧ W.heap[D]? = some (.deferred (some [])))
      (fun cc pre W => (cc = .exit 2 ∧ ∃ q : List (Id N), ∃ x, pre = q ++ [x] ∧ (∀ y ∈ q, f (y : Id N).val = 0) ∧ upd f (q.map (·.val)) fd x.val ≠ 0) ∧ Pl W P N (upd f (pre.dropLast.map (·.val)) fd) ∧ Turn (fun k => k = P) w W ∧ W.heap[D]? = some (.deferred (some [])))
      (OwnFrom.and (Own.from (fun s A B row hs hg hr => ⟨hs.1, cell_kept hs.2.1 hg hr, cell_kept hs.2.2 hg hr⟩) _) (OwnFrom.and (ownPl (fun pre : List (Id N) => upd f (pre.map (·.val)) fd)) (OwnFrom.and (ownTurn (by have := HSZ.out; simp; omega)) (ownHeap (by have := HDL.out; simp; omega)))))
      (fun _ => OwnFrom.and (Own.from (fun s A B row hs hg hr => hs) _) (OwnFrom.and (ownPl (fun pre : List (Id N) => upd f (pre.dropLast.map (·.val)) fd)) (OwnFrom.and (ownTurn (by have := HSZ.out; simp; omega)) (ownHeap (by have := HDL.out; simp; omega)))))
      ⟨⟨by simp, cell_al _ (cell_al _ k1), cell_al _ (cell_al _ k2)⟩, ((HPL.out.below HW0.out).below (below_new _ _)).below (below_new _ _), Turn.ofBelow (below_two (below_two HW0.out (below_new WD _)) (below_new _ _)), ((below_new _ _).block D (by have := HDL.out; simp; omega)).trans (((below_new WD _).block D HDL.out).trans HKD.out)⟩
      ?acts3 ?assign3 ?body3 ?done3 ?stop3
    case assign3 =>
      intro l x W K hK
      gi_wp2
      exact hK
    case body3 =>
      rintro l pre x W ⟨⟨hp, k1, k2⟩, hpl, ht, hkd⟩ hlen
      have hxl : x.val < N := x.isLt
      obtain ⟨hc, hf⟩ := hpl.2 x.val hxl
      obtain ⟨q, hq⟩ : ∃ q, q = upd f (pre.map (·.val)) fd x.val := ⟨_, rfl⟩
      rw [← hq] at hc
      have HQ := Lib.hid hq
      have HP := Lib.hid hp
      have HPL2 := Lib.hid hpl
      have HT3 := Lib.hid ht
      have HKD2 := Lib.hid hkd
      have hn64 : N ≤ 64 := by have := HG.out.n; have := HN.out; omega
      clear hq hp hpl ht hkd hlen
      by_cases hx : q = 0
      · have hxb : (q == 0) = true := by simpa using hx
        have hfx : f x.val = 0 := by
          have h1 := HQ.out
          rw [hx] at h1
          unfold upd at h1
          split at h1
          · have := HTWO.out; omega
          · exact h1.symm
        have HFX := Lib.hid hfx
        clear hx hfx
        gi_wp2
        refine ⟨KeepsOthers.setCell _ _ _, ⟨KeepsWalks.setCell _ _ _, (Turn.refl _ W).setCell _ _ (.inl (.inl rfl))⟩, ⟨fun y hy => (List.mem_append.1 hy).elim (HP.out y) (fun h => by simp at h; subst h; exact HFX.out), ?_, ?_⟩, ?_, HT3.out.setCell _ _ (.inl rfl), ?_⟩
        · rw [World.cell?_setCell_far _ _ _ _ (by have := HPL.out.1; simp; omega)]; exact k1
        · rw [World.cell?_setCell_far _ _ _ _ (by have := HPL.out.1; simp; omega)]; exact k2
        · exact HPL2.out.set hxl (fun j => by rw [List.map_append]; exact upd_snoc _ _ _ _ _)
        · exact (KeepsOthers.setCell W _ _).same D _ HKD2.out rfl
      · have hxb : (q == 0) = false := by simpa using hx
        have HX := Lib.hid hx
        clear hx
        gi_wp2
        exact ⟨KeepsOthers.refl _, ⟨rfl, pre, x, rfl, HP.out, by rw [← HQ.out]; exact HX.out⟩, by rw [List.dropLast_concat]; exact HPL2.out, HT3.out, HKD2.out⟩
    case done3 =>
      rintro D2 ys W2 hD2 hys ⟨⟨hp, k1, k2⟩, hpl, ht, hkd⟩ hK2
      have hend := settled HPK.out (by rw [HN.out]; exact hi) HFD.out (q := ys.map (·.val)) (fun y hy => by obtain ⟨z, hz, rfl⟩ := List.mem_map.1 hy; exact hp z hz) (.inl (by rw [hys, Tr.way_nat (by rw [HN.out]; exact hi)]))
      have hD3 : WD.heap.size + 2 ≤ D2 := by simpa using hD2
      have HE := Lib.hid hend
      have HPL3 := Lib.hid hpl
      have HT4 := Lib.hid ht
      have HD3 := Lib.hid hD3
      have hKD2 := hkd
      clear hp hys hend hpl ht hD2 hD3 hkd
      gi_wp2
      refine ⟨by simp, .inl ⟨_, _, rfl, run_takeDeferred hK2, ?_⟩⟩
      have hne2 : D ≠ D2 := by have := HD3.out; have := HDL.out; omega
      have hKD3 : (W2.putObj D2 (.deferred none)).heap[D]? = some (.deferred (some [])) := (World.putObj_heap_other hne2).trans hKD2
      refine ⟨by simp, .inl ⟨_, _, rfl, run_takeDeferred hKD3, ?_⟩⟩
      have hs2 : w.heap.size ≤ W2.heap.size := HT4.out.size
      have t1 : Turn (fun k => k = P) w (W2.putObj D2 (.deferred none)) := HT4.out.grown (grownBy_putObj' _ _ _) (fun j e => by cases e; have := HD3.out; have := HSZ.out; exact .inr (by omega))
      have t2 : Turn (fun k => k = P) w ((W2.putObj D2 (.deferred none)).putObj D (.deferred none)) := t1.grown (grownBy_putObj' _ _ _) (fun j e => by cases e; exact .inr HD.out)
      have hPlt := HPL.out.1
      have p1 : Pl (W2.putObj D2 (.deferred none)) P N _ := HPL3.out.turn (S := fun k => k = D2) ((Turn.refl _ W2).grown (grownBy_putObj' _ _ _) (fun j e => by cases e; exact .inl rfl)) (by have := HD3.out; have := HSZ.out; omega)
      have p2 : Pl ((W2.putObj D2 (.deferred none)).putObj D (.deferred none)) P N _ := p1.turn (S := fun k => k = D) ((Turn.refl _ _).grown (grownBy_putObj' _ _ _) (fun j e => by cases e; exact .inl rfl)) (by have := HD.out; omega)
      exact ⟨.tuple #[], results_none rfl _ _ _, rfl, t2, _, p2, HE.out.1, HE.out.2⟩
    case stop3 =>
      rintro D2 cc pre W2 hD2 hpre ⟨⟨rfl, q, x, rfl, hp, hne⟩, hpl, ht, hkd⟩ hK2
      rw [List.dropLast_concat] at hpl
      have hend := settled HPK.out (by rw [HN.out]; exact hi) HFD.out (q := q.map (·.val)) (fun y hy => by obtain ⟨z, hz, rfl⟩ := List.mem_map.1 hy; exact hp z hz) (.inr ⟨x.val, by rw [← Tr.way_nat (T := T) (by rw [HN.out]; exact hi)]; simpa using hpre, hne⟩)
      have hD3 : WD.heap.size + 2 ≤ D2 := by simpa using hD2
      have HE := Lib.hid hend
      have HPL3 := Lib.hid hpl
      have HT4 := Lib.hid ht
      have HD3 := Lib.hid hD3
      have hKD2 := hkd
      clear hp hne hpre hend hpl ht hD2 hD3 hkd
      gi_wp2
      refine ⟨by simp, .inl ⟨_, _, rfl, run_takeDeferred hK2, ?_⟩⟩
      have hne2 : D ≠ D2 := by have := HD3.out; have := HDL.out; omega
      have hKD3 : (W2.putObj D2 (.deferred none)).heap[D]? = some (.deferred (some [])) := (World.putObj_heap_other hne2).trans hKD2
      refine ⟨by simp, .inl ⟨_, _, rfl, run_takeDeferred hKD3, ?_⟩⟩
      have hs2 : w.heap.size ≤ W2.heap.size := HT4.out.size
      have t1 : Turn (fun k => k = P) w (W2.putObj D2 (.deferred none)) := HT4.out.grown (grownBy_putObj' _ _ _) (fun j e => by cases e; have := HD3.out; have := HSZ.out; exact .inr (by omega))
      have t2 : Turn (fun k => k = P) w ((W2.putObj D2 (.deferred none)).putObj D (.deferred none)) := t1.grown (grownBy_putObj' _ _ _) (fun j e => by cases e; exact .inr HD.out)
      have hPlt := HPL.out.1
      have p1 : Pl (W2.putObj D2 (.deferred none)) P N _ := HPL3.out.turn (S := fun k => k = D2) ((Turn.refl _ W2).grown (grownBy_putObj' _ _ _) (fun j e => by cases e; exact .inl rfl)) (by have := HD3.out; have := HSZ.out; omega)
      have p2 : Pl ((W2.putObj D2 (.deferred none)).putObj D (.deferred none)) P N _ := p1.turn (S := fun k => k = D) ((Turn.refl _ _).grown (grownBy_putObj' _ _ _) (fun j e => by cases e; exact .inl rfl)) (by have := HD.out; omega)
      exact ⟨.tuple #[], results_none rfl _ _ _, rfl, t2, _, p2, HE.out.1, HE.out.2⟩

end Go.Proofs.Ytohnfjneghbceaa
