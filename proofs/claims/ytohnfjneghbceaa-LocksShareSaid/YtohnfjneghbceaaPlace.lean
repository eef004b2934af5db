/-
  Where a lock stands among those that rise: the binary search and its closure.
-/
import Derived.Test.YtohnfjneghbceaaLt
import Derived.Test.YtohnfjneghbceaaLrow
import Derived.Deep.CutBlock
import Derived.Deep.CutRange
namespace Go.Proofs.Ytohnfjneghbceaa
set_option maxRecDepth 100000
set_option linter.unusedVariables false
open Go.RowKit Go.Shelf Go.Sort

theorem Gr.drew (w : World) : Gr w (World.drew w) := ⟨1, #[], by rw [grow_empty]; rfl⟩
theorem Gr.cell {w W : World} (h : Gr w W) {a : Addr} {v : Value} (hc : w.cell? a = some v) (hb : a.block < w.heap.size) : W.cell? a = some v := (h.below.cell (p := a) hb).trans hc

set_option maxHeartbeats 1000000 in
theorem place1_any (ga gs b o i n k : Nat) (y z : Lk) (hin : i < n) (w : World) (h1 : w.cell? ⟨ga, 0, none⟩ = some (.slice (some ⟨b, o, none⟩) n k)) (hs : LB w gs z) (hc : CellsAt w b (o + i * 4) y) :
    Calls Try.prog 66 #[.int .i64 (i : Int), .pointer (some ⟨ga, 0, none⟩), .pointer (some ⟨gs, 0, none⟩)] w fun e w' => e = .returned (.bool (decide (0 ≤ cmpI y z))) ∧ Gr w w' := by
  have k0 : ∀ V, Gr w V → V.cell? ⟨ga, 0, none⟩ = some (.slice (some ⟨b, o, none⟩) n k) := fun V hV => hV.cell h1 (block_lt_of_cell (a := ⟨ga, 0, none⟩) h1)
  have k1 : ∀ V, Gr w V → V.cell? ⟨gs, 0, none⟩ = some (.int .i64 z.b) := fun V hV => hV.cell hs.b hs.lt
  have k2 : ∀ V, Gr w V → V.cell? ⟨gs, 1, none⟩ = some (.int .i64 z.x) := fun V hV => hV.cell hs.x hs.lt
  have k3 : ∀ V, Gr w V → V.cell? ⟨gs, 2, none⟩ = some (.int .i64 z.h) := fun V hV => hV.cell hs.h hs.lt
  have k4 : ∀ V, Gr w V → V.cell? ⟨gs, 3, none⟩ = some (.int .i64 z.k) := fun V hV => hV.cell hs.k hs.lt
  have hb := block_lt_of_cell (a := ⟨b, o + i * 4, none⟩) hc.c0
  have k5 : ∀ V, Gr w V → V.cell? ⟨b, o + i * 4, none⟩ = some (.int .i64 y.b) := fun V hV => hV.cell hc.c0 hb
  have k6 : ∀ V, Gr w V → V.cell? ⟨b, o + i * 4 + 1, none⟩ = some (.int .i64 y.x) := fun V hV => hV.cell hc.c1 hb
  have k7 : ∀ V, Gr w V → V.cell? ⟨b, o + i * 4 + 2, none⟩ = some (.int .i64 y.h) := fun V hV => hV.cell hc.c2 hb
  have k8 : ∀ V, Gr w V → V.cell? ⟨b, o + i * 4 + 3, none⟩ = some (.int .i64 y.k) := fun V hV => hV.cell hc.c3 hb
  obtain ⟨c, hce⟩ : ∃ c, c = cmpI y z := ⟨_, rfl⟩
  have HC := Lib.hid (fun V => hce ▸ compare_any y z V)
  rw [← hce]
  clear hce hs hc h1 hb
  go_enter Try.func66, Try.ntmps66
  go_upto_region 1 with fail
  refine wp_region_held_drew (S := Gr w) (by kernel_rfl) (Gr.drew w) (fun _ => ?_)
  have hS : (Gr w) (World.drew w) := Gr.drew w
  refine wpAnyH_take (i := 0) (oi := ⟨some 5, _, _, _, _, _⟩) (v := ?_) rfl (by kernel_rfl) (by kernel_rfl) (by kernel_rfl) (fun _ _ _ h => h) (Or.inl ⟨by rfl, ?_⟩) hS ?_
  rotate_left
  · intro W hW; go_simp; with_reducible rfl
  try simp only [Act.put, List.setIfInBounds_toArray, List.set_cons_zero, List.set_cons_succ]
  refine wpAnyH_take (i := 1) (oi := ⟨some 6, _, _, _, _, _⟩) (v := ?_) rfl (by kernel_rfl) (by kernel_rfl) (by kernel_rfl) (fun _ _ _ h => h) (Or.inl ⟨by rfl, ?_⟩) hS ?_
  rotate_left
  · intro W hW; go_simp; with_reducible rfl
  try simp only [Act.put, List.setIfInBounds_toArray, List.set_cons_zero, List.set_cons_succ]
  refine wpAnyH_take (i := 2) (oi := ⟨some 7, _, _, _, _, _⟩) (v := ?_) rfl (by kernel_rfl) (by kernel_rfl) (by kernel_rfl) (fun _ _ _ h => h) (Or.inl ⟨by rfl, ?_⟩) hS ?_
  rotate_left
  · intro W hW; go_simp; with_reducible rfl
  try simp only [Act.put, List.setIfInBounds_toArray, List.set_cons_zero, List.set_cons_succ]
  refine wpAnyH_take (i := 3) (oi := ⟨some 8, _, _, _, _, _⟩) (v := ?_) rfl (by kernel_rfl) (by kernel_rfl) (by kernel_rfl) (fun _ _ _ h => h) (Or.inl ⟨by rfl, ?_⟩) hS ?_
  rotate_left
  · intro W hW; go_simp; with_reducible rfl
  try simp only [Act.put, List.setIfInBounds_toArray, List.set_cons_zero, List.set_cons_succ]
  refine wpAnyH_take (i := 4) (oi := ⟨some 9, _, _, _, _, _⟩) (v := ?_) rfl (by kernel_rfl) (by kernel_rfl) (by kernel_rfl) (fun _ _ _ h => h) (Or.inl ⟨by rfl, ?_⟩) hS ?_
  rotate_left
  · intro W hW; go_simp; with_reducible rfl
  try simp only [Act.put, List.setIfInBounds_toArray, List.set_cons_zero, List.set_cons_succ]
  refine wpAnyH_ready (rs := [5]) (by kernel_rfl) (by simp) ?_
  refine AllReadyH.cons (o := ⟨some 10, _, _, _, _, _⟩) rfl (fun Kr hKr => ?_) AllReadyH.nil
  -- operation 5: a call
  go_simp
  refine (HC.out _).mono ?_
  rintro e V0 ⟨rfl, hv⟩
  show Kr _ _
  refine hKr.out _ _ ?_ (fun _ => ?_)
  · exact hS.trans hv
  clear hKr Kr
  replace hS : (Gr w) V0 := hS.trans hv
  try simp only [Act.put, List.setIfInBounds_toArray, List.set_cons_zero, List.set_cons_succ]
  refine wpAnyH_take (i := 6) (oi := ⟨some 11, _, _, _, _, _⟩) (v := ?_) rfl (by kernel_rfl) (by kernel_rfl) (by kernel_rfl) (fun _ _ _ h => h) (Or.inl ⟨by rfl, ?_⟩) hS ?_
  rotate_left
  · intro W hW; go_simp; with_reducible rfl
  try simp only [Act.put, List.setIfInBounds_toArray, List.set_cons_zero, List.set_cons_succ]
  refine wpAnyH_take (i := 7) (oi := ⟨some 4, _, _, _, _, _⟩) (v := ?_) rfl (by kernel_rfl) (by kernel_rfl) (by kernel_rfl) (fun _ _ _ h => h) (Or.inl ⟨by rfl, ?_⟩) hS ?_
  rotate_left
  · intro W hW; go_simp; with_reducible rfl
  try simp only [Act.put, List.setIfInBounds_toArray, List.set_cons_zero, List.set_cons_succ]
  refine wpAnyH_done (by kernel_rfl) ?_ _
  rename_i V1 _
  go_wp2
  go_ret
  exact ⟨rfl, hS⟩

/-- a list that rises, parted -/
theorem lg_split {l : List Lk} (h : l.Pairwise fun y z => y.q < z.q) (q : Int) : ∃ L1 L2, l = L1 ++ L2 ∧ (∀ y ∈ L1, y.q < q) ∧ ∀ y ∈ L2, q ≤ y.q := by
  induction l with
  | nil => exact ⟨[], [], rfl, by simp, by simp⟩
  | cons a l ih =>
    obtain ⟨h1, h2⟩ := List.pairwise_cons.1 h
    by_cases e : a.q < q
    · obtain ⟨L1, L2, rfl, i1, i2⟩ := ih h2
      refine ⟨a :: L1, L2, rfl, fun y hy => ?_, i2⟩
      rcases List.mem_cons.1 hy with rfl | hy
      · exact e
      · exact i1 y hy
    · refine ⟨[], a :: l, rfl, by simp, fun y hy => ?_⟩
      rcases List.mem_cons.1 hy with rfl | hy
      · omega
      · have := h1 y hy; omega
theorem len_rise : ∀ (l : List Lk) (m : Int) (N : Nat), (l.Pairwise fun y z => y.q < z.q) → (∀ y ∈ l, m ≤ y.q ∧ y.q < m + N) → l.length ≤ N
  | [], _, _, _, _ => Nat.zero_le _
  | a :: l, m, N, h, hb => by
    obtain ⟨h1, h2⟩ := List.pairwise_cons.1 h
    have ha := hb a (by simp)
    obtain ⟨M, hM⟩ : ∃ M : Nat, (M : Int) = m + N - (a.q + 1) := ⟨(m + N - (a.q + 1)).toNat, by omega⟩
    have := len_rise l (a.q + 1) M h2 fun y hy => by
      have k1 := h1 y hy
      have k2 := hb y (by simp [hy])
      omega
    simp only [List.length_cons]
    omega
theorem LG.len {l : List Lk} (h : LG l) : l.length ≤ 16384 := len_rise l 0 16384 h.up fun y hy => by
  have h1 := (h.may y hy).b
  have h2 := (h.may y hy).x
  unfold Lk.q
  omega
set_option maxHeartbeats 1000000 in
/-- sort.Search: the first place from which on the function says true -/
theorem search_any (g : Nat) (cb : Array Value) (n m : Nat) (w : World) (eg : ∀ args w, (callFunc g args).run Try.prog w = .ok (.enter g args) w) (hm : m ≤ n) (hn : n ≤ 100000)
    (hf : ∀ V (i : Nat), Gr w V → i < n → Calls Try.prog g (#[.int .i64 (i : Int)] ++ cb) V fun e w' => e = .returned (.bool (decide (m ≤ i))) ∧ Gr V w') :
    Calls Try.prog 65 #[.int .i64 (n : Int), .func (.func g) #[] cb] w fun e w' => e = .returned (.int .i64 (m : Int)) ∧ Gr w w' := by
  have HF := Lib.hid hf
  clear hf
  go_enter Try.func65, Try.ntmps65
  go_wp2_with fail
  go_loopg [5, 6] n (fun kx s5 s6 wr => ∃ (lo hi : Nat), s5 = .int .i64 (lo : Int) ∧ s6 = .int .i64 (hi : Int) ∧ lo ≤ m ∧ m ≤ hi ∧ hi ≤ n ∧ hi - lo ≤ kx ∧ Hid (Gr w wr))
  case atStart => exact ⟨0, n, rfl, rfl, Nat.zero_le _, hm, Nat.le_refl _, by omega, Gr.refl w⟩
  case round =>
    obtain ⟨lo, hi, rfl, rfl, hlo, hhi, hin, hg, HG⟩ := hrel
    by_cases hlt : lo < hi
    · have hc := HF.out wr ((lo + hi) / 2) HG.out (by omega)
      rw [show (((lo + hi) / 2 : Nat) : Int) = ((lo : Int) + (hi : Int)) / 2 by omega] at hc
      by_cases hp : m ≤ (lo + hi) / 2
      · rw [decide_eq_true hp] at hc
        go_wp2_with (go_at_fn g; refine hc.mono ?_; rintro e w' ⟨rfl, hgv⟩)
        have HV := Lib.hid (HG.out.trans hgv)
        clear hgv
        go_roundg ((lo + hi) / 2 - lo)
        case measure => omega
        case rel => exact ⟨lo, (lo + hi) / 2, rfl, by rw [show ((lo : Int) + (hi : Int)) / 2 = (((lo + hi) / 2 : Nat) : Int) by omega], hlo, hp, by omega, Nat.le_refl _, HV.out⟩
      · rw [decide_eq_false hp] at hc
        go_wp2_with (go_at_fn g; refine hc.mono ?_; rintro e w' ⟨rfl, hgv⟩)
        have HV := Lib.hid (HG.out.trans hgv)
        clear hgv
        go_roundg (hi - ((lo + hi) / 2 + 1))
        case measure => omega
        case rel => exact ⟨(lo + hi) / 2 + 1, hi, by rw [show ((lo : Int) + (hi : Int)) / 2 + 1 = (((lo + hi) / 2 + 1 : Nat) : Int) by omega], rfl, by omega, hhi, hin, Nat.le_refl _, HV.out⟩
    · obtain rfl : hi = lo := by omega
      obtain rfl : m = hi := by omega
      go_wp2
      go_ret
      exact ⟨rfl, HG.out⟩

def dfl : Lk := ⟨0, 0, 0, 0⟩

set_option maxHeartbeats 1000000 in
theorem place_any (A : Option Addr) (l : List Lk) (n k : Nat) (x b : Int) (hx : 0 ≤ x ∧ x ≤ 63) (hl : LG l) (hn : l.length = n) (w : World) (hL : LkAt w A l) :
    Calls Try.prog 50 #[.slice A n k, .int .i64 x, .int .i64 b] w fun e w' => ∃ L1 L2 t, l = L1 ++ L2 ∧ (∀ y ∈ L1, y.q < b * 64 + x) ∧ (∀ y ∈ L2, b * 64 + x ≤ y.q) ∧ (t = true → ∃ y r, L2 = y :: r ∧ y.q = b * 64 + x) ∧ (t = false → ∀ y ∈ L2, b * 64 + x < y.q) ∧
      e = .returned (.tuple #[.int .i64 (L1.length : Int), .bool t]) ∧ Below w.heap.size w w' := by
  obtain ⟨z, hz⟩ : ∃ z : Lk, z = ⟨b, x, 0, 0⟩ := ⟨_, rfl⟩
  have hzq : z.q = b * 64 + x := by rw [hz]; rfl
  have hzx : 0 ≤ z.x ∧ z.x ≤ 63 := by rw [hz]; exact hx
  obtain ⟨wx, hw0⟩ : ∃ wx, wx = w.alloc (.cells #[.slice A n k] 47) := ⟨_, rfl⟩
  obtain ⟨w1, hw1⟩ : ∃ wy, wy = wx.alloc (.cells #[.int .i64 b, .int .i64 x, .int .i64 0, .int .i64 0] 53) := ⟨_, rfl⟩
  have hs : wx.heap.size = w.heap.size + 1 := by rw [hw0]; simp
  have hb0 : Below w.heap.size w w1 := by rw [hw1, hw0]; exact below_two (below_new _ _) (below_new _ _)
  have c1 : w1.cell? ⟨w.heap.size, 0, none⟩ = some (.slice A n k) := by rw [hw1, hw0]; exact cell_al _ ((cell_new w _ _ 0).trans rfl)
  have c2 : LB w1 (w.heap.size + 1) z := by
    have := LB.new wx z 53
    rw [hs, hz] at this
    rw [hw1, hz]; exact this
  have hL1 := hL.below hb0
  have hn2 := hl.len
  obtain ⟨p, hp⟩ : ∃ p : Nat → Bool, p = fun i => decide (0 ≤ cmpI (l.getD i dfl) z) := ⟨_, rfl⟩
  have pI : ∀ i y, l[i]? = some y → p i = decide (z.q ≤ y.q) := fun i y hy => by
    rw [hp]
    simp only [List.getD_eq_getElem?_getD, hy, Option.getD_some]
    exact decide_eq_decide.2 (cmpI_facts y z (hl.may y (List.mem_of_getElem? hy)).x hzx).2.2
  obtain ⟨L1, L2, hl12, g1, g2⟩ := lg_split hl.up z.q
  have p1 : ∀ i, i < L1.length → p i = false := fun i hi => by
    have e : l[i]? = some L1[i] := by rw [hl12, List.getElem?_append_left hi, List.getElem?_eq_getElem hi]
    rw [pI i _ e]
    have := g1 _ (List.getElem_mem hi)
    simp; omega
  have p2 : ∀ i, L1.length ≤ i → i < n → p i = true := fun i hi hin => by
    have hi2 : i - L1.length < L2.length := by rw [← hn, hl12, List.length_append] at hin; omega
    have e : l[i]? = some L2[i - L1.length] := by rw [hl12, List.getElem?_append_right hi, List.getElem?_eq_getElem hi2]
    rw [pI i _ e]
    have := g2 _ (List.getElem_mem hi2)
    simp; omega
  have hm1 : L1.length ≤ n := by rw [← hn, hl12, List.length_append]; omega
  have eg : ∀ args w, (callFunc 66 args).run Try.prog w = .ok (.enter 66 args) w := enters_of Try.func66 (by kernel_rfl) rfl
  have hS := search_any 66 #[.pointer (some ⟨w.heap.size, 0, none⟩), .pointer (some ⟨w.heap.size + 1, 0, none⟩)] n L1.length w1 eg hm1 (by omega)
    (fun V i hG hi => by
      have hi' : i < l.length := by omega
      obtain ⟨bb, oo, rfl, hbb, hcc⟩ := hL1.get (List.getElem?_eq_getElem hi')
      refine (place1_any w.heap.size (w.heap.size + 1) bb oo i n k l[i] z hi V (hG.cell c1 (block_lt_of_cell (a := ⟨w.heap.size, 0, none⟩) c1)) (c2.below hG.below) (hcc.turn (S := fun _ => False) (Turn.ofBelow hG.below) (fun h => h))).mono ?_
      rintro e w' ⟨rfl, hg⟩
      refine ⟨?_, hg⟩
      have e1 : decide (0 ≤ cmpI l[i] z) = p i := by rw [hp]; simp only [List.getD_eq_getElem?_getD, List.getElem?_eq_getElem hi', Option.getD_some]
      rw [e1]
      rcases Nat.lt_or_ge i L1.length with h | h
      · rw [p1 i h, decide_eq_false (by omega)]
      · rw [p2 i h hi, decide_eq_true h])
  have HS := Lib.hid hS
  have HB := Lib.hid hb0
  have HL := Lib.hid hL1
  have HC1 := Lib.hid c1
  have HC2 := Lib.hid c2
  have HP := Lib.hid (show l = L1 ++ L2 ∧ (∀ y ∈ L1, y.q < b * 64 + x) ∧ (∀ y ∈ L2, b * 64 + x ≤ y.q) by rw [← hzq]; exact ⟨hl12, g1, g2⟩)
  have HZ := Lib.hid hzq
  have HN := Lib.hid hn
  have HUP := Lib.hid hl.up
  have HX := Lib.hid (fun y (hy : y ∈ l) => cmpI_facts y z (hl.may y hy).x hzx)
  obtain ⟨m, hm⟩ : ∃ m, m = L1.length := ⟨_, rfl⟩
  rw [← hm] at HS hm1
  have HM := Lib.hid hm
  have hm2 : m ≤ 16384 := by omega
  clear hz hS hb0 hL1 c1 c2 hl12 g1 g2 p1 p2 pI hp eg hzq hn hL hl hx hzx hm
  go_enter Try.func50, Try.ntmps50
  go_wp2_with fail
  rw [← hw0, ← hw1]
  have c1 := HC1.out
  refine HS.out.mono ?_
  rintro e w2 ⟨rfl, hg⟩
  have hg : Gr w1 w2 := hg
  have HG := Lib.hid hg
  have c2 := hg.cell c1 (block_lt_of_cell (a := ⟨w.heap.size, 0, none⟩) c1)
  have HL2 := Lib.hid (HL.out.below hg.below)
  have HB2 := Lib.hid (HB.out.trans (hg.below.mono HB.out.size))
  have HZ2 := Lib.hid (HC2.out.below hg.below)
  clear hg c1
  have hlt0 := block_lt_of_cell (a := ⟨w.heap.size, 0, none⟩) c2
  have k0 : ∀ V, Gr w2 V → V.cell? ⟨w.heap.size, 0, none⟩ = some (.slice A n k) := fun V hV => hV.cell c2 hlt0
  have HW := Lib.hid (show Below w.heap.size w w2 from HB2.out)
  obtain ⟨hp0, hp1, hp2⟩ := HP.out
  rcases L2 with _ | ⟨y, r⟩
  · have hmn : m = n := by have := HN.out; rw [hp0, List.append_nil] at this; have := HM.out; omega
    subst hmn
    have hb : decide (m < m) = false := decide_eq_false (by omega)
    have HP0 := Lib.hid hp0
    have HP1 := Lib.hid hp1
    clear hp0 hp1 hp2 c2
    go_upto_region 3 with fail
    refine wp_region_held_drew (S := Gr w2) (by kernel_rfl) (Gr.drew w2) (fun _ => ?_)
    have hS : (Gr w2) (World.drew w2) := Gr.drew w2
    refine wpAnyH_take (i := 0) (oi := ⟨some 17, _, _, _, _, _⟩) (v := ?_) rfl (by kernel_rfl) (by kernel_rfl) (by kernel_rfl) (fun _ _ _ h => h) (Or.inl ⟨by rfl, ?_⟩) hS ?_
    rotate_left
    · intro W hW; go_simp; with_reducible rfl
    try simp only [Act.put, List.setIfInBounds_toArray, List.set_cons_zero, List.set_cons_succ]
    refine wpAnyH_take (i := 1) (oi := ⟨some 18, _, _, _, _, _⟩) (v := ?_) rfl (by kernel_rfl) (by kernel_rfl) (by kernel_rfl) (fun _ _ _ h => h) (Or.inl ⟨by rfl, ?_⟩) hS ?_
    rotate_left
    · intro W hW; go_simp; with_reducible rfl
    try simp only [Act.put, List.setIfInBounds_toArray, List.set_cons_zero, List.set_cons_succ]
    refine wpAnyH_take (i := 2) (oi := ⟨some 19, _, _, _, _, _⟩) (v := ?_) rfl (by kernel_rfl) (by kernel_rfl) (by kernel_rfl) (fun _ _ _ h => h) (Or.inl ⟨by rfl, ?_⟩) hS ?_
    rotate_left
    · intro W hW; go_simp; with_reducible rfl
    try simp only [Act.put, List.setIfInBounds_toArray, List.set_cons_zero, List.set_cons_succ]
    refine wpAnyH_take (i := 3) (oi := ⟨some 20, _, _, _, _, _⟩) (v := ?_) rfl (by kernel_rfl) (by kernel_rfl) (by kernel_rfl) (fun _ _ _ h => h) (Or.inl ⟨by rfl, ?_⟩) hS ?_
    rotate_left
    · intro W hW; go_simp; with_reducible rfl
    try simp only [Act.put, List.setIfInBounds_toArray, List.set_cons_zero, List.set_cons_succ]
    refine wpAnyH_take (i := 4) (oi := ⟨some 21, _, _, _, _, _⟩) (v := ?_) rfl (by kernel_rfl) (by kernel_rfl) (by kernel_rfl) (fun _ _ _ h => h) (Or.inl ⟨by rfl, ?_⟩) hS ?_
    rotate_left
    · intro W hW; go_simp; with_reducible rfl
    try simp only [Act.put, List.setIfInBounds_toArray, List.set_cons_zero, List.set_cons_succ]
    refine wpAnyH_take (i := 5) (oi := ⟨some 22, _, _, _, _, _⟩) (v := ?_) rfl (by kernel_rfl) (by kernel_rfl) (by kernel_rfl) (fun _ _ _ h => h) (Or.inl ⟨by rfl, ?_⟩) hS ?_
    rotate_left
    · intro W hW; go_simp; with_reducible rfl
    try simp only [Act.put, List.setIfInBounds_toArray, List.set_cons_zero, List.set_cons_succ]
    refine wpAnyH_take (i := 6) (oi := ⟨some 23, _, _, _, _, _⟩) (v := undef) rfl (by kernel_rfl) (by kernel_rfl) (by kernel_rfl) (fun _ _ _ h => h) (Or.inr ⟨by rfl, rfl⟩) hS ?_
    try simp only [Act.put, List.setIfInBounds_toArray, List.set_cons_zero, List.set_cons_succ]
    refine wpAnyH_take (i := 7) (oi := ⟨some 24, _, _, _, _, _⟩) (v := undef) rfl (by kernel_rfl) (by kernel_rfl) (by kernel_rfl) (fun _ _ _ h => h) (Or.inr ⟨by rfl, rfl⟩) hS ?_
    try simp only [Act.put, List.setIfInBounds_toArray, List.set_cons_zero, List.set_cons_succ]
    refine wpAnyH_take (i := 8) (oi := ⟨some 25, _, _, _, _, _⟩) (v := undef) rfl (by kernel_rfl) (by kernel_rfl) (by kernel_rfl) (fun _ _ _ h => h) (Or.inr ⟨by rfl, rfl⟩) hS ?_
    try simp only [Act.put, List.setIfInBounds_toArray, List.set_cons_zero, List.set_cons_succ]
    refine wpAnyH_take (i := 9) (oi := ⟨some 26, _, _, _, _, _⟩) (v := undef) rfl (by kernel_rfl) (by kernel_rfl) (by kernel_rfl) (fun _ _ _ h => h) (Or.inr ⟨by rfl, rfl⟩) hS ?_
    try simp only [Act.put, List.setIfInBounds_toArray, List.set_cons_zero, List.set_cons_succ]
    refine wpAnyH_take (i := 10) (oi := ⟨some 27, _, _, _, _, _⟩) (v := undef) rfl (by kernel_rfl) (by kernel_rfl) (by kernel_rfl) (fun _ _ _ h => h) (Or.inr ⟨by rfl, rfl⟩) hS ?_
    try simp only [Act.put, List.setIfInBounds_toArray, List.set_cons_zero, List.set_cons_succ]
    refine wpAnyH_take (i := 11) (oi := ⟨some 28, _, _, _, _, _⟩) (v := undef) rfl (by kernel_rfl) (by kernel_rfl) (by kernel_rfl) (fun _ _ _ h => h) (Or.inr ⟨by rfl, rfl⟩) hS ?_
    try simp only [Act.put, List.setIfInBounds_toArray, List.set_cons_zero, List.set_cons_succ]
    refine wpAnyH_take (i := 12) (oi := ⟨some 29, _, _, _, _, _⟩) (v := undef) rfl (by kernel_rfl) (by kernel_rfl) (by kernel_rfl) (fun _ _ _ h => h) (Or.inr ⟨by rfl, rfl⟩) hS ?_
    try simp only [Act.put, List.setIfInBounds_toArray, List.set_cons_zero, List.set_cons_succ]
    refine wpAnyH_take (i := 13) (oi := ⟨some 30, _, _, _, _, _⟩) (v := ?_) rfl (by kernel_rfl) (by kernel_rfl) (by kernel_rfl) (fun _ _ _ h => h) (Or.inl ⟨by rfl, ?_⟩) hS ?_
    rotate_left
    · intro W hW; go_simp; with_reducible rfl
    try simp only [Act.put, List.setIfInBounds_toArray, List.set_cons_zero, List.set_cons_succ]
    refine wpAnyH_take (i := 14) (oi := ⟨some 6, _, _, _, _, _⟩) (v := ?_) rfl (by kernel_rfl) (by kernel_rfl) (by kernel_rfl) (fun _ _ _ h => h) (Or.inl ⟨by rfl, ?_⟩) hS ?_
    rotate_left
    · intro W hW; go_simp; with_reducible rfl
    try simp only [Act.put, List.setIfInBounds_toArray, List.set_cons_zero, List.set_cons_succ]
    refine wpAnyH_take (i := 15) (oi := ⟨some 7, _, _, _, _, _⟩) (v := ?_) rfl (by kernel_rfl) (by kernel_rfl) (by kernel_rfl) (fun _ _ _ h => h) (Or.inl ⟨by rfl, ?_⟩) hS ?_
    rotate_left
    · intro W hW; go_simp; with_reducible rfl
    try simp only [Act.put, List.setIfInBounds_toArray, List.set_cons_zero, List.set_cons_succ]
    refine wpAnyH_done (by kernel_rfl) ?_ _
    go_wp2
    go_ret2
    exact ⟨L1, [], false, HP0.out, HP1.out, by simp, (fun h => by cases h), by simp, by rw [← HM.out]; rfl, HW.out.trans (hS.below.mono HW.out.size)⟩
  · have hlen : L1.length + (r.length + 1) = n := by have := HN.out; rw [hp0, List.length_append, List.length_cons] at this; exact this
    have hmn : m < n := by have := HM.out; omega
    have hb : decide (m < n) = true := decide_eq_true hmn
    obtain ⟨bb, oo, rfl, hbb, hcc⟩ := HL2.out.get (i := m) (y := y) (by rw [hp0, HM.out, List.getElem?_append_right (Nat.le_refl _), Nat.sub_self]; rfl)
    have hy := HX.out y (by rw [hp0]; simp)
    have hyq : b * 64 + x ≤ y.q := hp2 y (by simp)
    obtain ⟨c, hce⟩ : ∃ c, c = cmpI y z := ⟨_, rfl⟩
    have HC := Lib.hid (fun V => hce ▸ compare_any y z V)
    have h5 : ∀ V, Gr w2 V → V.cell? ⟨w.heap.size + 1, 0, none⟩ = some (.int .i64 z.b) := fun V hV => hV.cell HZ2.out.b HZ2.out.lt
    have h6 : ∀ V, Gr w2 V → V.cell? ⟨w.heap.size + 1, 1, none⟩ = some (.int .i64 z.x) := fun V hV => hV.cell HZ2.out.x HZ2.out.lt
    have h7 : ∀ V, Gr w2 V → V.cell? ⟨w.heap.size + 1, 2, none⟩ = some (.int .i64 z.h) := fun V hV => hV.cell HZ2.out.h HZ2.out.lt
    have h8 : ∀ V, Gr w2 V → V.cell? ⟨w.heap.size + 1, 3, none⟩ = some (.int .i64 z.k) := fun V hV => hV.cell HZ2.out.k HZ2.out.lt
    have j5 : ∀ V, Gr w2 V → V.cell? ⟨bb, oo + m * 4, none⟩ = some (.int .i64 y.b) := fun V hV => hV.cell hcc.c0 hbb
    have j6 : ∀ V, Gr w2 V → V.cell? ⟨bb, oo + m * 4 + 1, none⟩ = some (.int .i64 y.x) := fun V hV => hV.cell hcc.c1 hbb
    have j7 : ∀ V, Gr w2 V → V.cell? ⟨bb, oo + m * 4 + 2, none⟩ = some (.int .i64 y.h) := fun V hV => hV.cell hcc.c2 hbb
    have j8 : ∀ V, Gr w2 V → V.cell? ⟨bb, oo + m * 4 + 3, none⟩ = some (.int .i64 y.k) := fun V hV => hV.cell hcc.c3 hbb
    have HP0 := Lib.hid hp0
    have HP1 := Lib.hid hp1
    have HP2 := Lib.hid hp2
    have HE := Lib.hid (show (c = 0 ↔ y.q = b * 64 + x) by rw [hce, ← HZ.out]; exact hy.2.1)
    have HLL : Hid (∀ u ∈ r, y.q < u.q) := (by
      have h := HUP.out
      rw [HP0.out] at h
      exact (List.pairwise_cons.1 (List.pairwise_append.1 h).2.1).1)
    clear hp0 hp1 hp2 c2 hce hy hyq hcc hlen
    obtain ⟨t, ht⟩ : ∃ t, t = (c == 0) := ⟨_, rfl⟩
    have hb2 : (c == 0) = t := ht.symm
    have HE2 := Lib.hid (show (t = true ↔ c = 0) by rw [ht]; simp)
    clear ht
    go_upto_region 3 with fail
    refine wp_region_held_drew (S := Gr w2) (by kernel_rfl) (Gr.drew w2) (fun _ => ?_)
    have hS : (Gr w2) (World.drew w2) := Gr.drew w2
    refine wpAnyH_take (i := 0) (oi := ⟨some 17, _, _, _, _, _⟩) (v := ?_) rfl (by kernel_rfl) (by kernel_rfl) (by kernel_rfl) (fun _ _ _ h => h) (Or.inl ⟨by rfl, ?_⟩) hS ?_
    rotate_left
    · intro W hW; go_simp; with_reducible rfl
    try simp only [Act.put, List.setIfInBounds_toArray, List.set_cons_zero, List.set_cons_succ]
    refine wpAnyH_take (i := 1) (oi := ⟨some 18, _, _, _, _, _⟩) (v := ?_) rfl (by kernel_rfl) (by kernel_rfl) (by kernel_rfl) (fun _ _ _ h => h) (Or.inl ⟨by rfl, ?_⟩) hS ?_
    rotate_left
    · intro W hW; go_simp; with_reducible rfl
    try simp only [Act.put, List.setIfInBounds_toArray, List.set_cons_zero, List.set_cons_succ]
    refine wpAnyH_take (i := 2) (oi := ⟨some 19, _, _, _, _, _⟩) (v := ?_) rfl (by kernel_rfl) (by kernel_rfl) (by kernel_rfl) (fun _ _ _ h => h) (Or.inl ⟨by rfl, ?_⟩) hS ?_
    rotate_left
    · intro W hW; go_simp; with_reducible rfl
    try simp only [Act.put, List.setIfInBounds_toArray, List.set_cons_zero, List.set_cons_succ]
    refine wpAnyH_take (i := 3) (oi := ⟨some 20, _, _, _, _, _⟩) (v := ?_) rfl (by kernel_rfl) (by kernel_rfl) (by kernel_rfl) (fun _ _ _ h => h) (Or.inl ⟨by rfl, ?_⟩) hS ?_
    rotate_left
    · intro W hW; go_simp; with_reducible rfl
    try simp only [Act.put, List.setIfInBounds_toArray, List.set_cons_zero, List.set_cons_succ]
    refine wpAnyH_take (i := 4) (oi := ⟨some 21, _, _, _, _, _⟩) (v := ?_) rfl (by kernel_rfl) (by kernel_rfl) (by kernel_rfl) (fun _ _ _ h => h) (Or.inl ⟨by rfl, ?_⟩) hS ?_
    rotate_left
    · intro W hW; go_simp; with_reducible rfl
    try simp only [Act.put, List.setIfInBounds_toArray, List.set_cons_zero, List.set_cons_succ]
    refine wpAnyH_take (i := 5) (oi := ⟨some 22, _, _, _, _, _⟩) (v := ?_) rfl (by kernel_rfl) (by kernel_rfl) (by kernel_rfl) (fun _ _ _ h => h) (Or.inl ⟨by rfl, ?_⟩) hS ?_
    rotate_left
    · intro W hW; go_simp; with_reducible rfl
    try simp only [Act.put, List.setIfInBounds_toArray, List.set_cons_zero, List.set_cons_succ]
    refine wpAnyH_take (i := 6) (oi := ⟨some 23, _, _, _, _, _⟩) (v := ?_) rfl (by kernel_rfl) (by kernel_rfl) (by kernel_rfl) (fun _ _ _ h => h) (Or.inl ⟨by rfl, ?_⟩) hS ?_
    rotate_left
    · intro W hW; go_simp; with_reducible rfl
    try simp only [Act.put, List.setIfInBounds_toArray, List.set_cons_zero, List.set_cons_succ]
    refine wpAnyH_take (i := 7) (oi := ⟨some 24, _, _, _, _, _⟩) (v := ?_) rfl (by kernel_rfl) (by kernel_rfl) (by kernel_rfl) (fun _ _ _ h => h) (Or.inl ⟨by rfl, ?_⟩) hS ?_
    rotate_left
    · intro W hW; go_simp; with_reducible rfl
    try simp only [Act.put, List.setIfInBounds_toArray, List.set_cons_zero, List.set_cons_succ]
    refine wpAnyH_take (i := 8) (oi := ⟨some 25, _, _, _, _, _⟩) (v := ?_) rfl (by kernel_rfl) (by kernel_rfl) (by kernel_rfl) (fun _ _ _ h => h) (Or.inl ⟨by rfl, ?_⟩) hS ?_
    rotate_left
    · intro W hW; go_simp; with_reducible rfl
    try simp only [Act.put, List.setIfInBounds_toArray, List.set_cons_zero, List.set_cons_succ]
    refine wpAnyH_take (i := 9) (oi := ⟨some 26, _, _, _, _, _⟩) (v := ?_) rfl (by kernel_rfl) (by kernel_rfl) (by kernel_rfl) (fun _ _ _ h => h) (Or.inl ⟨by rfl, ?_⟩) hS ?_
    rotate_left
    · intro W hW; go_simp; with_reducible rfl
    try simp only [Act.put, List.setIfInBounds_toArray, List.set_cons_zero, List.set_cons_succ]
    refine wpAnyH_take (i := 10) (oi := ⟨some 27, _, _, _, _, _⟩) (v := ?_) rfl (by kernel_rfl) (by kernel_rfl) (by kernel_rfl) (fun _ _ _ h => h) (Or.inl ⟨by rfl, ?_⟩) hS ?_
    rotate_left
    · intro W hW; go_simp; with_reducible rfl
    try simp only [Act.put, List.setIfInBounds_toArray, List.set_cons_zero, List.set_cons_succ]
    refine wpAnyH_ready (rs := [11]) (by kernel_rfl) (by simp) ?_
    refine AllReadyH.cons (o := ⟨some 28, _, _, _, _, _⟩) rfl (fun Kr hKr => ?_) AllReadyH.nil
    -- operation 11: a call
    go_simp
    refine (HC.out _).mono ?_
    rintro e V0 ⟨rfl, hv⟩
    show Kr _ _
    refine hKr.out _ _ ?_ (fun _ => ?_)
    · exact hS.trans hv
    clear hKr Kr
    replace hS : (Gr w2) V0 := hS.trans hv
    try simp only [Act.put, List.setIfInBounds_toArray, List.set_cons_zero, List.set_cons_succ]
    refine wpAnyH_take (i := 12) (oi := ⟨some 29, _, _, _, _, _⟩) (v := ?_) rfl (by kernel_rfl) (by kernel_rfl) (by kernel_rfl) (fun _ _ _ h => h) (Or.inl ⟨by rfl, ?_⟩) hS ?_
    rotate_left
    · intro W hW; go_simp; with_reducible rfl
    try simp only [Act.put, List.setIfInBounds_toArray, List.set_cons_zero, List.set_cons_succ]
    refine wpAnyH_take (i := 13) (oi := ⟨some 30, _, _, _, _, _⟩) (v := ?_) rfl (by kernel_rfl) (by kernel_rfl) (by kernel_rfl) (fun _ _ _ h => h) (Or.inl ⟨by rfl, ?_⟩) hS ?_
    rotate_left
    · intro W hW; go_simp; with_reducible rfl
    try simp only [Act.put, List.setIfInBounds_toArray, List.set_cons_zero, List.set_cons_succ]
    refine wpAnyH_take (i := 14) (oi := ⟨some 6, _, _, _, _, _⟩) (v := ?_) rfl (by kernel_rfl) (by kernel_rfl) (by kernel_rfl) (fun _ _ _ h => h) (Or.inl ⟨by rfl, ?_⟩) hS ?_
    rotate_left
    · intro W hW; go_simp; with_reducible rfl
    try simp only [Act.put, List.setIfInBounds_toArray, List.set_cons_zero, List.set_cons_succ]
    refine wpAnyH_take (i := 15) (oi := ⟨some 7, _, _, _, _, _⟩) (v := ?_) rfl (by kernel_rfl) (by kernel_rfl) (by kernel_rfl) (fun _ _ _ h => h) (Or.inl ⟨by rfl, ?_⟩) hS ?_
    rotate_left
    · intro W hW; go_simp; with_reducible rfl
    try simp only [Act.put, List.setIfInBounds_toArray, List.set_cons_zero, List.set_cons_succ]
    refine wpAnyH_done (by kernel_rfl) ?_ _
    go_wp2
    go_ret2
    refine ⟨L1, y :: r, t, HP0.out, HP1.out, HP2.out, (fun h => ⟨y, r, rfl, HE.out.1 (HE2.out.1 h)⟩), (fun h => ?_), by rw [← HM.out]; rfl, HW.out.trans (hS.below.mono HW.out.size)⟩
    have hne : y.q ≠ b * 64 + x := fun e => by have := HE2.out.2 (HE.out.2 e); rw [h] at this; cases this
    have h1 := HP2.out y (by simp)
    intro u hu
    rcases List.mem_cons.1 hu with rfl | hu
    · omega
    · have := HLL.out u hu; omega
end Go.Proofs.Ytohnfjneghbceaa
