/-
  The wants that wait for nobody.
-/
import Derived.Test.YtbokhhialfbjcaaGreatWtd11
import Derived.Test.YtbokhhialfbjcaaGreatWnA
namespace Go.Proofs.YtbokhhialfbjcaaGreat
set_option maxRecDepth 100000
set_option linter.unusedVariables false
set_option linter.unusedSimpArgs false
open Go.RowKit Go.Shelf Go.Sort
attribute [local go_sem] Oper.semAt_some

theorem Rk.Own.kept {α : Type} {R : Rk α} {X Y : World} {base : Nat} {v : Value} {l : List α} {row : Option Nat} (h : R.Own X base v l) (hg : X.grownBy Y row) (hr : ∀ r, row = some r → ∃ o : Obj, X.heap[r]? = some o ∧ o.isCells = false) : R.Own Y base v l := by
  refine ⟨h.1, ?_⟩
  rcases h.2 with h2 | ⟨g, c, cur, e, hb, hh, rest⟩
  · exact .inl h2
  · refine .inr ⟨g, c, cur, e, hb, (hg.block g (lt_of_block hh) (fun e2 => ?_)).trans hh, rest⟩
    obtain ⟨o, ho, hc⟩ := hr g e2.symm
    rw [hh] at ho
    injection ho with ho
    rw [← ho] at hc
    cases hc
theorem Rk.Own.cells {α : Type} {R : Rk α} {X : World} {base : Nat} {v : Value} {l : List α} (h : R.Own X base v l) {j : Nat} {o : Obj} (e : v.ownBlock = some j) (ho : X.heap[j]? = some o) : o.isCells = true := by
  rcases h.2 with ⟨h2, _⟩ | ⟨g, c, cur, h2, hb, hh, _⟩
  · rw [h2] at e; cases e
  · rw [h2] at e
    injection e with e
    have e' : g = j := e
    subst e'
    rw [hh] at ho
    injection ho with ho
    rw [← ho]; rfl
theorem Bk.kept {X Y : World} {g : Nat} {cs : Array Value} {t : TypeId} {row : Option Nat} (h : Bk X g cs t) (hg : X.grownBy Y row) (hr : ∀ r, row = some r → ∃ o : Obj, X.heap[r]? = some o ∧ o.isCells = false) : Bk Y g cs t := by
  refine (hg.block g h.lt (fun e2 => ?_)).trans h
  obtain ⟨o, ho, hc⟩ := hr g e2.symm
  have h' : X.heap[g]? = _ := h
  rw [h'] at ho
  injection ho with ho
  rw [← ho] at hc
  cases hc
theorem Rk.At.kept {α : Type} {R : Rk α} (hR : R.Ok) {X Y : World} {A : Option Addr} {l : List α} {row : Option Nat} (h : R.At X A l) (hg : X.grownBy Y row) (hr : ∀ r, row = some r → ∃ o : Obj, X.heap[r]? = some o ∧ o.isCells = false) : R.At Y A l := by
  rcases h with h | ⟨b, o, e, hb, hc⟩
  · exact .inl h
  · exact .inr ⟨b, o, e, Nat.lt_of_lt_of_le hb hg.size, fun j u hu => cell_kept (hc j u hu) hg (fun r e => hr r e)⟩
theorem Ko.below {gl l : Nat} {W V : World} (h : Below W.heap.size W V) (hg : gl < W.heap.size) : Ko gl l W V :=
  ⟨Turn.ofBelow h, fun b hb => hb.keep (S := fun _ => False) (Turn.ofBelow h) (fun h => h) hg, fun hc => hc.keep (S := fun _ => False) (Turn.ofBelow h) (fun h => h) hg⟩

theorem waited_any (Aq : Option Addr) (nq kq : Nat) (A : Option Addr) (na ka : Nat) (Ax : Option Addr) (N cap : Nat) (c : Int) (w : World) :
    Calls Tryz.prog 51 #[.agg #[.slice Aq nq kq], .agg #[.slice A na ka], .agg #[.slice Ax N cap, .int .i64 c]] w fun e w' => e = .returned (.func (.func 83) #[] #[.pointer (some ⟨w.heap.size, 0, none⟩), .pointer (some ⟨w.heap.size + 1, 0, none⟩), .pointer (some ⟨w.heap.size + 1 + 1, 0, none⟩)]) ∧
      w' = ((w.alloc (.cells #[.slice Aq nq kq] 28)).alloc (.cells #[.slice A na ka] 34)).alloc (.cells #[.slice Ax N cap, .int .i64 c] 31) := by
  go_enter Tryz.func51, Tryz.ntmps51
  go_wp2
  go_ret
  exact ⟨rfl, rfl⟩

/-- what is ranged over, for a loop whose variable is gl -/
theorem wtd_stops (gl n : Nat) (hn : 2 ≤ n) (Aq : Option Addr) (Q : List Wn) (nq kq : Nat) (A : Option Addr) (L : List Lk) (na ka : Nat) (Ax : Option Addr) (T : Tr) (N cap : Nat) (c : Int)
    (hQ : SQ Q) (hnq : Q.length = nq) (hL : LG L) (hna : L.length = na) (hnka : na ≤ ka) (hG : Good T) (hN : T.l.length = N) (w : World) (hgl : gl < w.heap.size) (hc : w.cell? ⟨gl, 0, none⟩ = some (.slice none 0 0))
    (hrq : RW.At w Aq Q) (hrt : LkAt w A L) (hrx : TxAt w Ax T.l) (hnQ : ∀ b o, Aq = some ⟨b, o, none⟩ → Q = [] ∨ b ≠ gl) (hnT : ∀ b o, A = some ⟨b, o, none⟩ → L = [] ∨ b ≠ gl) (hnX : ∀ b o, Ax = some ⟨b, o, none⟩ → T.l = [] ∨ b ≠ gl) (w3 : World)
    (hw3 : w3 = ((w.alloc (.cells #[.slice Aq nq kq] 28)).alloc (.cells #[.slice A na ka] 34)).alloc (.cells #[.slice Ax N cap, .int .i64 c] 31)) :
    SeqPr Fence.wide n Tryz.prog 83 #[.pointer (some ⟨w.heap.size, 0, none⟩), .pointer (some ⟨w.heap.size + 1, 0, none⟩), .pointer (some ⟨w.heap.size + 1 + 1, 0, none⟩)] yC (YP gl T L Q) (My gl) (Ko gl) (fun xs => xs.map Yl.i = List.range nq) nq w3 := by
  intro l J W hl hwl hW hJa hY h0
  have b3 : Below w.heap.size w w3 := by rw [hw3]; exact below_two (below_two (below_new _ _) (below_new _ _)) (below_new _ _)
  have s3 : w3.heap.size = w.heap.size + 3 := by rw [hw3]; simp
  have kq3 : Bk w3 w.heap.size #[.slice Aq nq kq] 28 := by rw [hw3]; exact ((Bk.new w _ _).below (below_new _ _)).below (below_new _ _)
  have kt3 : Bk w3 (w.heap.size + 1) #[.slice A na ka] 34 := by
    have h := Bk.new (w.alloc (.cells #[.slice Aq nq kq] 28)) #[.slice A na ka] 34
    rw [World.size_alloc] at h
    rw [hw3]; exact h.below (below_new _ _)
  have kx3 : Bk w3 (w.heap.size + 1 + 1) #[.slice Ax N cap, .int .i64 c] 31 := by
    have h := Bk.new ((w.alloc (.cells #[.slice Aq nq kq] 28)).alloc (.cells #[.slice A na ka] 34)) #[.slice Ax N cap, .int .i64 c] 31
    rw [World.size_alloc, World.size_alloc] at h
    rw [hw3]; exact h
  have bW : Below w.heap.size w W := b3.trans (hW.mono b3.size)
  have hsW := hW.size
  have hcW : W.cell? ⟨gl, 0, none⟩ = some (.slice none 0 0) := (bW.cell (p := ⟨gl, 0, none⟩) hgl).trans hc
  have hmy : ∀ b, b < w3.heap.size → b ≠ gl → My gl l W b := fun b hb hne => ⟨by omega, hne, by omega, fun v hv e => by rw [hcW] at hv; injection hv with hv; subst hv; cases e⟩
  have hcl : Cl gl W := fun v k hv e => by rw [hcW] at hv; injection hv with hv; subst hv; cases e
  refine wtd1_in gl l n hn w.heap.size (w.heap.size + 1) (w.heap.size + 1 + 1) Aq Q nq kq A L na ka Ax T N cap c hQ hnq hL hna hnka hG hN J W (by omega) hl hcl ?_ hJa hY h0
  exact ⟨kq3.below hW, kt3.below hW, kx3.below hW, hrq.below bW, hrt.below bW, hrx.below bW, ⟨hmy _ (by omega) (by omega), by omega⟩, ⟨hmy _ (by omega) (by omega), by omega⟩, ⟨hmy _ (by omega) (by omega), by omega⟩,
    fun b o e => by
      rcases hrq.lt b o e with h | h
      · exact .inl h
      · exact (hnQ b o e).imp id (fun h2 => ⟨hmy b (by omega) h2, by omega⟩), fun b o e => by
      rcases hrt with h | ⟨b', o', e', hb, _⟩
      · exact .inl h
      · rw [e] at e'; injection e' with e'; injection e' with e1
        exact (hnT b o e).imp id (fun h2 => ⟨hmy b (by omega) h2, by omega⟩), fun b o e => by
      rcases hrx.lt b o e with h | h
      · exact .inl h
      · exact (hnX b o e).imp id (fun h2 => ⟨hmy b (by omega) h2, by omega⟩)⟩

/-- what has come so far -/
def rdyP (pre : List Yl) : List Wn := (pre.filter fun x => decide (x.k = 0)).map Yl.w
def okP (T : Tr) (L : List Lk) (Q : List Wn) (pre : List Yl) : Prop := ∀ x ∈ pre, x.w = Q.getD x.i Q0 ∧ x.k = (outN T L Q x.i).length
theorem rdyP_all {T : Tr} {L : List Lk} {Q : List Wn} {pre : List Yl} {n : Nat} (h : okP T L Q pre) (hp : pre.map Yl.i = List.range n) : rdyP pre = rdyN T L Q n := by
  unfold rdyP rdyN
  rw [← hp, List.filter_map, List.map_map]
  have e1 : pre.filter (fun x => decide (x.k = 0)) = pre.filter ((fun i => (outN T L Q i).isEmpty) ∘ Yl.i) := by
    apply List.filter_congr
    intro x hx
    show decide (x.k = 0) = (outN T L Q x.i).isEmpty
    rw [(h x hx).2]
    cases outN T L Q x.i <;> simp
  rw [e1]
  apply List.map_congr_left
  intro x hx
  exact (h x (List.mem_filter.1 hx).1).1

set_option maxHeartbeats 4000000 in
theorem ready_any (Aq : Option Addr) (Q : List Wn) (nq kq : Nat) (A : Option Addr) (L : List Lk) (na ka : Nat) (Ax : Option Addr) (T : Tr) (N cap : Nat) (c : Int)
    (hQ : SQ Q) (hnq : Q.length = nq) (hL : LG L) (hna : L.length = na) (hnka : na ≤ ka) (hG : Good T) (hN : T.l.length = N) (w : World) (hrq : RW.At w Aq Q) (hrt : LkAt w A L) (hrx : TxAt w Ax T.l) :
    Calls Tryz.prog 27 #[.agg #[.slice Aq nq kq], .agg #[.slice A na ka], .agg #[.slice Ax N cap, .int .i64 c]] w fun e w' => ∃ v, e = .returned v ∧ RW.Own w' w.heap.size v (rdyL T L Q) ∧ Below w.heap.size w w' := by
  refine (callsIn_wide (n := 9)).1 ?_
  refine callsIn_of_wp_marks Tryz.func27 rfl trivial ?_ rfl
  simp only [Tryz.ntmps27, List.size_toArray, List.length_cons, List.length_nil, Nat.reduceAdd, Nat.reduceSub, Array.replicate_succ, Array.replicate_zero, List.push_toArray, List.append_toArray, List.nil_append, List.cons_append]
  obtain ⟨w1, hw1⟩ : ∃ w1, w1 = (((w.alloc (.cells #[.slice Aq nq kq] 28)).alloc (.cells #[.slice A na ka] 34)).alloc (.cells #[.slice Ax N cap, .int .i64 c] 31)).alloc (.cells #[.slice none 0 0] 26) := ⟨_, rfl⟩
  have b1 : Below w.heap.size w w1 := by rw [hw1]; exact below_two (below_two (below_two (below_new _ _) (below_new _ _)) (below_new _ _)) (below_new _ _)
  have s1 : w1.heap.size = w.heap.size + 4 := by rw [hw1]; simp
  obtain ⟨gl, hgl⟩ : ∃ gl, gl = w.heap.size + 1 + 1 + 1 := ⟨_, rfl⟩
  have kg : Bk w1 gl #[.slice none 0 0] 26 := by
    have h := Bk.new (((w.alloc (.cells #[.slice Aq nq kq] 28)).alloc (.cells #[.slice A na ka] 34)).alloc (.cells #[.slice Ax N cap, .int .i64 c] 31)) #[.slice none 0 0] 26
    rw [World.size_alloc, World.size_alloc, World.size_alloc] at h
    rw [hw1, hgl]; exact h
  obtain ⟨w4, hw4⟩ : ∃ w4, w4 = ((w1.alloc (.cells #[.slice Aq nq kq] 28)).alloc (.cells #[.slice A na ka] 34)).alloc (.cells #[.slice Ax N cap, .int .i64 c] 31) := ⟨_, rfl⟩
  have b4 : Below w1.heap.size w1 w4 := by rw [hw4]; exact below_two (below_two (below_new _ _) (below_new _ _)) (below_new _ _)
  have hseq := wtd_stops gl 8 (by omega) Aq Q nq kq A L na ka Ax T N cap c hQ hnq hL hna hnka hG hN w1 (by omega) (kg.c 0 _ rfl) (hrq.below b1) (hrt.below b1) (hrx.below b1)
    (fun b o e => (hrq.lt b o e).imp id (fun h => by omega)) (fun b o e => by
      rcases hrt with h | ⟨b', o', e', hb, _⟩
      · exact .inl h
      · rw [e] at e'; injection e' with e'; injection e' with e1; exact .inr (by omega)) (fun b o e => (hrx.lt b o e).imp id (fun h => by omega)) w4 hw4
  have HSEQ := Lib.hid hseq
  have HB1 := Lib.hid b1
  have HB4 := Lib.hid b4
  have HKG := Lib.hid kg
  have HS1 := Lib.hid s1
  have HGL := Lib.hid hgl
  have HW4 := Lib.hid hw4
  have HNQ := Lib.hid hnq
  have HQ64 := Lib.hid (show nq ≤ 64 by rw [← hnq]; exact hQ.n)
  clear hQ hnq hL hna hnka hG hN hrq hrt hrx b1 b4 kg s1 hseq hw4
  gi_wp2_with fail
  rw [← hw1, ← hgl]
  clear hw1 hgl
  refine ⟨trivial, (callsIn_wide.2 (waited_any Aq nq kq A na ka Ax N cap c w1)).mono ?_⟩
  rintro e w3 ⟨rfl, hw3⟩
  obtain rfl : w3 = w4 := by rw [hw3, HW4.out]
  clear hw3
  gi_wp2_with fail
  refine wpIn_rangeFunc_pr rfl (by omega) (gf := 83) (lb := #[.pointer (some ⟨w1.heap.size, 0, none⟩), .pointer (some ⟨w1.heap.size + 1, 0, none⟩), .pointer (some ⟨w1.heap.size + 1 + 1, 0, none⟩)]) rfl trivial (enters_of Tryz.func83 (by kernel_rfl) rfl)
    HSEQ.out (fun h k => h.trans k) (fun W o => Ko.put (by have h1 := HB4.out.size; have h2 := HS1.out; have h3 := HGL.out; omega) W o) (Below.refl _ _) (fun _ => rfl)
    (fun pre W => okP T L Q pre ∧ (∃ v, Bk W gl #[v] 26 ∧ RW.Own W w.heap.size v (rdyP pre) ∧ v.ownBlock ≠ some gl) ∧ Below w.heap.size w W)
    (fun pre X Y row hs hg hr => ?own)
    (fun pre X Y hs ht => ?abide)
    ?start (fun x a' W => okP T L Q [x] ∧ ∃ g, gl < g ∧ Wb W g x.w ∧ a' = { tmps := #[.agg #[.slice Aq nq kq], .agg #[.slice A na ka], .agg #[.slice Ax N cap, .int .i64 c], .pointer (some ⟨w.heap.size, 0, none⟩), .pointer (some ⟨w.heap.size + 1, 0, none⟩), .pointer (some ⟨w.heap.size + 1 + 1, 0, none⟩), .slice none 0 0, .pointer (some ⟨gl, 0, none⟩), .pointer (some ⟨g, 0, none⟩), .slice x.a x.k x.c,
      .agg #[.slice Aq nq kq], .agg #[.slice A na ka], .agg #[.slice Ax N cap, .int .i64 c], .func (.func 83) #[] #[.pointer (some ⟨w1.heap.size, 0, none⟩), .pointer (some ⟨w1.heap.size + 1, 0, none⟩), .pointer (some ⟨w1.heap.size + 1 + 1, 0, none⟩)], .agg #[.int .i64 (x.w.x : Int), .int .i64 x.w.b, .int .i64 x.w.m], .slice x.a x.k x.c, undef, undef, undef, undef, undef, undef, undef, undef], defers := [] }) (fun x a' s X Y row hs hg hr => ?ownA) ?assign ?body ?done
  case own =>
    obtain ⟨h1, ⟨v, h2, h3, h4⟩, h5⟩ := hs
    exact ⟨h1, ⟨v, h2.kept hg (fun r e => (hr r e).2), h3.kept hg (fun r e => (hr r e).2), h4⟩, h5.grown hg h5.size (fun q e => by have h6 := (hr q e).1; have h7 := HB4.out.size; have h8 := HS1.out; omega)⟩
  case abide =>
    obtain ⟨h1, ⟨v, h2, h3, h4⟩, h5⟩ := hs
    exact ⟨h1, ⟨v, h2.turn ht (fun h => h.2.2.1 rfl), h3.turn ht (fun k e h => h.2.2.2.2 v (h2.c 0 _ rfl) e), h4⟩, h5.trans (ht.below (fun k e => by have h6 := e.1; have h7 := HB4.out.size; have h8 := HS1.out; omega) h5.size)⟩
  case ownA =>
    obtain ⟨h0, g, h1, h2, h3⟩ := hs
    exact ⟨h0, g, h1, h2.kept hg (fun r e => (hr r e).2), h3⟩
  case start => exact ⟨fun x hx => by simp at hx, ⟨.slice none 0 0, HKG.out.below HB4.out, Rk.Own.nil _ _ _, fun e => by cases e⟩, HB1.out.trans (HB4.out.mono HB1.out.size)⟩
  case assign =>
    intro l pre x W K hI hPr hK
    obtain ⟨h1, ⟨v, h2, h3, h4⟩, h5⟩ := hI
    have hgw := h2.lt
    obtain ⟨g, hg⟩ : ∃ g, g = W.heap.size := ⟨_, rfl⟩
    obtain ⟨W2, hW2⟩ : ∃ W2, W2 = W.alloc (.cells #[.int .i64 (x.w.x : Int), .int .i64 x.w.b, .int .i64 x.w.m] 52) := ⟨_, rfl⟩
    have b2 : Below W.heap.size W W2 := by rw [hW2]; exact below_new _ _
    have kf : KeepsFrom (w3.heap.size) W W2 := by rw [hW2]; exact (KeepsOthers.alloc W _).from _
    have kw : Wb W2 g x.w := by rw [hW2, hg]; exact Bk.new W _ _
    have HK := Lib.hid hK
    clear hK
    simp only [yC, wnV]
    gi_wp2
    rw [← hW2, ← hg]
    exact HK.out _ _ kf (Ko.below b2 hgw) ⟨h1, ⟨v, h2.below b2, h3.below b2, h4⟩, h5.trans (b2.mono h5.size)⟩ ⟨fun z hz => by simp at hz; subst hz; exact ⟨hPr.2.1, hPr.2.2.1⟩, g, by omega, kw, rfl⟩
  case body =>
    rintro l pre x a' W ⟨h1, ⟨v, h2, h3, h4⟩, h5⟩ ⟨h0, g, hg, kw, rfl⟩ hlt
    have hok : okP T L Q (pre ++ [x]) := fun z hz => by
      rcases List.mem_append.1 hz with hz | hz
      · exact h1 z hz
      · exact h0 z hz
    have HOK := Lib.hid hok
    have hgw := h2.lt
    have cg := h2.c 0 _ rfl
    have fg := h2.fr 0
    have y0 := kw.c 0 _ rfl
    have y1 := kw.c 1 _ rfl
    have y2 := kw.c 2 _ rfl
    have H2 := Lib.hid h2
    have H3 := Lib.hid h3
    have H4 := Lib.hid h4
    have H5 := Lib.hid h5
    have HLT := Lib.hid hlt
    have hpl : (rdyP pre).length ≤ pre.length := by unfold rdyP; rw [List.length_map]; exact List.length_filter_le _ _
    have HPL := Lib.hid hpl
    have hws : w.heap.size ≤ W.heap.size := h5.size
    clear h0 h1 h2 h3 h4 h5 hok hlt hpl
    by_cases hk : x.k = 0
    · have hk0 : (((x.k : Nat) : Int) == 0) = true := by rw [hk]; rfl
      have hrp : rdyP (pre ++ [x]) = rdyP pre ++ [x.w] := by unfold rdyP; rw [List.filter_append, List.map_append]; simp [hk]
      have HRP := Lib.hid hrp
      rw [hk]
      clear hrp hk hk0
      obtain ⟨W2, hW2⟩ : ∃ W2, W2 = W.alloc (.cells #[.int .i64 (x.w.x : Int), .int .i64 x.w.b, .int .i64 x.w.m] 52) := ⟨_, rfl⟩
      have b2 : Below W.heap.size W W2 := by rw [hW2]; exact below_new _ _
      have HA2 := Lib.hid (show RW.At W2 (some ⟨W.heap.size, 0, none⟩) [x.w] by rw [hW2]; exact Rk.At.new rw_ok W x.w _)
      have HB2 := Lib.hid b2
      have h16 : nq ≤ 64 := HQ64.out
      gi_wp2_with (first | (refine Rk.wpListIn_append rw_ok rfl _ _ rfl w.heap.size _ _ [x.w] rfl (H3.out.below (below_new _ _)) _ 1 1 rfl (by have h := HA2.out; rw [hW2] at h; exact h) rfl (.inr ⟨_, _, rfl⟩) (by have h6 := HPL.out; have h7 := HLT.out; simp; omega) (by simp; omega) ?_; intro v8 w8 ho8 hg8 hv8; obtain ⟨A8, c8, hv8e, _, _, _⟩ := Rk.Own.form rw_ok ho8; generalize hn8 : (rdyP pre ++ [x.w]).length = n8 at hv8e; subst hv8e; clear hn8; rw [← hW2] at hg8 hv8; have HO8 := Lib.hid ho8; have HG8 := Lib.hid hg8; have HV8 := Lib.hid hv8; have k8 := (H2.out.below HB2.out).far hg8 (fun e => H4.out e.symm); have K8 := Lib.hid k8; have cg8 := k8.c 0 _ rfl; have fg8 := k8.fr 0; clear ho8 hg8 hv8 k8 cg fg y0 y1 y2) | fail)
      obtain ⟨v8, hv8e⟩ : ∃ v8, v8 = Value.slice A8 n8 c8 := ⟨_, rfl⟩
      rw [← hv8e] at HO8 HV8 ⊢
      clear hv8e cg8
      obtain ⟨w9, hw9⟩ : ∃ w9, w9 = w8.setCell ⟨gl, 0, none⟩ v8 := ⟨_, rfl⟩
      rw [← hw9]
      have T8 : Turn (fun k => v.ownBlock = some k) W w8 := (Turn.ofBelow HB2.out).trans ((Turn.refl _ _).grown HG8.out (fun q e => .inl e))
      have T9 : Turn (fun k => k = gl) w8 w9 := by rw [hw9]; exact (Turn.refl _ _).setCell _ _ (.inl rfl)
      have T89 : Turn (fun k => k = gl ∨ v.ownBlock = some k) W w9 := (T8.mono fun _ h => .inr h).trans (T9.mono fun _ h => .inl h)
      have k9 : Bk w9 gl #[v8] 26 := by rw [hw9]; exact K8.out.set1 v8
      have hv9 : ∀ k, v8.ownBlock = some k → v.ownBlock = some k ∨ W.heap.size ≤ k := fun k e => by
        rcases HV8.out with h | h
        · exact .inl (h ▸ e)
        · rw [h] at e; injection e with e; have := HB2.out.size; exact .inr (by omega)
      have hne9 : v8.ownBlock ≠ some gl := fun e => by
        rcases hv9 gl e with h | h
        · exact H4.out h
        · omega
      have hkf : KeepsFrom w3.heap.size W w9 := by
        have k1 : KeepsOthers W W2 := by rw [hW2]; exact KeepsOthers.alloc W _
        have k2 : KeepsOthers W2 w8 := KeepsOthers.of_grownBy HG8.out (fun j ob e ho => (H3.out.below HB2.out).cells e ho)
        have k3 : KeepsOthers w8 w9 := by rw [hw9]; exact KeepsOthers.setCell _ _ _
        exact ((k1.trans k2).trans k3).from _
      refine ⟨hkf, Ko.of hgw (H2.out.c 0 _ rfl) (k9.c 0 _ rfl) T89 hv9 (fun k e => Nat.lt_of_lt_of_le (HO8.out.lt k e).2 T9.size), HOK.out, ⟨v8, k9, ?_, hne9⟩, H5.out.trans (T89.below (fun k e => by
        rcases e with e | e
        · have := HGL.out; omega
        · exact (H3.out.lt k e).1) H5.out.size)⟩
      rw [HRP.out]
      exact HO8.out.turn T9 (fun k e h => hne9 (by rw [e]; exact congrArg some h))
    · have hk0 : (((x.k : Nat) : Int) == 0) = false := by simpa using hk
      have hrp : rdyP (pre ++ [x]) = rdyP pre := by unfold rdyP; rw [List.filter_append, List.map_append]; simp [hk]
      have HRP := Lib.hid hrp
      clear hrp
      gi_wp2
      exact ⟨KeepsFrom.refl _ _, Ko.below (Below.refl _ _) hgw, HOK.out, ⟨v, H2.out, by rw [HRP.out]; exact H3.out, H4.out⟩, H5.out⟩
  case done =>
    rintro D xs W hD hxs ⟨h1, ⟨v, h2, h3, h4⟩, h5⟩ hK
    have cg := h2.c 0 _ rfl
    have H1 := Lib.hid h1
    have H3 := Lib.hid h3
    have H5 := Lib.hid h5
    have HD := Lib.hid hD
    have HX := Lib.hid hxs
    clear h1 h2 h3 h4 h5 hD hxs
    gi_wp2
    refine ⟨by simp, .inl ⟨_, _, rfl, run_takeDeferred hK, ?_⟩⟩
    have t : Turn (fun k => k = D) W (W.putObj D (.deferred none)) := (Turn.refl _ W).grown (grownBy_putObj' W D _) (fun j e => .inl (by injection e with e; exact e.symm))
    refine ⟨_, results_tmp rfl _ _ _, v, rfl, ?_, H5.out.trans (t.below (fun k e => by have h6 := HD.out; have h7 := HB4.out.size; have h8 := HS1.out; omega) H5.out.size)⟩
    have h9 := H3.out.kept (grownBy_putObj' W D (.deferred none)) (fun r e => by cases e; exact ⟨_, hK, rfl⟩)
    rw [rdyP_all H1.out HX.out] at h9
    unfold rdyL
    rw [HNQ.out]
    exact h9
end Go.Proofs.YtbokhhialfbjcaaGreat
