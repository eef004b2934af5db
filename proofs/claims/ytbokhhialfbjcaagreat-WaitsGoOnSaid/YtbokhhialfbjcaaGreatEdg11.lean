/-
  Who waits for whom.
-/
import Derived.Test.YtbokhhialfbjcaaGreatRdy11
namespace Go.Proofs.YtbokhhialfbjcaaGreat
set_option maxRecDepth 100000
set_option linter.unusedVariables false
set_option linter.unusedSimpArgs false
open Go.RowKit Go.Shelf Go.Sort
attribute [local go_sem] Oper.semAt_some

theorem Turn.trans' {S S' : Nat → Prop} {W V U : World} (h : Turn S W V) (k : Turn S' V U) (hs : ∀ q, S' q → S q ∨ W.heap.size ≤ q) : Turn S W U :=
  ⟨k.os.trans h.os, k.tape.trans h.tape, k.output.trans h.output, Nat.le_trans h.size k.size, fun q hq hn => (k.block q (Nat.lt_of_lt_of_le hq h.size) (fun e => by
    rcases hs q e with h2 | h2
    · exact hn h2
    · omega)).trans (h.block q hq hn)⟩
/-- what has come so far -/
def edgP (T : Tr) (L : List Lk) (Q : List Wn) (pre : List Yl) : List (Nat × Nat) := pre.flatMap fun x => (outN T L Q x.i).map fun y => (x.w.x, y)
theorem edgP_all {T : Tr} {L : List Lk} {Q : List Wn} {pre : List Yl} {n : Nat} (h : okP T L Q pre) (hp : pre.map Yl.i = List.range n) : edgP T L Q pre = edgN T L Q n := by
  unfold edgP edgN
  rw [← hp, List.flatMap_map]
  have : ∀ (l : List Yl), (∀ x ∈ l, x.w = Q.getD x.i Q0) → (l.flatMap fun x => (outN T L Q x.i).map fun y => (x.w.x, y)) = l.flatMap fun x => (outN T L Q x.i).map fun y => ((Q.getD x.i Q0).x, y) := by
    intro l
    induction l with
    | nil => intro _; rfl
    | cons a l ih =>
      intro hl
      rw [List.flatMap_cons, List.flatMap_cons, ih (fun x hx => hl x (List.mem_cons_of_mem _ hx)), hl a List.mem_cons_self]
  exact this pre fun x hx => (h x hx).1
theorem outN_len {T : Tr} {L : List Lk} {Q : List Wn} (i : Nat) : (outN T L Q i).length ≤ L.length + Q.length := by
  unfold outN outL
  rw [List.length_append, List.length_map]
  have h1 := agL_len T (Q.getD i Q0).x (Q.getD i Q0).b (Q.getD i Q0).m L
  have h2 := List.length_filter_le (fun a => upB T L a (Q.getD i Q0)) (Q.take i)
  rw [List.length_take] at h2
  omega
theorem edgP_len {T : Tr} {L : List Lk} {Q : List Wn} : ∀ pre : List Yl, (edgP T L Q pre).length ≤ pre.length * (L.length + Q.length)
  | [] => by simp [edgP]
  | x :: pre => by
    have ih := edgP_len (T := T) (L := L) (Q := Q) pre
    unfold edgP at ih ⊢
    rw [List.flatMap_cons, List.length_append, List.length_map, List.length_cons, Nat.succ_mul]
    have := outN_len (T := T) (L := L) (Q := Q) x.i
    omega

set_option maxHeartbeats 4000000 in
theorem edges_any (Aq : Option Addr) (Q : List Wn) (nq kq : Nat) (A : Option Addr) (L : List Lk) (na ka : Nat) (Ax : Option Addr) (T : Tr) (N cap : Nat) (c : Int)
    (hQ : SQ Q) (hnq : Q.length = nq) (hL : LG L) (hna : L.length = na) (hnka : na ≤ ka) (hG : Good T) (hN : T.l.length = N) (w : World) (hrq : RW.At w Aq Q) (hrt : LkAt w A L) (hrx : TxAt w Ax T.l) :
    Calls Tryz.prog 42 #[.agg #[.slice Aq nq kq], .agg #[.slice A na ka], .agg #[.slice Ax N cap, .int .i64 c]] w fun e w' => ∃ v, e = .returned v ∧ RE.Own w' w.heap.size v (edgL T L Q) ∧ Below w.heap.size w w' := by
  refine (callsIn_wide (n := 9)).1 ?_
  refine callsIn_of_wp_marks Tryz.func42 rfl trivial ?_ rfl
  simp only [Tryz.ntmps42, List.size_toArray, List.length_cons, List.length_nil, Nat.reduceAdd, Nat.reduceSub, Array.replicate_succ, Array.replicate_zero, List.push_toArray, List.append_toArray, List.nil_append, List.cons_append]
  obtain ⟨w1, hw1⟩ : ∃ w1, w1 = (((w.alloc (.cells #[.slice Aq nq kq] 28)).alloc (.cells #[.slice A na ka] 34)).alloc (.cells #[.slice Ax N cap, .int .i64 c] 31)).alloc (.cells #[.slice none 0 0] 56) := ⟨_, rfl⟩
  have b1 : Below w.heap.size w w1 := by rw [hw1]; exact below_two (below_two (below_two (below_new _ _) (below_new _ _)) (below_new _ _)) (below_new _ _)
  have s1 : w1.heap.size = w.heap.size + 4 := by rw [hw1]; simp
  obtain ⟨gl, hgl⟩ : ∃ gl, gl = w.heap.size + 1 + 1 + 1 := ⟨_, rfl⟩
  have kg : Bk w1 gl #[.slice none 0 0] 56 := by
    have h := Bk.new (((w.alloc (.cells #[.slice Aq nq kq] 28)).alloc (.cells #[.slice A na ka] 34)).alloc (.cells #[.slice Ax N cap, .int .i64 c] 31)) #[.slice none 0 0] 56
    rw [World.size_alloc, World.size_alloc, World.size_alloc] at h
    rw [hw1, hgl]; exact h
  obtain ⟨w4, hw4⟩ : ∃ w4, w4 = ((w1.alloc (.cells #[.slice Aq nq kq] 28)).alloc (.cells #[.slice A na ka] 34)).alloc (.cells #[.slice Ax N cap, .int .i64 c] 31) := ⟨_, rfl⟩
  have b4 : Below w1.heap.size w1 w4 := by rw [hw4]; exact below_two (below_two (below_new _ _) (below_new _ _)) (below_new _ _)
  have hseq := wtd_stops gl 8 (by omega) Aq Q nq kq A L na ka Ax T N cap c hQ hnq hL hna hnka hG hN w1 (by omega) (kg.c 0 _ rfl) (hrq.below b1) (hrt.below b1) (hrx.below b1)
    (fun b o e => (hrq.lt b o e).imp id (fun h => by omega)) (fun b o e => by
      rcases hrt with h | ⟨b', o', e', hb, _⟩
      · exact .inl h
      · rw [e] at e'; injection e' with e'; injection e' with e1; exact .inr (by omega)) (fun b o e => (hrx.lt b o e).imp id (fun h => by omega)) w4 hw4
  have HSEQ := Lib.hid hseq
  have HB1 := Lib.hid b1
  have HB4 := Lib.hid b4
  have HKG := Lib.hid kg
  have HS1 := Lib.hid s1
  have HGL := Lib.hid hgl
  have HW4 := Lib.hid hw4
  have HNQ := Lib.hid hnq
  have HQ64 := Lib.hid (show nq ≤ 64 by rw [← hnq]; exact hQ.n)
  have HL16 := Lib.hid (show L.length ≤ 16384 from hL.len)
  clear hQ hnq hL hna hnka hG hN hrq hrt hrx b1 b4 kg s1 hseq hw4
  gi_wp2_with fail
  rw [← hw1, ← hgl]
  clear hw1 hgl
  refine ⟨trivial, (callsIn_wide.2 (waited_any Aq nq kq A na ka Ax N cap c w1)).mono ?_⟩
  rintro e w3 ⟨rfl, hw3⟩
  obtain rfl : w3 = w4 := by rw [hw3, HW4.out]
  clear hw3
  gi_wp2_with fail
  refine wpIn_rangeFunc_pr rfl (by omega) (gf := 83) (lb := #[.pointer (some ⟨w1.heap.size, 0, none⟩), .pointer (some ⟨w1.heap.size + 1, 0, none⟩), .pointer (some ⟨w1.heap.size + 1 + 1, 0, none⟩)]) rfl trivial (enters_of Tryz.func83 (by kernel_rfl) rfl)
    HSEQ.out (fun h k => h.trans k) (fun W o => Ko.put (by have h1 := HB4.out.size; have h2 := HS1.out; have h3 := HGL.out; omega) W o) (Below.refl _ _) (fun _ => rfl)
    (fun pre W => okP T L Q pre ∧ (∃ v, Bk W gl #[v] 56 ∧ RE.Own W w.heap.size v (edgP T L Q pre) ∧ v.ownBlock ≠ some gl) ∧ Below w.heap.size w W)
    (fun pre X Y row hs hg hr => ?own)
    (fun pre X Y hs ht => ?abide)
    ?start (fun x a' W => okP T L Q [x] ∧ RI.At W x.a (outN T L Q x.i) ∧ ∃ g v0, gl < g ∧ Wb W g x.w ∧ Bk W gl #[v0] 56 ∧ v0.ownBlock ≠ some g ∧ (∀ b o, x.a = some ⟨b, o, none⟩ → b ≠ gl ∧ v0.ownBlock ≠ some b) ∧ a' = { tmps := #[.agg #[.slice Aq nq kq], .agg #[.slice A na ka], .agg #[.slice Ax N cap, .int .i64 c], .pointer (some ⟨w.heap.size, 0, none⟩), .pointer (some ⟨w.heap.size + 1, 0, none⟩), .pointer (some ⟨w.heap.size + 1 + 1, 0, none⟩), .slice none 0 0, .pointer (some ⟨gl, 0, none⟩), .pointer (some ⟨g, 0, none⟩), .slice x.a x.k x.c, undef, undef,
      .agg #[.slice Aq nq kq], .agg #[.slice A na ka], .agg #[.slice Ax N cap, .int .i64 c], .func (.func 83) #[] #[.pointer (some ⟨w1.heap.size, 0, none⟩), .pointer (some ⟨w1.heap.size + 1, 0, none⟩), .pointer (some ⟨w1.heap.size + 1 + 1, 0, none⟩)], .agg #[.int .i64 (x.w.x : Int), .int .i64 x.w.b, .int .i64 x.w.m], .slice x.a x.k x.c, undef, undef, undef, undef, undef, undef, undef, undef, undef, undef, undef, undef, undef, undef, undef], defers := [] }) (fun x a' s X Y row hs hg hr => ?ownA) ?assign ?body ?done
  case own =>
    obtain ⟨h1, ⟨v, h2, h3, h4⟩, h5⟩ := hs
    exact ⟨h1, ⟨v, h2.kept hg (fun r e => (hr r e).2), h3.kept hg (fun r e => (hr r e).2), h4⟩, h5.grown hg h5.size (fun q e => by have h6 := (hr q e).1; have h7 := HB4.out.size; have h8 := HS1.out; omega)⟩
  case abide =>
    obtain ⟨h1, ⟨v, h2, h3, h4⟩, h5⟩ := hs
    exact ⟨h1, ⟨v, h2.turn ht (fun h => h.2.2.1 rfl), h3.turn ht (fun k e h => h.2.2.2.2 v (h2.c 0 _ rfl) e), h4⟩, h5.trans (ht.below (fun k e => by have h6 := e.1; have h7 := HB4.out.size; have h8 := HS1.out; omega) h5.size)⟩
  case ownA =>
    obtain ⟨h0, ha, g, v0, h1, h2, h3, h4⟩ := hs
    exact ⟨h0, ha.kept ri_ok hg (fun r e => (hr r e).2), g, v0, h1, h2.kept hg (fun r e => (hr r e).2), h3.kept hg (fun r e => (hr r e).2), h4⟩
  case start => exact ⟨fun x hx => by simp at hx, ⟨.slice none 0 0, HKG.out.below HB4.out, Rk.Own.nil _ _ _, fun e => by cases e⟩, HB1.out.trans (HB4.out.mono HB1.out.size)⟩
  case assign =>
    intro l pre x W K hI hPr hK
    obtain ⟨h1, ⟨v, h2, h3, h4⟩, h5⟩ := hI
    have hgw := h2.lt
    obtain ⟨g, hg⟩ : ∃ g, g = W.heap.size := ⟨_, rfl⟩
    obtain ⟨W2, hW2⟩ : ∃ W2, W2 = W.alloc (.cells #[.int .i64 (x.w.x : Int), .int .i64 x.w.b, .int .i64 x.w.m] 52) := ⟨_, rfl⟩
    have b2 : Below W.heap.size W W2 := by rw [hW2]; exact below_new _ _
    have kf : KeepsFrom (w3.heap.size) W W2 := by rw [hW2]; exact (KeepsOthers.alloc W _).from _
    have kw : Wb W2 g x.w := by rw [hW2, hg]; exact Bk.new W _ _
    have HK := Lib.hid hK
    clear hK
    simp only [yC, wnV]
    gi_wp2
    rw [← hW2, ← hg]
    exact HK.out _ _ kf (Ko.below b2 hgw) ⟨h1, ⟨v, h2.below b2, h3.below b2, h4⟩, h5.trans (b2.mono h5.size)⟩ ⟨fun z hz => by simp at hz; subst hz; exact ⟨hPr.2.1, hPr.2.2.1⟩, hPr.2.2.2.1.below b2, g, v, by omega, kw, h2.below b2, fun e => by have := (h3.lt g e).2; omega, fun b o e => ⟨(hPr.2.2.2.2 b o e).1, (hPr.2.2.2.2 b o e).2 v (h2.c 0 _ rfl)⟩, rfl⟩
  case body =>
    rintro l pre x a' W ⟨h1, ⟨v, h2, h3, h4⟩, h5⟩ ⟨h0, ha, g, v0, hg, kw, hv0, hgo, hxa, rfl⟩ hlt
    obtain rfl : v0 = v := by
      have e : some (Obj.cells #[v0] 56 (0, 0)) = some (Obj.cells #[v] 56 (0, 0)) := hv0.symm.trans h2
      injection e with e; injection e with e; simpa using e
    have hok : okP T L Q (pre ++ [x]) := fun z hz => by
      rcases List.mem_append.1 hz with hz | hz
      · exact h1 z hz
      · exact h0 z hz
    have hxk : x.k = (outN T L Q x.i).length := (h0 x (by simp)).2
    obtain ⟨out, hout⟩ : ∃ out, out = outN T L Q x.i := ⟨_, rfl⟩
    have hel := edgP_len (T := T) (L := L) (Q := Q) pre
    have hol := outN_len (T := T) (L := L) (Q := Q) x.i
    rw [← hout] at ha hxk hol
    have HEP := Lib.hid (show edgP T L Q (pre ++ [x]) = edgP T L Q pre ++ out.map fun y => (x.w.x, y) by unfold edgP; rw [List.flatMap_append, hout]; simp)
    obtain ⟨k, hk⟩ : ∃ k, k = x.k := ⟨_, rfl⟩
    rw [← hk] at hxk ⊢
    have hq64 := HQ64.out
    have hl16 := HL16.out
    have hee : (edgP T L Q pre).length ≤ 2000000 := by
      have h6 : pre.length * (L.length + Q.length) ≤ 64 * (L.length + Q.length) := Nat.mul_le_mul_right _ (by omega)
      have h7 := HNQ.out
      omega
    have HOK := Lib.hid hok
    have hgw := h2.lt
    have H2 := Lib.hid h2
    have H3 := Lib.hid h3
    have H4 := Lib.hid h4
    have H5 := Lib.hid h5
    have HA := Lib.hid ha
    have HW := Lib.hid kw
    have HGO := Lib.hid hgo
    have HXA := Lib.hid hxa
    have HEE := Lib.hid hee
    have hk20 : k ≤ 20000 := by have h7 := HNQ.out; omega
    have HXK := Lib.hid hxk
    have hws : w.heap.size ≤ W.heap.size := h5.size
    clear h0 h1 h2 h3 h4 h5 hok hlt ha hv0 hgo hxa hee hel hol hxk hk hq64 hl16 kw
    gi_wp2_with fail
    gi_loopw [20] (fun iv wr => ∃ (j : Nat) (v' : Value), iv = .int .i64 (j : Int) ∧ j ≤ k ∧ Hid (Bk wr gl #[v'] 56) ∧ Hid (RE.Own wr w.heap.size v' (edgP T L Q pre ++ (out.take j).map fun y => (x.w.x, y))) ∧ Hid (v'.ownBlock ≠ some gl) ∧ Hid (∀ q, v'.ownBlock = some q → v0.ownBlock = some q ∨ W.heap.size ≤ q) ∧ Hid (Turn (fun q => q = gl ∨ v0.ownBlock = some q) W wr) ∧ Hid (KeepsOthers W wr)) (fun iv _ => k - (intOf iv).toNat)
    case atStart => exact ⟨0, v0, rfl, Nat.zero_le _, H2.out, by show RE.Own _ _ _ (_ ++ List.map _ (out.take 0)); simpa using H3.out, H4.out, fun q e => .inl e, Turn.refl _ _, KeepsOthers.refl _⟩
    case round =>
      obtain ⟨j, v', rfl, hj, h2, h3, h4, h5, h6, h7⟩ := hrel
      rcases Nat.lt_or_ge j k with hjk | hjk
      · have hjl : j < out.length := by rw [← HXK.out]; exact hjk
        obtain ⟨u, hu⟩ : ∃ u, out[j]? = some u := ⟨out[j]'hjl, List.getElem?_eq_getElem hjl⟩
        obtain ⟨b, o, hxe, _, hc⟩ := RI_cell (HA.out.turn h6.out (fun b o e => .inr (fun h => by
          rcases h with h | h
          · exact (HXA.out b o e).1 h
          · exact (HXA.out b o e).2 h))) hu
        have kw := HW.out.turn h6.out (fun h => by
          rcases h with h | h
          · omega
          · exact HGO.out h)
        have y0 := kw.c 0 _ rfl
        have cg := h2.out.c 0 _ rfl
        have fg := h2.out.fr 0
        have htk : (out.take (j + 1)).map (fun y => (x.w.x, y)) = (out.take j).map (fun y => (x.w.x, y)) ++ [(x.w.x, u)] := by rw [List.take_add_one, hu, List.map_append]; rfl
        have HTK := Lib.hid htk
        rw [hxe]
        obtain ⟨W2, hW2⟩ : ∃ W2, W2 = wr.alloc (.cells #[.int .i64 (x.w.x : Int), .int .i64 (u : Int)] 61) := ⟨_, rfl⟩
        have b2 : Below wr.heap.size wr W2 := by rw [hW2]; exact below_new _ _
        have HA2 := Lib.hid (show RE.At W2 (some ⟨wr.heap.size, 0, none⟩) [(x.w.x, u)] by rw [hW2]; exact Rk.At.new re_ok wr (x.w.x, u) _)
        have HB2 := Lib.hid b2
        have HJL := Lib.hid hjl
        have hwr : w.heap.size ≤ wr.heap.size := Nat.le_trans hws h6.out.size
        clear hu kw htk b2 hjl
        gi_wp2_with (first | (refine Rk.wpListIn_append re_ok rfl _ _ rfl w.heap.size _ _ [(x.w.x, u)] rfl (h3.out.below (below_new _ _)) _ 1 1 rfl (by have h := HA2.out; rw [hW2] at h; exact h) rfl (.inr ⟨_, _, rfl⟩) (by have h7 := HEE.out; rw [List.length_append, List.length_map, List.length_take]; simp; omega) (by simp; omega) ?_; intro v8 w8 ho8 hg8 hv8; obtain ⟨A8, c8, hv8e, _, _, _⟩ := Rk.Own.form re_ok ho8; generalize hn8 : ((edgP T L Q pre ++ (out.take j).map fun y => (x.w.x, y)) ++ [(x.w.x, u)]).length = n8 at hv8e; subst hv8e; clear hn8; rw [← hW2] at hg8 hv8; have HO8 := Lib.hid ho8; have HG8 := Lib.hid hg8; have HV8 := Lib.hid hv8; have k8 := (h2.out.below HB2.out).far hg8 (fun e => h4.out e.symm); have K8 := Lib.hid k8; have cg8 := k8.c 0 _ rfl; have fg8 := k8.fr 0; clear ho8 hg8 hv8 k8 cg fg y0) | fail)
        go_roundw
        case rel =>
          obtain ⟨v8, hv8e⟩ : ∃ v8, v8 = Value.slice A8 n8 c8 := ⟨_, rfl⟩
          rw [← hv8e] at HO8 HV8 ⊢
          clear hv8e cg8
          obtain ⟨w9, hw9⟩ : ∃ w9, w9 = w8.setCell ⟨gl, 0, none⟩ v8 := ⟨_, rfl⟩
          rw [← hw9]
          have T8 : Turn (fun q => v'.ownBlock = some q) wr w8 := (Turn.ofBelow HB2.out).trans ((Turn.refl _ _).grown HG8.out (fun q e => .inl e))
          have T9 : Turn (fun q => q = gl) w8 w9 := by rw [hw9]; exact (Turn.refl _ _).setCell _ _ (.inl rfl)
          have T89 : Turn (fun q => q = gl ∨ v'.ownBlock = some q) wr w9 := (T8.mono fun _ h => .inr h).trans (T9.mono fun _ h => .inl h)
          have k9 : Bk w9 gl #[v8] 56 := by rw [hw9]; exact K8.out.set1 v8
          have hv9 : ∀ q, v8.ownBlock = some q → v'.ownBlock = some q ∨ wr.heap.size ≤ q := fun q e => by
            rcases HV8.out with h | h
            · exact .inl (h ▸ e)
            · rw [h] at e; injection e with e; have := HB2.out.size; exact .inr (by omega)
          have hgr : gl < wr.heap.size := h2.out.lt
          have hne9 : v8.ownBlock ≠ some gl := fun e => by
            rcases hv9 gl e with h | h
            · exact h4.out h
            · omega
          have hkf : KeepsOthers wr w9 := by
            have k1 : KeepsOthers wr W2 := by rw [hW2]; exact KeepsOthers.alloc wr _
            have k2 : KeepsOthers W2 w8 := KeepsOthers.of_grownBy HG8.out (fun q ob e ho => (h3.out.below HB2.out).cells e ho)
            have k3 : KeepsOthers w8 w9 := by rw [hw9]; exact KeepsOthers.setCell _ _ _
            exact (k1.trans k2).trans k3
          have hsz := h6.out.size
          refine ⟨j + 1, v8, by simp, by omega, k9, ?_, hne9, fun q e => ?_, h6.out.trans' T89 (fun q e => ?_), h7.out.trans hkf⟩
          · show RE.Own w9 w.heap.size v8 (edgP T L Q pre ++ (out.take (j + 1)).map fun y => (x.w.x, y))
            rw [HTK.out, ← List.append_assoc]
            exact HO8.out.turn T9 (fun q e h => hne9 (by rw [e]; exact congrArg some h))
          · rcases hv9 q e with h | h
            · exact h5.out q h
            · exact .inr (by omega)
          · rcases e with e | e
            · exact .inl (.inl e)
            · rcases h5.out q e with h | h
              · exact .inl (.inr h)
              · exact .inr h
        case measure => simp [intOf]; omega
      · obtain rfl : j = k := by omega
        gi_wp2_with fail
        have h8 := h3.out
        rw [List.take_of_length_le (by rw [HXK.out]; exact Nat.le_refl _), ← HEP.out] at h8
        exact ⟨h7.out.from _, Ko.of hgw (H2.out.c 0 _ rfl) (h2.out.c 0 _ rfl) h6.out h5.out (fun q e => (h3.out.lt q e).2), HOK.out, ⟨v', h2.out, h8, h4.out⟩, H5.out.trans (h6.out.below (fun q e => by
          rcases e with e | e
          · have := HGL.out; omega
          · exact (H3.out.lt q e).1) H5.out.size)⟩
  case done =>
    rintro D xs W hD hxs ⟨h1, ⟨v, h2, h3, h4⟩, h5⟩ hK
    have cg := h2.c 0 _ rfl
    have H1 := Lib.hid h1
    have H3 := Lib.hid h3
    have H5 := Lib.hid h5
    have HD := Lib.hid hD
    have HX := Lib.hid hxs
    clear h1 h2 h3 h4 h5 hD hxs
    gi_wp2
    refine ⟨by simp, .inl ⟨_, _, rfl, run_takeDeferred hK, ?_⟩⟩
    have t : Turn (fun k => k = D) W (W.putObj D (.deferred none)) := (Turn.refl _ W).grown (grownBy_putObj' W D _) (fun j e => .inl (by injection e with e; exact e.symm))
    refine ⟨_, results_tmp rfl _ _ _, v, rfl, ?_, H5.out.trans (t.below (fun k e => by have h6 := HD.out; have h7 := HB4.out.size; have h8 := HS1.out; omega) H5.out.size)⟩
    have h9 := H3.out.kept (grownBy_putObj' W D (.deferred none)) (fun r e => by cases e; exact ⟨_, hK, rfl⟩)
    rw [edgP_all H1.out HX.out] at h9
    unfold edgL
    rw [HNQ.out]
    exact h9
end Go.Proofs.YtbokhhialfbjcaaGreat
