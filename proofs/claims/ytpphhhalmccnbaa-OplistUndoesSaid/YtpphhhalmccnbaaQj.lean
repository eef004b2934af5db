/-
  Undo.
-/
import Derived.Test.YtpphhhalmccnbaaQi
import Derived.Sort.CutIn
namespace Go.Proofs.Ytpphhhalmccnbaa
set_option maxRecDepth 100000
set_option linter.unusedVariables false
set_option linter.unusedSimpArgs false
open Go.RowKit Go.Shelf
attribute [local go_sem] Oper.semAt_some

theorem Rk.wpIn_append {α : Type} {R : Rk α} {F : Fence} {nF : Nat} {w : World} {o : Oper} {a : Act} {K : Act → World → Prop} {Q : Exit → Act → World → Prop} (hR : R.Ok) (s x : Operand)
    (ho : o.op = .call { callee := .builtin .append, args := #[s, x], argTypes := #[R.s, R.s] }) (base : Nat) (v : Value) (l r : List α) (hs : a.eval s = v) (hown : R.Own w base v l)
    (A : Option Addr) (n c : Nat) (hx : a.eval x = .slice A n c) (hm : R.At w A r) (hn : r.length = n) (hA : A = none ∨ ∃ b o, A = some ⟨b, o, none⟩) (hlen : l.length + r.length ≤ 100000000) (hbase : base ≤ w.heap.size)
    (h : ∀ v' w', R.Own w' base v' (l ++ r) → w.grownBy w' v.ownBlock → (v'.ownBlock = v.ownBlock ∨ v'.ownBlock = some w.heap.size) → K (a.put o.dst v') w') : o.wpIn F nF Try.prog a w K Q := by
  obtain ⟨v', w', hr, h2, h3, h4⟩ := Rk.run_append (c := c) hR hown hm hn hA hlen hbase o.type
  unfold Oper.wpIn
  refine ⟨by simp [Oper.about, ho, resolve, Target.leads, Sem.run_pure], ?_⟩
  rw [Oper.semAt_plain F _ _ (by rw [ho]; intro c hc'; cases hc')]
  simp [execOp, ho, resolve, invoke, builtin, hs, hx, hr, Result.andThen]
  exact h v' w' h2 h3 h4
theorem wpIn_build_en {F : Fence} {nF : Nat} {W : World} {e : En} {o : Oper} {a : Act} {K : Act → World → Prop} {Q : Exit → Act → World → Prop} (x : Operand) (ho : o.op = .buildSlice 30 1 #[(0, x)]) (hx : a.eval x = etV e)
    (h : ∀ w' h', W.heap.size ≤ h' → REo.At w' (some ⟨h', 0, none⟩) [e] → Below W.heap.size W w' → K (a.put o.dst (.slice (some ⟨h', 0, none⟩) 1 1)) w') : o.wpIn F nF Try.prog a W K Q := by
  unfold Oper.wpIn
  refine ⟨by simp [Oper.about, ho], ?_⟩
  rw [Oper.semAt_plain F _ _ (by rw [ho]; intro c hc'; cases hc')]
  unfold execOp
  simp only [ho, List.map_toArray, List.map_cons, List.map_nil, hx]
  go_simp
  exact h _ _ (Nat.le_refl _) (eo_at W e) (below_new W _)

theorem rv_map (G : List En) : (rv G.length G.length).map (fun j => G.getD j enD) = G.reverse := by
  apply List.ext_getElem?
  intro i
  rw [List.getElem?_map]
  rcases Nat.lt_or_ge i G.length with h | h
  · unfold rv
    rw [List.getElem?_map, List.getElem?_range h, List.getElem?_reverse h, Option.map_some, Option.map_some, List.getD_eq_getElem?_getD, List.getElem?_eq_getElem (by omega)]
    rfl
  · rw [List.getElem?_eq_none (by rw [rv_len]; exact h), List.getElem?_eq_none (by rw [List.length_reverse]; exact h)]; rfl
theorem undo_list {l : List En} {P : List Pe} {sel : En → Bool} {G : List En} {L : Nat} (hf : Fit l P) (hG : G = pickO sel P) (hL : G.length = L) (ys : List (Fin L)) (hys : ys.map (·.val) = rv L L) :
    l ++ ys.map (fun x : Fin L => (G.getD x.val enD).ag) = withU sel l P := by
  subst hL
  have e1 : ys.map (fun x : Fin G.length => (G.getD x.val enD).ag) = ((ys.map (·.val)).map (fun j => G.getD j enD)).map En.ag := by rw [List.map_map, List.map_map]; rfl
  have e2 : G.reverse.map En.ag = G.reverse.map En.neg := List.map_congr_left fun e he => En.ag_neg (by
    rw [List.mem_reverse, hG] at he
    unfold pickO at he
    obtain ⟨p, hp, rfl⟩ := List.mem_map.mp he
    exact hf.no p (List.mem_filter.mp hp).1)
  rw [e1, hys, rv_map, e2]
  unfold withU
  rw [undoL_pick, hG]

/-- how Undo answers -/
def UndoOut (w : World) (l' : List En) (r : Ending) (w' : World) : Prop := Below w.heap.size w w' ∧ ∃ A' n' a', r = .returned (liV A' n' a') ∧ EsAt REo w' A' n' l' ∧ (l' = [] ∨ Sp A') ∧ n' ≤ a'
set_option maxHeartbeats 4000000 in
theorem undo_any (A : Option Addr) (n a : Nat) (l : List En) (P : List Pe) (B : Option Addr) (m b : Nat) (T : List Int) (hP : openO l = some P) (hn : n ≤ 900) (hm : m ≤ 1000) (hsp : l = [] ∨ Sp A) (w : World) (hl : EsAt REo w A n l) (hT : Ls w B m T) :
    Calls Try.prog 18 #[liV A n a, .slice B m b] w (UndoOut w (withU (amongE T) l P)) := by
  obtain ⟨wa, hwa⟩ : ∃ wa, wa = (w.alloc (.cells (liC A n a) 32)).alloc (.cells (liC none 0 0) 32) := ⟨_, rfl⟩
  have sa : wa.heap.size = w.heap.size + 1 + 1 := by rw [hwa]; simp
  obtain ⟨w1, hw1⟩ : ∃ w1, w1 = (wa.alloc (.map #[] 0)).alloc (.cells #[.map (some (w.heap.size + 1 + 1))] 82) := ⟨_, rfl⟩
  have hmm := @run_makeMap Try.prog
  have ba : Below w.heap.size w wa := by rw [hwa]; exact below_two (below_new _ _) (below_new _ _)
  have b1 : Below wa.heap.size wa w1 := by rw [hw1]; exact below_two (below_new _ _) (below_new _ _)
  have HX := Lib.hid (show Bk w1 w.heap.size (liC A n a) 32 from by
    have h : Bk wa w.heap.size (liC A n a) 32 := by rw [hwa]; exact (Bk.new w _ _).al _
    exact h.below b1)
  have HZ := Lib.hid (show Bk w1 (w.heap.size + 1) (liC none 0 0) 32 from by
    have h : Bk wa (w.heap.size + 1) (liC none 0 0) 32 := by
      have h := Bk.new (w.alloc (.cells (liC A n a) 32)) (liC none 0 0) 32
      rw [size_al] at h
      rw [hwa]; exact h
    exact h.below b1)
  have HC := Lib.hid (show Cs w1 (w.heap.size + 1 + 1) 0 [] from by
    have h := Cs.made wa
    rw [sa] at h
    rw [hw1]; exact h.below (below_new _ _))
  have HV := Lib.hid (show Bk w1 (w.heap.size + 1 + 1 + 1) #[.map (some (w.heap.size + 1 + 1))] 82 from by
    have h := Bk.new (wa.alloc (.map #[] 0)) #[.map (some (w.heap.size + 1 + 1))] 82
    rw [size_al, sa] at h
    rw [hw1]; exact h)
  have HB := Lib.hid (show Below w.heap.size w w1 from ba.trans (b1.mono ba.size))
  have HL := Lib.hid hl
  have HTT := Lib.hid hT
  have HP := Lib.hid hP
  have HSP := Lib.hid hsp
  have HWA := Lib.hid hwa
  have HW1 := Lib.hid hw1
  clear hl hT hP hsp ba b1 sa
  refine (callsIn_wide (n := 9)).1 ?_
  refine callsIn_of_wp_marks Try.func18 rfl trivial ?_ rfl
  simp only [Try.ntmps18, List.size_toArray, List.length_cons, List.length_nil, Nat.reduceAdd, Nat.reduceSub, Array.replicate_succ, Array.replicate_zero, List.push_toArray, List.append_toArray, List.nil_append, List.cons_append]
  gi_upto_region 2 with fail
  rw [← hwa, ← hw1]
  clear hwa hw1
  have HWS := Lib.hid (show w.heap.size + 1 + 1 + 1 < w1.heap.size from HV.out.lt)
  clear hmm HWA HW1
  gi_wp2_with fail
  gi_loopw [15] (fun u wr => ∃ j : Nat, u = .int .i64 (j : Int) ∧ j ≤ m ∧ Hid (Cs wr (w.heap.size + 1 + 1) j (T.take j)) ∧ Hid (Bk wr w.heap.size (liC A n a) 32) ∧ Hid (Bk wr (w.heap.size + 1) (liC none 0 0) 32) ∧ Hid (Bk wr (w.heap.size + 1 + 1 + 1) #[.map (some (w.heap.size + 1 + 1))] 82) ∧ Hid (Below w.heap.size w wr)) (fun u _ => m - (intOf u).toNat)
  case atStart => exact ⟨0, rfl, Nat.zero_le _, HC, HX, HZ, HV, HB⟩
  case round =>
    obtain ⟨j, rfl, hj, HCj, HXj, HZj, HVj, HBj⟩ := hrel
    clear HC HX HZ HV HB
    have v0 := HVj.out.c 0 _ rfl
    rcases Nat.lt_or_ge j m with hlt | hge
    · obtain ⟨b2, o, hA, hbl, hok, hget, h0⟩ := HTT.out.get hlt
      subst hA
      have c0 := (HBj.out.cell (p := ⟨b2, o + j, none⟩) hbl).trans h0
      obtain ⟨wn, hrun, hcs, hg⟩ := HCj.out.upd (by omega) (T.getD j 0) hok
      have HTK := Lib.hid (show T.take (j + 1) = T.take j ++ [T.getD j 0] from by rw [List.take_add_one, hget]; rfl)
      have tn : Turn (fun q => q = w.heap.size + 1 + 1) wr wn := (Turn.refl _ _).grown hg (fun q e => .inl (by injection e with e; exact e.symm))
      have HCN := Lib.hid hcs
      have HTN := Lib.hid tn
      generalize T.getD j 0 = x at *
      have hd4 : decide ((j : Int) < (m : Int)) = true := decide_eq_true (by omega)
      have hd5 : decide (j < m) = true := decide_eq_true hlt
      have hi1 : (j : Int) < (m : Int) := by omega
      clear h0 hbl hok hget hcs hg tn
      gi_wp2_with fail
      go_roundw
      case rel => exact ⟨j + 1, rfl, hlt, by rw [HTK.out]; exact HCN, Lib.hid (HXj.out.turn HTN.out (by omega)), Lib.hid (HZj.out.turn HTN.out (by omega)), Lib.hid (HVj.out.turn HTN.out (by omega)), Lib.hid (HBj.out.trans (HTN.out.below (fun q e => by omega) HBj.out.size))⟩
      case measure => simp [intOf] <;> omega
    · obtain rfl : j = m := by omega
      have hd4 : decide ((j : Int) < (j : Int)) = false := decide_eq_false (by omega)
      have hd5 : decide (j < j) = false := decide_eq_false (by omega)
      obtain ⟨w3, hw3⟩ : ∃ w3, w3 = wr := ⟨_, rfl⟩
      subst hw3
      have HC3 := Lib.hid (show Cs w3 (w.heap.size + 1 + 1) j T from by have h := HCj.out; rwa [List.take_of_length_le (by rw [HTT.out.len]; omega)] at h)
      have HOP := Lib.hid (opened_any 38 (w.heap.size + 1 + 1 + 1) (fun x => decide (x ∈ T)) A n a l P HP.out (by omega) w3 (HL.out.below HBj.out) (px_undo w3 _ _ _ T HVj.out HC3.out))
      have x0 := HXj.out.c 0 _ rfl
      clear HCj v0 HC3
      gi_wp2_with fail
      refine ⟨trivial, (callsIn_wide.2 HOP.out).mono ?_⟩
      rintro r w4 ⟨vg, rfl, hog, hbg, _⟩
      clear x0 HOP
      obtain ⟨G, hG⟩ : ∃ G, G = pickO (amongE T) P := ⟨_, rfl⟩
      have hog2 : REo.Own w4 (w3.heap.size + 1) vg G := by rw [hG]; exact hog
      obtain ⟨L, hLG⟩ : ∃ L, G.length = L := ⟨_, rfl⟩
      obtain ⟨AG, cg, rfl⟩ := own_slice re_oko hog2 hLG
      have HOKG := Lib.hid (show ∀ e ∈ G, e.Ok from fun e he => by
        rw [hG] at he
        unfold pickO at he
        obtain ⟨p, hp, rfl⟩ := List.mem_map.mp he
        exact HL.out.ok _ (List.mem_of_getElem? ((open_fit HP.out).at' p (List.mem_filter.mp hp).1)))
      have HEG := Lib.hid (own_es re_oko hog2 HOKG.out)
      have HAG := Lib.hid (fun q o (e : AG = some ⟨q, o, none⟩) => (hog2.lt q (by rw [e]; rfl)).2)
      have HLN := Lib.hid (show L ≤ 1000 from by have h1 := pickO_le (sel := amongE T) (P := P); have h2 := (open_fit HP.out).len; have h3 := HL.out.len; rw [← hLG, hG]; omega)
      have HLG := Lib.hid hLG
      have HGG := Lib.hid hG
      have HX4 := Lib.hid (HXj.out.below hbg)
      have HZ4 := Lib.hid (HZj.out.below hbg)
      have HB4 := Lib.hid (HBj.out.trans (hbg.mono HBj.out.size))
      have HW4 := Lib.hid (show w.heap.size + 1 + 1 + 1 < w4.heap.size from Nat.lt_of_lt_of_le HVj.out.lt hbg.size)
      clear hog hog2 hbg hG hLG HXj HZj HVj HBj
      have x0 := HX4.out.c 0 _ rfl
      have HCL := Lib.hid (cloneE_any A n a l (by omega) HSP.out w4 (HL.out.below HB4.out))
      gi_wp2_with fail
      refine ⟨trivial, (callsIn_wide.2 HCL.out).mono ?_⟩
      rintro r w5 ⟨v5, rfl, ho5, hb5⟩
      obtain ⟨A5, c5, rfl⟩ := own_slice re_oko ho5 HL.out.len
      obtain ⟨gv, hgv⟩ : ∃ gv, gv = w5.heap.size := ⟨_, rfl⟩
      obtain ⟨w6, hw6⟩ : ∃ w6, w6 = w5.alloc (.cells #[.slice A5 n c5] 30) := ⟨_, rfl⟩
      have b6 : Below w5.heap.size w5 w6 := by rw [hw6]; exact below_new _ _
      have s6 : w6.heap.size = gv + 1 := by rw [hw6, size_al, hgv]
      have HV6 := Lib.hid (show Bk w6 gv #[.slice A5 n c5] 30 from by rw [hw6, hgv]; exact Bk.new _ _ _)
      have HO6 := Lib.hid (ho5.below b6)
      have hb6 := hb5.trans (b6.mono hb5.size)
      have HEG6 := Lib.hid (HEG.out.below hb6)
      have HZ6 := Lib.hid (HZ4.out.below hb6)
      have HB6 := Lib.hid (HB4.out.trans (hb6.mono HB4.out.size))
      have HS6 := Lib.hid (show w6.heap.size = gv + 1 ∧ w4.heap.size ≤ gv from ⟨s6, by rw [hgv]; exact hb5.size⟩)
      have HV5 := Lib.hid (fun k (e : (Value.slice A5 n c5).ownBlock = some k) => (show w4.heap.size ≤ k ∧ k < gv from by have h := ho5.lt k e; rw [hgv]; exact h))
      clear ho5 hb5 HCL x0 b6 s6 hb6
      gi_upto_region 9 with fail
      rw [← hw6, ← hgv]
      clear hw6 hgv
      gi_wp2_with fail
      refine ⟨trivial, (callsIn_wide.2 (back_any AG L cg w6)).mono ?_⟩
      rintro r w7 ⟨rfl, hw7⟩
      have HSEQ := Lib.hid (back_seq (Turn fun q => w4.heap.size ≤ q ∧ q ≠ gv + 1) 8 (by omega) (fun q => w4.heap.size ≤ q ∧ q ≠ gv + 1) AG G L cg HLN.out w6 HEG6.out (fun q o e h => by have := HAG.out q o e; omega) (fun h => by have := HS6.out.1; omega) (fun _ _ h => h))
      rw [← hw7] at HSEQ
      have b7 : Below w6.heap.size w6 w7 := by rw [hw7]; exact below_new _ _
      have s7 : w7.heap.size = gv + 2 := by rw [hw7, size_al, HS6.out.1]
      rw [HS6.out.1]
      rw [HS6.out.1] at HSEQ
      have HV7 := Lib.hid (HV6.out.below b7)
      have HO7 := Lib.hid (HO6.out.below b7)
      have HZ7 := Lib.hid (HZ6.out.below b7)
      have HB7 := Lib.hid (HB6.out.trans (b7.mono HB6.out.size))
      have HS7 := Lib.hid s7
      clear hw7 b7 s7 HV6 HO6 HZ6 HB6 HEG6
      gi_wp2_with fail
      refine wpIn_rangeFunc_pr rfl (by omega) (gf := 57) (lb := #[.pointer (some ⟨gv + 1, 0, none⟩)]) rfl trivial (enters_of Try.func57 (by kernel_rfl) rfl)
        HSEQ.out (fun h k => h.trans k) (fun W o => (Turn.refl _ W).grown (grownBy_putObj' W _ o) (fun q e => .inl (by injection e with e; have h1 := HS7.out; have h2 := HS6.out.2; omega))) (Below.refl _ _) (fun _ => rfl)
        (fun pre W => (∃ v, Bk W gv #[v] 30 ∧ REo.Own W w4.heap.size v (l ++ pre.map fun x => (G.getD x.val enD).ag) ∧ (∀ k, v.ownBlock = some k → k ≠ gv ∧ k ≠ gv + 1)) ∧ Bk W (w.heap.size + 1) (liC none 0 0) 32 ∧ Below w.heap.size w W ∧ w7.heap.size ≤ W.heap.size)
        (fun pre X Y row hs hg hr => ?own)
        (fun pre X Y hs ht => ?abide)
        ?start (fun x a' W => ∃ g, gv + 1 < g ∧ Bk W g (etC (G.getD x.val enD)) 62 ∧ a' = { tmps := #[liV A n a, .slice B j b, .pointer (some ⟨w.heap.size, 0, none⟩), undef, .pointer (some ⟨w.heap.size + 1, 0, none⟩), .pointer (some ⟨w.heap.size + 1 + 1 + 1, 0, none⟩), undef, u7, .slice AG L cg, .pointer (some ⟨gv, 0, none⟩), undef, .pointer (some ⟨g, 0, none⟩), .map (some (w.heap.size + 1 + 1)), .slice B j b, .int .i64 (j : Int), .int .i64 (j : Int), .bool false, u17, u18, u19, u20, u21, u22, .agg #[.slice A n a], .func (.func 38) #[] #[.pointer (some ⟨w.heap.size + 1 + 1 + 1, 0, none⟩)], .slice AG L cg, .pointer (some ⟨w.heap.size, 0, none⟩), .slice A n a, .slice A5 n c5, .slice AG L cg, .func (.func 57) #[] #[.pointer (some ⟨gv + 1, 0, none⟩)], .int .i64 (x.val : Int), etV (G.getD x.val enD), undef, undef, undef, undef, undef, undef, undef], defers := [] }) (fun x a' s X Y row hs hg hr => ?ownA) ?assign ?body ?done
      case own =>
        obtain ⟨⟨v, h2, h3, h4⟩, h5, h6, h7⟩ := hs
        exact ⟨⟨v, h2.kept hg (fun r e => (hr r e).2), h3.kept hg (fun r e => (hr r e).2), h4⟩, h5.kept hg (fun r e => (hr r e).2), h6.grown hg h6.size (fun q e => by have h8 := (hr q e).1; have h9 := HB7.out.size; omega), Nat.le_trans h7 hg.size⟩
      case abide =>
        obtain ⟨⟨v, h2, h3, h4⟩, h5, h6, h7⟩ := hs
        exact ⟨⟨v, h2.turn ht (fun h => h.2.elim), h3.turn ht (fun k e h => h.2.elim), h4⟩, h5.turn ht (fun h => h.2.elim), h6.trans (ht.below (fun k e => e.2.elim) h6.size), Nat.le_trans h7 ht.size⟩
      case ownA =>
        obtain ⟨g, h1, h2, h3⟩ := hs
        exact ⟨g, h1, h2.kept hg (fun r e => (hr r e).2), h3⟩
      case start => exact ⟨⟨_, HV7.out, by simpa using HO7.out, fun k e => by have h := HV5.out k e; omega⟩, HZ7.out, HB7.out, Nat.le_refl _⟩
      case assign =>
        intro l0 pre x W K hI _ hK
        obtain ⟨⟨v, h2, h3, h4⟩, h5, h6, h7⟩ := hI
        obtain ⟨e, he⟩ : ∃ e, e = G.getD x.val enD := ⟨_, rfl⟩
        rw [← he] at hK ⊢
        obtain ⟨g, hg⟩ : ∃ g, g = W.heap.size := ⟨_, rfl⟩
        obtain ⟨W2, hW2⟩ : ∃ W2, W2 = W.alloc (.cells (etC e) 62) := ⟨_, rfl⟩
        have b2 : Below W.heap.size W W2 := by rw [hW2]; exact below_new _ _
        have kf : KeepsFrom w7.heap.size W W2 := by rw [hW2]; exact (KeepsOthers.alloc W _).from _
        have kw : Bk W2 g (etC e) 62 := by rw [hW2, hg]; exact Bk.new W _ _
        have hgg : gv + 1 < g := by have := HS7.out; omega
        have HK := Lib.hid hK
        clear hK he
        obtain ⟨t, c, bb, u⟩ := e
        gi_wp2
        rw [← hW2, ← hg]
        exact HK.out _ _ kf (Turn.ofBelow b2) ⟨⟨v, h2.below b2, h3.below b2, h4⟩, h5.below b2, h6.trans (b2.mono h6.size), Nat.le_trans h7 b2.size⟩ ⟨g, hgg, kw, rfl⟩
      case body =>
        rintro l0 pre x a' W ⟨⟨v, h2, h3, h4⟩, h5, h6, h7⟩ ⟨g, hg, kw, rfl⟩ hlt
        obtain ⟨e, he⟩ : ∃ e, e = G.getD x.val enD := ⟨_, rfl⟩
        have hget : G[x.val]? = some e := by rw [he, List.getD_eq_getElem?_getD, List.getElem?_eq_getElem (by rw [HLG.out]; exact x.isLt)]; rfl
        have hoke := HOKG.out e (List.mem_of_getElem? hget)
        have hxs : l ++ (pre ++ [x]).map (fun x : Fin L => (G.getD x.val enD).ag) = (l ++ pre.map fun x : Fin L => (G.getD x.val enD).ag) ++ [e.ag] := by rw [List.map_append, ← List.append_assoc, he]; rfl
        rw [← he] at kw ⊢
        obtain ⟨xs, hxe⟩ : ∃ xs, xs = l ++ pre.map fun x : Fin L => (G.getD x.val enD).ag := ⟨_, rfl⟩
        rw [← hxe] at h3 hxs
        obtain ⟨nv, hnv⟩ : ∃ nv, xs.length = nv := ⟨_, rfl⟩
        obtain ⟨Av, cv0, rfl⟩ := own_slice re_oko h3 hnv
        have HXL := Lib.hid (show xs.length = nv ∧ nv ≤ 2000 from ⟨hnv, by rw [← hnv, hxe, List.length_append, List.length_map, HL.out.len]; have := HLN.out; omega⟩)
        have HVW := Lib.hid h2
        have HOW := Lib.hid h3
        have HNW := Lib.hid h4
        have HKW := Lib.hid kw
        have HW4W := Lib.hid (show w4.heap.size ≤ W.heap.size from by have h1 := HS7.out; have h2 := HS6.out.2; omega)
        have HAG := Lib.hid (fun V => against_any e hoke.b V)
        have HFIN : Hid (∀ (w2 w3 w8 : World) (v8 : Value), Below W.heap.size W w2 → Below w2.heap.size w2 w3 → REo.Own w8 w4.heap.size v8 (xs ++ [e.ag]) → w3.grownBy w8 (Value.slice Av nv cv0).ownBlock → (v8.ownBlock = (Value.slice Av nv cv0).ownBlock ∨ v8.ownBlock = some w3.heap.size) → Bk w8 gv #[.slice Av nv cv0] 30 →
            KeepsFrom w7.heap.size W (w8.setCell ⟨gv, 0, none⟩ v8) ∧ Turn (fun q => w4.heap.size ≤ q ∧ q ≠ gv + 1) W (w8.setCell ⟨gv, 0, none⟩ v8) ∧ (∃ v, Bk (w8.setCell ⟨gv, 0, none⟩ v8) gv #[v] 30 ∧ REo.Own (w8.setCell ⟨gv, 0, none⟩ v8) w4.heap.size v (l ++ (pre ++ [x]).map fun x => (G.getD x.val enD).ag) ∧ (∀ k, v.ownBlock = some k → k ≠ gv ∧ k ≠ gv + 1)) ∧ Bk (w8.setCell ⟨gv, 0, none⟩ v8) (w.heap.size + 1) (liC none 0 0) 32 ∧ Below w.heap.size w (w8.setCell ⟨gv, 0, none⟩ v8) ∧ w7.heap.size ≤ (w8.setCell ⟨gv, 0, none⟩ v8).heap.size) := by
          intro w2 w3 w8 v8 hb2 hb3 ho8 hg8 ha8 hv8
          have hb := hb2.trans (hb3.mono hb2.size)
          have hlow : ∀ k, (Value.slice Av nv cv0).ownBlock = some k → w4.heap.size ≤ k ∧ k < W.heap.size := fun k e => h3.lt k e
          have t8 : Turn (fun q => (Value.slice Av nv cv0).ownBlock = some q) w3 w8 := (Turn.refl _ _).grown hg8 (fun q e => .inl e)
          have t9 : Turn (fun q => q = gv) w8 (w8.setCell ⟨gv, 0, none⟩ v8) := (Turn.refl _ _).setCell _ _ (.inl rfl)
          have hgv : w4.heap.size ≤ gv := HS6.out.2
          have T : Turn (fun q => w4.heap.size ≤ q ∧ q ≠ gv + 1) W (w8.setCell ⟨gv, 0, none⟩ v8) := ((Turn.ofBelow hb).trans (t8.mono (fun q e => ⟨(hlow q e).1, (h4 q e).2⟩))).trans (t9.mono (fun q e => by omega))
          have hne8 : ∀ k, v8.ownBlock = some k → k ≠ gv ∧ k ≠ gv + 1 := fun k e => by
            rcases ha8 with h | h
            · exact h4 k (by rw [← h]; exact e)
            · rw [h] at e; injection e with e; have h1 := hb.size; have h2 := HS7.out; omega
          have kf : KeepsOthers W (w8.setCell ⟨gv, 0, none⟩ v8) := by
            have k1 : KeepsOthers W w3 := ⟨hb.size, fun k o hk _ => (hb.block k (Array.getElem?_eq_some_iff.1 hk).1).trans hk⟩
            have k2 : KeepsOthers w3 w8 := KeepsOthers.of_grownBy hg8 (fun q ob e ho => (h3.below hb).cells e ho)
            exact (k1.trans k2).trans (KeepsOthers.setCell _ _ _)
          have hww : w.heap.size + 1 < w4.heap.size := by have := HW4.out; omega
          refine ⟨kf.from _, T, ⟨v8, hv8.set1 v8, by rw [hxs]; exact ho8.turn t9 (fun k e h => (hne8 k e).1 h), hne8⟩, h5.turn T (fun h => by omega), h6.trans (T.below (fun q h => by omega) h6.size), Nat.le_trans h7 T.size⟩
        clear h2 h3 h4 h5 h6 h7 kw hlt hget hoke he hxs hxe hnv
        obtain ⟨t, c, bb, u⟩ := e
        obtain ⟨nb, hnb⟩ : ∃ nb, nb = wneg bb := ⟨_, rfl⟩
        obtain ⟨uu, huu⟩ : ∃ uu, uu = !u := ⟨_, rfl⟩
        have hag : (⟨t, c, bb, u⟩ : En).ag = ⟨t, c, nb, uu⟩ := by rw [hnb, huu]; rfl
        rw [hag] at HAG HFIN
        clear hnb huu hag
        gi_wp2_with fail
        refine wpIn_region_any (by kernel_rfl) ?_
        try (change wpAnyIn _ _ _ _ _ _ _ _ _ (World.drew _))
        refine wpAnyIn_ready (rs := [0, 1]) (by kernel_rfl) (by simp) ?_
        refine AllReadyIn.cons rfl (fun K hK => ?_) (AllReadyIn.cons rfl (fun K hK => ?_) AllReadyIn.nil)
        · skip
          -- operation 0
          have cv := HVW.out.c 0 _ rfl
          go_simp
          refine hK _ _ ?_
          clear hK K cv
          refine wpAnyIn_ready (rs := [1]) (by kernel_rfl) (by simp) ?_
          refine AllReadyIn.cons rfl (fun K hK => ?_) AllReadyIn.nil
          -- operation 1
          have e0 := HKW.out.c 0 _ rfl
          have e1 := HKW.out.c 1 _ rfl
          have e2 := HKW.out.c 2 _ rfl
          have e3 := HKW.out.c 3 _ rfl
          go_simp
          refine hK _ _ ?_
          clear hK K e0 e1 e2 e3
          refine wpAnyIn_ready (rs := [2]) (by kernel_rfl) (by simp) ?_
          refine AllReadyIn.cons rfl (fun K hK => ?_) AllReadyIn.nil
          -- operation 2
          go_simp
          refine ⟨trivial, (CallsIn.inRound l0 (callsIn_wide.2 (HAG.out _))).mono ?_⟩
          rintro r w2 ⟨rfl, hb2⟩
          have hb2 : Below W.heap.size W w2 := (Below.refl _ W).drew.trans hb2
          have HB2 := Lib.hid hb2
          have HV2 := Lib.hid (HVW.out.below hb2)
          have HO2 := Lib.hid (HOW.out.below hb2)
          clear hb2
          refine hK _ _ ?_
          clear hK K
          refine wpAnyIn_ready (rs := [3]) (by kernel_rfl) (by simp) ?_
          refine AllReadyIn.cons rfl (fun K hK => ?_) AllReadyIn.nil
          -- operation 3
          rw [if_pos (by kernel_rfl)]
          refine wpIn_build_en (e := ⟨t, c, nb, uu⟩) (.tmp 35) rfl rfl ?_
          intro w3 g3 hg3 hat3 hb3
          have HB3 := Lib.hid hb3
          have HV3 := Lib.hid (HV2.out.below hb3)
          have HO3 := Lib.hid (HO2.out.below hb3)
          have HAT3 := Lib.hid hat3
          clear hg3 hat3 hb3
          refine hK _ _ ?_
          clear hK K
          refine wpAnyIn_ready (rs := [4]) (by kernel_rfl) (by simp) ?_
          refine AllReadyIn.cons rfl (fun K hK => ?_) AllReadyIn.nil
          -- operation 4
          rw [if_pos (by kernel_rfl)]
          refine Rk.wpIn_append re_oko (.tmp 33) (.tmp 36) rfl w4.heap.size (.slice Av nv cv0) xs [⟨t, c, nb, uu⟩] rfl HO3.out _ 1 1 rfl HAT3.out rfl (.inr ⟨_, _, rfl⟩) (by have := HXL.out; rw [List.length_singleton]; omega) (Nat.le_trans HW4W.out (Nat.le_trans HB2.out.size HB3.out.size)) ?_
          intro v8 w8 ho8 hg8 ha8
          obtain ⟨A8, c8, rfl⟩ := own_slice re_oko ho8 (n := nv + 1) (by rw [List.length_append, List.length_singleton]; have := HXL.out; omega)
          have HO8 := Lib.hid ho8
          have HG8 := Lib.hid hg8
          have HA8 := Lib.hid ha8
          have HV8 := Lib.hid (HV3.out.far hg8 (fun e => (HNW.out gv e.symm).1 rfl))
          clear ho8 hg8 ha8
          refine hK _ _ ?_
          clear hK K
          refine wpAnyIn_ready (rs := [5]) (by kernel_rfl) (by simp) ?_
          refine AllReadyIn.cons rfl (fun K hK => ?_) AllReadyIn.nil
          -- operation 5
          have cv := HV8.out.c 0 _ rfl
          have fv := HV8.out.fr 0
          go_simp
          refine hK _ _ ?_
          clear hK K cv fv
          refine wpAnyIn_done (by kernel_rfl) ?_ _
          gi_wp2_with fail
          exact HFIN.out w2 w3 w8 (.slice A8 (nv + 1) c8) HB2.out HB3.out HO8.out HG8.out HA8.out HV8.out
        · skip
          -- operation 1
          have e0 := HKW.out.c 0 _ rfl
          have e1 := HKW.out.c 1 _ rfl
          have e2 := HKW.out.c 2 _ rfl
          have e3 := HKW.out.c 3 _ rfl
          go_simp
          refine hK _ _ ?_
          clear hK K e0 e1 e2 e3
          refine wpAnyIn_ready (rs := [0, 2]) (by kernel_rfl) (by simp) ?_
          refine AllReadyIn.cons rfl (fun K hK => ?_) (AllReadyIn.cons rfl (fun K hK => ?_) AllReadyIn.nil)
          · skip
            -- operation 0
            have cv := HVW.out.c 0 _ rfl
            go_simp
            refine hK _ _ ?_
            clear hK K cv
            refine wpAnyIn_ready (rs := [2]) (by kernel_rfl) (by simp) ?_
            refine AllReadyIn.cons rfl (fun K hK => ?_) AllReadyIn.nil
            -- operation 2
            go_simp
            refine ⟨trivial, (CallsIn.inRound l0 (callsIn_wide.2 (HAG.out _))).mono ?_⟩
            rintro r w2 ⟨rfl, hb2⟩
            have hb2 : Below W.heap.size W w2 := (Below.refl _ W).drew.trans hb2
            have HB2 := Lib.hid hb2
            have HV2 := Lib.hid (HVW.out.below hb2)
            have HO2 := Lib.hid (HOW.out.below hb2)
            clear hb2
            refine hK _ _ ?_
            clear hK K
            refine wpAnyIn_ready (rs := [3]) (by kernel_rfl) (by simp) ?_
            refine AllReadyIn.cons rfl (fun K hK => ?_) AllReadyIn.nil
            -- operation 3
            rw [if_pos (by kernel_rfl)]
            refine wpIn_build_en (e := ⟨t, c, nb, uu⟩) (.tmp 35) rfl rfl ?_
            intro w3 g3 hg3 hat3 hb3
            have HB3 := Lib.hid hb3
            have HV3 := Lib.hid (HV2.out.below hb3)
            have HO3 := Lib.hid (HO2.out.below hb3)
            have HAT3 := Lib.hid hat3
            clear hg3 hat3 hb3
            refine hK _ _ ?_
            clear hK K
            refine wpAnyIn_ready (rs := [4]) (by kernel_rfl) (by simp) ?_
            refine AllReadyIn.cons rfl (fun K hK => ?_) AllReadyIn.nil
            -- operation 4
            rw [if_pos (by kernel_rfl)]
            refine Rk.wpIn_append re_oko (.tmp 33) (.tmp 36) rfl w4.heap.size (.slice Av nv cv0) xs [⟨t, c, nb, uu⟩] rfl HO3.out _ 1 1 rfl HAT3.out rfl (.inr ⟨_, _, rfl⟩) (by have := HXL.out; rw [List.length_singleton]; omega) (Nat.le_trans HW4W.out (Nat.le_trans HB2.out.size HB3.out.size)) ?_
            intro v8 w8 ho8 hg8 ha8
            obtain ⟨A8, c8, rfl⟩ := own_slice re_oko ho8 (n := nv + 1) (by rw [List.length_append, List.length_singleton]; have := HXL.out; omega)
            have HO8 := Lib.hid ho8
            have HG8 := Lib.hid hg8
            have HA8 := Lib.hid ha8
            have HV8 := Lib.hid (HV3.out.far hg8 (fun e => (HNW.out gv e.symm).1 rfl))
            clear ho8 hg8 ha8
            refine hK _ _ ?_
            clear hK K
            refine wpAnyIn_ready (rs := [5]) (by kernel_rfl) (by simp) ?_
            refine AllReadyIn.cons rfl (fun K hK => ?_) AllReadyIn.nil
            -- operation 5
            have cv := HV8.out.c 0 _ rfl
            have fv := HV8.out.fr 0
            go_simp
            refine hK _ _ ?_
            clear hK K cv fv
            refine wpAnyIn_done (by kernel_rfl) ?_ _
            gi_wp2_with fail
            exact HFIN.out w2 w3 w8 (.slice A8 (nv + 1) c8) HB2.out HB3.out HO8.out HG8.out HA8.out HV8.out
          · skip
            -- operation 2
            go_simp
            refine ⟨trivial, (CallsIn.inRound l0 (callsIn_wide.2 (HAG.out _))).mono ?_⟩
            rintro r w2 ⟨rfl, hb2⟩
            have hb2 : Below W.heap.size W w2 := (Below.refl _ W).drew.trans hb2
            have HB2 := Lib.hid hb2
            have HV2 := Lib.hid (HVW.out.below hb2)
            have HO2 := Lib.hid (HOW.out.below hb2)
            clear hb2
            refine hK _ _ ?_
            clear hK K
            refine wpAnyIn_ready (rs := [0, 3]) (by kernel_rfl) (by simp) ?_
            refine AllReadyIn.cons rfl (fun K hK => ?_) (AllReadyIn.cons rfl (fun K hK => ?_) AllReadyIn.nil)
            · skip
              -- operation 0
              have cv := HV2.out.c 0 _ rfl
              go_simp
              refine hK _ _ ?_
              clear hK K cv
              refine wpAnyIn_ready (rs := [3]) (by kernel_rfl) (by simp) ?_
              refine AllReadyIn.cons rfl (fun K hK => ?_) AllReadyIn.nil
              -- operation 3
              rw [if_pos (by kernel_rfl)]
              refine wpIn_build_en (e := ⟨t, c, nb, uu⟩) (.tmp 35) rfl rfl ?_
              intro w3 g3 hg3 hat3 hb3
              have HB3 := Lib.hid hb3
              have HV3 := Lib.hid (HV2.out.below hb3)
              have HO3 := Lib.hid (HO2.out.below hb3)
              have HAT3 := Lib.hid hat3
              clear hg3 hat3 hb3
              refine hK _ _ ?_
              clear hK K
              refine wpAnyIn_ready (rs := [4]) (by kernel_rfl) (by simp) ?_
              refine AllReadyIn.cons rfl (fun K hK => ?_) AllReadyIn.nil
              -- operation 4
              rw [if_pos (by kernel_rfl)]
              refine Rk.wpIn_append re_oko (.tmp 33) (.tmp 36) rfl w4.heap.size (.slice Av nv cv0) xs [⟨t, c, nb, uu⟩] rfl HO3.out _ 1 1 rfl HAT3.out rfl (.inr ⟨_, _, rfl⟩) (by have := HXL.out; rw [List.length_singleton]; omega) (Nat.le_trans HW4W.out (Nat.le_trans HB2.out.size HB3.out.size)) ?_
              intro v8 w8 ho8 hg8 ha8
              obtain ⟨A8, c8, rfl⟩ := own_slice re_oko ho8 (n := nv + 1) (by rw [List.length_append, List.length_singleton]; have := HXL.out; omega)
              have HO8 := Lib.hid ho8
              have HG8 := Lib.hid hg8
              have HA8 := Lib.hid ha8
              have HV8 := Lib.hid (HV3.out.far hg8 (fun e => (HNW.out gv e.symm).1 rfl))
              clear ho8 hg8 ha8
              refine hK _ _ ?_
              clear hK K
              refine wpAnyIn_ready (rs := [5]) (by kernel_rfl) (by simp) ?_
              refine AllReadyIn.cons rfl (fun K hK => ?_) AllReadyIn.nil
              -- operation 5
              have cv := HV8.out.c 0 _ rfl
              have fv := HV8.out.fr 0
              go_simp
              refine hK _ _ ?_
              clear hK K cv fv
              refine wpAnyIn_done (by kernel_rfl) ?_ _
              gi_wp2_with fail
              exact HFIN.out w2 w3 w8 (.slice A8 (nv + 1) c8) HB2.out HB3.out HO8.out HG8.out HA8.out HV8.out
            · skip
              -- operation 3
              rw [if_pos (by kernel_rfl)]
              refine wpIn_build_en (e := ⟨t, c, nb, uu⟩) (.tmp 35) rfl rfl ?_
              intro w3 g3 hg3 hat3 hb3
              have HB3 := Lib.hid hb3
              have HV3 := Lib.hid (HV2.out.below hb3)
              have HO3 := Lib.hid (HO2.out.below hb3)
              have HAT3 := Lib.hid hat3
              clear hg3 hat3 hb3
              refine hK _ _ ?_
              clear hK K
              refine wpAnyIn_ready (rs := [0]) (by kernel_rfl) (by simp) ?_
              refine AllReadyIn.cons rfl (fun K hK => ?_) AllReadyIn.nil
              -- operation 0
              have cv := HV3.out.c 0 _ rfl
              go_simp
              refine hK _ _ ?_
              clear hK K cv
              refine wpAnyIn_ready (rs := [4]) (by kernel_rfl) (by simp) ?_
              refine AllReadyIn.cons rfl (fun K hK => ?_) AllReadyIn.nil
              -- operation 4
              rw [if_pos (by kernel_rfl)]
              refine Rk.wpIn_append re_oko (.tmp 33) (.tmp 36) rfl w4.heap.size (.slice Av nv cv0) xs [⟨t, c, nb, uu⟩] rfl HO3.out _ 1 1 rfl HAT3.out rfl (.inr ⟨_, _, rfl⟩) (by have := HXL.out; rw [List.length_singleton]; omega) (Nat.le_trans HW4W.out (Nat.le_trans HB2.out.size HB3.out.size)) ?_
              intro v8 w8 ho8 hg8 ha8
              obtain ⟨A8, c8, rfl⟩ := own_slice re_oko ho8 (n := nv + 1) (by rw [List.length_append, List.length_singleton]; have := HXL.out; omega)
              have HO8 := Lib.hid ho8
              have HG8 := Lib.hid hg8
              have HA8 := Lib.hid ha8
              have HV8 := Lib.hid (HV3.out.far hg8 (fun e => (HNW.out gv e.symm).1 rfl))
              clear ho8 hg8 ha8
              refine hK _ _ ?_
              clear hK K
              refine wpAnyIn_ready (rs := [5]) (by kernel_rfl) (by simp) ?_
              refine AllReadyIn.cons rfl (fun K hK => ?_) AllReadyIn.nil
              -- operation 5
              have cv := HV8.out.c 0 _ rfl
              have fv := HV8.out.fr 0
              go_simp
              refine hK _ _ ?_
              clear hK K cv fv
              refine wpAnyIn_done (by kernel_rfl) ?_ _
              gi_wp2_with fail
              exact HFIN.out w2 w3 w8 (.slice A8 (nv + 1) c8) HB2.out HB3.out HO8.out HG8.out HA8.out HV8.out
      case done =>
        rintro D ys W hD hys ⟨⟨v, h2, h3, h4⟩, h5, h6, h7⟩ hK
        rw [undo_list (open_fit HP.out) HGG.out HLG.out ys hys] at h3
        obtain ⟨nv, hnv⟩ : ∃ nv, (withU (amongE T) l P).length = nv := ⟨_, rfl⟩
        obtain ⟨Av, cv0, rfl⟩ := own_slice re_oko h3 hnv
        have hww : w.heap.size + 1 < w4.heap.size := by have := HW4.out; omega
        have hD2 : w.heap.size + 1 < D := by have h1 := HS7.out; have h2 := HS6.out.2; omega
        have hK9 : (W.setCell ⟨w.heap.size + 1, 0, none⟩ (.slice Av nv cv0)).heap[D]? = some (.deferred (some [])) := (Below.heap_setCell _ _ _ _ (by show D ≠ w.heap.size + 1; omega)).trans hK
        have t9 : Turn (fun q => q = w.heap.size + 1) W (W.setCell ⟨w.heap.size + 1, 0, none⟩ (.slice Av nv cv0)) := (Turn.refl _ _).setCell _ _ (.inl rfl)
        obtain ⟨W9, hW9⟩ : ∃ W9, W9 = W.setCell ⟨w.heap.size + 1, 0, none⟩ (.slice Av nv cv0) := ⟨_, rfl⟩
        have HK9 := Lib.hid hK9
        have HOK9 := Lib.hid (show ∀ e ∈ withU (amongE T) l P, e.Ok from fun e he => by
          rcases List.mem_append.mp he with he | he
          · exact HL.out.ok e he
          · unfold undoL at he
            obtain ⟨p, hp, rfl⟩ := List.mem_map.mp he
            rw [List.mem_reverse, List.mem_filter] at hp
            exact En.neg_ok (HL.out.ok _ (List.mem_of_getElem? ((open_fit HP.out).at' p hp.1))))
        have HFORM := Lib.hid (show Sp Av ∧ nv ≤ cv0 from by
          obtain ⟨A9, c9, e, hle, _, h⟩ := h3.form re_oko
          injection e with e1 e2 e3
          subst e1; subst e3
          exact ⟨by rcases h with h | ⟨g, h, _⟩; exact .inl h; exact .inr ⟨g, 0, h⟩, by rw [hnv] at hle; exact hle⟩)
        have HLOW := Lib.hid (fun q o (e : Av = some ⟨q, o, none⟩) => (show w4.heap.size ≤ q from (h3.lt q (by rw [e]; rfl)).1))
        have HE9 := Lib.hid ((own_es re_oko h3 HOK9.out))
        have HND := Lib.hid (fun q o (e : Av = some ⟨q, o, none⟩) (h : q = D) => (show False from by have h8 := h3.cells (j := q) (by rw [e]; rfl) (by rw [h]; exact hK); cases h8))
        have HB9 := Lib.hid h6
        have HZ9 := Lib.hid h5
        have hnD := hD2
        have hWW : w.heap.size ≤ W.heap.size := h6.size
        have cv := h2.c 0 _ rfl
        have cz := h5.c 0 _ rfl
        have fz := h5.fr 0
        clear h2 h3 h4 h5 h6 h7 hnv hK hK9 t9 hys
        gi_wp2_with fail
        refine ⟨by simp, .inl ⟨_, _, rfl, run_takeDeferred HK9.out, ?_⟩⟩
        have tz : Turn (fun q => q = w.heap.size + 1 ∨ q = D) W ((W.setCell ⟨w.heap.size + 1, 0, none⟩ (.slice Av nv cv0)).putObj D (.deferred none)) := ((Turn.refl (fun q => q = w.heap.size + 1 ∨ q = D) W).setCell _ _ (.inl (.inl rfl))).grown (grownBy_putObj' _ D _) (fun q e => .inl (.inr (by injection e with e; exact e.symm)))
        have kz : Bk ((W.setCell ⟨w.heap.size + 1, 0, none⟩ (.slice Av nv cv0)).putObj D (.deferred none)) (w.heap.size + 1) (liC Av nv cv0) 32 := (HZ9.out.set1 (.slice Av nv cv0)).far (grownBy_putObj' _ D _) (fun e => by injection e with e; omega)
        have ez := HE9.out.turn tz (fun q o e h => by
          have h1 := HLOW.out q o e
          rcases h with h | h
          · omega
          · have h2 := HE9.out.at'
            subst h
            have h3 := (HK9.out)
            exact HND.out q o e rfl)
        generalize (W.setCell ⟨w.heap.size + 1, 0, none⟩ (.slice Av nv cv0)).putObj D (.deferred none) = WZ at *
        have cz := kz.c 0 _ rfl
        exact ⟨liV Av nv cv0, by rw [results_cell_one rfl]; go_simp; first | done | exact ⟨rfl, rfl⟩, HB9.out.trans (tz.below (fun q h => by omega) HB9.out.size), Av, nv, cv0, rfl, ez, .inr HFORM.out.1, HFORM.out.2⟩
end Go.Proofs.Ytpphhhalmccnbaa
