/-
  Two notes as one: the document's Merge.
-/
import Derived.Test.YtjpnihmijnpjcaaNg
namespace Go.Proofs.Ytjpnihmijnpjcaa
set_option maxRecDepth 100000
set_option linter.unusedVariables false
set_option linter.unusedSimpArgs false
open Go.RowKit Wm Nn

/-- images gathered, those of w0 -/
structure ImRow (w0 w : World) (base : Nat) (V : Value) (l : List Im) (rs : List Ir) : Prop where
  own : RI.Own w base V rs
  rl : rs.length = l.length
  each : ∀ (i : Nat) (r : Ir) (x : Im), rs[i]? = some r → l[i]? = some x → r.k = x.k ∧ Lies w0 r.a r.c r.n x.d ∧ okI x.k
section
variable {w0 w W W2 : World} {base g : Nat} {V V' : Value} {l : List Im} {rs : List Ir} {cs : Array Value} {t : TypeId}
theorem ImRow.nil (w0 w : World) (base : Nat) : ImRow w0 w base (.slice none 0 0) [] [] := ⟨Rk.Own.nil _ _ _, rfl, fun i r x hr => by simp at hr⟩
theorem ImRow.below (h : ImRow w0 w base V l rs) (hb : Below w.heap.size w W) : ImRow w0 W base V l rs := ⟨h.own.below hb, h.rl, h.each⟩
theorem ImRow.snoc (h : ImRow w0 w base V l rs) {r : Ir} {x : Im} (ho : RI.Own W base V' (rs ++ [r])) (hk : r.k = x.k) (hl : Lies w0 r.a r.c r.n x.d) (ho' : okI x.k) : ImRow w0 W base V' (l ++ [x]) (rs ++ [r]) := by
  refine ⟨ho, by simp [h.rl], fun i q z hq hz => ?_⟩
  rcases Nat.lt_or_ge i rs.length with hi | hi
  · rw [List.getElem?_append_left hi] at hq
    rw [List.getElem?_append_left (by rw [← h.rl]; exact hi)] at hz
    exact h.each i q z hq hz
  · have h1 : i = rs.length := by
      have := (List.getElem?_eq_some_iff.1 hq).1
      simp at this
      omega
    rw [h1] at hq
    rw [h1, h.rl] at hz
    simp at hq hz
    subst hq hz
    exact ⟨hk, hl, ho'⟩
theorem ImRow.out (h : ImRow w0 w base V l rs) (hb : Below w0.heap.size w0 w) : ∃ A c, V = .slice A rs.length c ∧ ImAt w A rs.length c l rs := by
  obtain ⟨A, c, e, hc, ha, hf⟩ := h.own.form ri_ok
  refine ⟨A, c, e, ha, rfl, h.rl.symm, hc, ?_, fun i r x hr hx => ⟨(h.each i r x hr hx).1, (h.each i r x hr hx).2.1.up hb, (h.each i r x hr hx).2.2⟩⟩
  rcases hf with h | ⟨g, h, _⟩
  · exact .inl h
  · exact .inr ⟨g, 0, h⟩
/-- a field is put: a row of the call's own -/
theorem field_put {α : Type} {R : Rk α} {r r2 : List α} (hB : Bk W g cs t) (hO : R.Own W (g + 1) V r) (hb : Below w0.heap.size w0 W) (hg0 : w0.heap.size ≤ g) (hgr : W.grownBy W2 V.ownBlock) (hO2 : R.Own W2 (g + 1) V' r2) (j : Nat) :
    Hid (Bk (W2.setCell ⟨g, j, none⟩ V') g (cs.setIfInBounds j V') t) ∧ Hid (R.Own (W2.setCell ⟨g, j, none⟩ V') (g + 1) V' r2) ∧ Hid (Below w0.heap.size w0 (W2.setCell ⟨g, j, none⟩ V')) ∧ Hid (Turn (fun k => k = g ∨ V.ownBlock = some k) W (W2.setCell ⟨g, j, none⟩ V')) := by
  have h1 : Bk W2 g cs t := hB.far hgr (fun e => by have := hO.lt g e.symm; omega)
  have hs := setCell_grown W2 g j V'
  have hb2 : Below w0.heap.size w0 W2 := hb.grown hgr hb.size (fun k hk => by have := hO.lt k hk; omega)
  refine ⟨Lib.hid (h1.set j V'), Lib.hid (hO2.turn (S := fun k => k = g) ⟨hs.os, hs.tape, hs.output, hs.size, fun k hk hn => hs.block k hk (fun e => hn (by injection e with e))⟩ (fun k hk e => by have := hO2.lt k hk; omega)), Lib.hid (hb2.grown hs (Nat.le_trans hb.size hgr.size) (fun k hk => by injection hk with hk; omega)), Lib.hid ?_⟩
  exact ⟨hs.os.trans hgr.os, hs.tape.trans hgr.tape, hs.output.trans hgr.output, Nat.le_trans hgr.size hs.size, fun k hk hn => (hs.block k (Nat.lt_of_lt_of_le hk hgr.size) (fun e => hn (.inl (by injection e with e)))).trans (hgr.block k hk (fun e => hn (.inr e.symm)))⟩
end
theorem own_sl {α : Type} {R : Rk α} (hR : R.Ok) {w : World} {base : Nat} {V : Value} {r : List α} (h : R.Own w base V r) : ∃ A n c, V = .slice A n c := by
  obtain ⟨A, c, e, _⟩ := h.form hR
  exact ⟨A, _, c, e⟩
theorem both_b {a b : List Im} {k : Nat} {x : Im} (h : pick b k = some x) : both a b k = some x := by unfold both; rw [h]
theorem both_a {a b : List Im} {k : Nat} (h : pick b k = none) : both a b k = pick a k := by unfold both; rw [h]
theorem merE_no {a b : Nt} (h : ¬ (San a ∧ San b ∧ a.kind = 1 ∧ b.kind = 1)) : merE a b = 1 ∧ merN a b = .zero := by
  have e : merE a b = 1 := by unfold merE; rw [if_neg h]
  exact ⟨e, by unfold merN; rw [e]; rfl⟩
theorem merE_zero {a b : Nt} (h : San a ∧ San b ∧ a.kind = 1 ∧ b.kind = 1) (hm : San (mer a b)) : merE a b = 0 ∧ merN a b = mer a b := by
  have e : merE a b = 0 := by unfold merE; rw [if_pos h, if_pos hm]
  exact ⟨e, by unfold merN; rw [e]; rfl⟩
theorem merE_much {a b : Nt} (h : San a ∧ San b ∧ a.kind = 1 ∧ b.kind = 1) (hm : ¬ San (mer a b)) : merE a b = 13 ∧ merN a b = .zero := by
  have e : merE a b = 13 := by unfold merE; rw [if_pos h, if_neg hm]
  exact ⟨e, by unfold merN; rw [e]; rfl⟩
theorem wpList_load_bk {w : World} {g n : Nat} {cs : Array Value} {t ty : TypeId} {ops : Array Oper} {rest : List Oper} {o : Oper} {a : Act} {Q : Exit → Act → World → Prop} (hT : STy ty n) (h : Bk w g cs t) (hc : cs.size = n) (hgd : o.guard = none) (p : Operand) (ho : o.op = .load ty p) (hx : a.eval p = .pointer (some ⟨g, 0, none⟩))
    (k : wpList Try.prog ops Q rest (a.put o.dst (.agg cs)) w) : wpList Try.prog ops Q (o :: rest) a w := by
  obtain ⟨⟨fs, hu⟩, hi⟩ := hT
  exact wpList_load_row hgd ty p ho g hx t cs (0, 0) _ h hu rfl (by rw [hc]; exact hi) k

theorem pick_mem {l : List Im} {k : Nat} {z : Im} (h : pick l k = some z) : z ∈ l := List.mem_of_find?_eq_some h
theorem upTo_mem {a b : List Im} {n : Nat} {z : Im} (h : z ∈ upTo a b n) : z ∈ a ∨ z ∈ b := by
  unfold upTo at h
  rw [List.mem_filterMap] at h
  obtain ⟨k, _, hk⟩ := h
  cases hp : pick b k with
  | some q => rw [both_b hp] at hk; injection hk with hk; subst hk; exact .inr (pick_mem hp)
  | none => rw [both_a hp] at hk; exact .inl (pick_mem hk)
theorem small_mem {x : Nt} {z : Im} (h : SmallN x) (hz : z ∈ x.im) : z.d.length ≤ 1000 := by
  obtain ⟨i, hi, he⟩ := List.getElem_of_mem hz
  exact h.2.2 i z (by rw [List.getElem?_eq_getElem hi, he])
def outC (s : Int) (V U : Value) : Array Value := #[.int .i64 1, .int .i64 s, V, U]

theorem mem_more {a b rs : List Ir} {r : Ir} (h : ∀ q, q ∈ rs → q ∈ a ∨ q ∈ b) (hr : r ∈ a ∨ r ∈ b) : ∀ q, q ∈ rs ++ [r] → q ∈ a ∨ q ∈ b := fun q hq => by
  rcases List.mem_append.1 hq with h1 | h1
  · exact h q h1
  · rw [List.mem_singleton.1 h1]; exact hr
theorem off_own {α : Type} {R : Rk α} {W : World} {base n c z : Nat} {A : Option Addr} {l : List α} (h : R.Own W base (.slice A n c) l) (hz : z < base) : off A n z := fun b o e => .inr (fun e2 => by
  subst e
  have := h.lt b rfl
  omega)
set_option maxHeartbeats 4000000 in
theorem merge_yes (x y : Nt) (r q : Nr) (w : World) (hx : NtAt w x r) (hy : NtAt w y q) (hsx : San x) (hsy : San y) (hkx : x.kind = 1) (hky : y.kind = 1) : Calls Try.prog 17 #[ntV x r, ntV y q] w (MergeOut w (merN x y) (merE x y) r q) := by
  obtain ⟨A1, k1, c1, B1, l1, d1, e1⟩ := r
  obtain ⟨A2, k2, c2, B2, l2, d2, e2⟩ := q
  have hix := hx.im
  have hiy := hy.im
  have HIXw := Lib.hid hix
  have HIYw := Lib.hid hiy
  simp only at HIXw HIYw
  clear hix hiy
  obtain ⟨HX, HY, HZ, HB, HNX, HNY⟩ := mer_boxed w x y _ _ hx hy 25
  have HSX := Lib.hid hsx
  have HSY := Lib.hid hsy
  obtain ⟨p1, p2⟩ := ne_yes hkx
  obtain ⟨p3, p4⟩ := ne_yes hky
  obtain ⟨n1, n2, n3, n4⟩ := HNX.out.n_
  obtain ⟨m1, m2, m3, m4⟩ := HNY.out.n_
  simp only at n1 n2 n3 n4 m1 m2 m3 m4
  have hk1 : k1 ≤ 256 := by have := hsx.1.2.2.1; omega
  have hl1 : l1 ≤ 256 := by have := hsx.1.2.2.2.1; omega
  have hk2 : k2 ≤ 256 := by have := hsy.1.2.2.1; omega
  have hl2 : l2 ≤ 256 := by have := hsy.1.2.2.2.1; omega
  have HMX : Hid (SmallN x) := Lib.hid ⟨by omega, by omega, fun i z hz => by have := (hsx.2.1 i z hz).2.1; omega⟩
  have HMY : Hid (SmallN y) := Lib.hid ⟨by omega, by omega, fun i z hz => by have := (hsy.2.1 i z hz).2.1; omega⟩
  have HLN := Lib.hid (And.intro n1 (And.intro n3 (And.intro m1 m3)))
  have HKK := Lib.hid (And.intro hkx hky)
  clear hx hy hsx hsy hkx hky n1 n3 m1 m3
  obtain ⟨oN, hoN⟩ : ∃ oN, oN = merN x y := ⟨_, rfl⟩
  obtain ⟨oE, hoE⟩ : ∃ oE, oE = merE x y := ⟨_, rfl⟩
  rw [← hoN, ← hoE]
  have HON := Lib.hid hoN
  have HOE := Lib.hid hoE
  clear hoN hoE
  unfold ntV
  obtain ⟨C1, hC1⟩ : ∃ C1, C1 = ntC x ⟨A1, k1, c1, B1, l1, d1, e1⟩ := ⟨_, rfl⟩
  obtain ⟨C2, hC2⟩ : ∃ C2, C2 = ntC y ⟨A2, k2, c2, B2, l2, d2, e2⟩ := ⟨_, rfl⟩
  rw [← hC1, ← hC2] at HX HY HZ HB HNX HNY ⊢
  clear hC1 hC2
  go_enter Try.func17, Try.ntmps17
  go_upto_region 1 with fail
  have hC : (#[.int .i64 0, .int .i64 0, .slice none 0 0, .slice none 0 0] : Array Value) = ntC .zero nr0 := rfl
  rw [hC]
  clear hC
  generalize ((w.alloc (.cells C1 25)).alloc (.cells C2 25)).alloc (.cells (ntC .zero nr0) 25) = w0 at *
  have a0 := HX.out.c0
  have a1 := HX.out.c1
  have a2 := HX.out.c2
  have a3 := HX.out.c3
  simp only at a2 a3
  go_wp2_with fail
  refine (sane_any x ⟨A1, k1, c1, B1, l1, d1, e1⟩ w0 HNX.out HMX.out).mono ?_
  rintro e w1 ⟨rfl, hb1⟩
  have HB1 := Lib.hid hb1
  clear hb1 a0 a1 a2 a3
  rw [sane_yes HSX.out]
  have HY1 := Lib.hid (HY.out.below HB1.out)
  have a0 := HY1.out.c0
  have a1 := HY1.out.c1
  have a2 := HY1.out.c2
  have a3 := HY1.out.c3
  simp only at a2 a3
  go_wp2_with fail
  refine (sane_any y ⟨A2, k2, c2, B2, l2, d2, e2⟩ w1 (HNY.out.below HB1.out) HMY.out).mono ?_
  rintro e w2 ⟨rfl, hb2⟩
  have HB2 := Lib.hid (HB1.out.trans (hb2.mono HB1.out.size))
  clear hb2 a0 a1 a2 a3 HY1 HB1
  rw [sane_yes HSY.out]
  have a0 := (HX.out.below HB2.out).c0
  have b0 := (HY.out.below HB2.out).c0
  have b1 := (HY.out.below HB2.out).c1
  go_wp2_with fail
  clear a0 b0 b1 p1 p2 p3 p4
  have HG3 := Lib.hid (Bk.new w2 (outC y.seq (.slice none 0 0) (.slice none 0 0)) 25)
  have HB3 := Lib.hid (HB2.out.trans ((below_new w2 (.cells (outC y.seq (.slice none 0 0) (.slice none 0 0)) 25)).mono HB2.out.size))
  have HG0 := Lib.hid HB2.out.size
  have hC : (#[.int .i64 1, .int .i64 y.seq, .slice none 0 0, .slice none 0 0] : Array Value) = outC y.seq (.slice none 0 0) (.slice none 0 0) := rfl
  rw [hC]
  clear hC
  have HIX := Lib.hid (HIXw.out.below HB.out)
  have HIY := Lib.hid (HIYw.out.below HB.out)
  clear HB2
  generalize w2.alloc (.cells (outC y.seq (.slice none 0 0) (.slice none 0 0)) 25) = w3 at *
  obtain ⟨g, hg⟩ : ∃ g, g = w2.heap.size := ⟨_, rfl⟩
  rw [← hg] at HG3 HG0 ⊢
  clear hg
  go_loopg [7] 256 (fun gn i wr => ∃ (j : Nat) (V : Value) (rs : List Ir), i = .int .i64 (j : Int) ∧ j + gn = 256 ∧ Hid (Bk wr g (outC y.seq V (.slice none 0 0)) 25) ∧ Hid (ImRow w wr (g + 1) V (upTo x.im y.im j) rs) ∧ Hid (Below w0.heap.size w0 wr) ∧ Hid (∀ q, q ∈ rs → q ∈ e1 ∨ q ∈ e2))
  case atStart => exact ⟨0, _, [], rfl, by omega, HG3, Lib.hid (ImRow.nil _ _ _), HB3, Lib.hid (fun q hq => by cases hq)⟩
  case round =>
    obtain ⟨j, V, rs, rfl, hog, HG, HR, HBW, HMM⟩ := hrel
    rcases Nat.lt_or_ge j 256 with hlt | hge
    · have hdj : decide (j < 256) = true := decide_eq_true hlt
      have hdi : decide ((j : Int) < 256) = true := decide_eq_true (by omega)
      have b2 := (HY.out.below HBW.out).c2
      simp only at b2
      have HUP := Lib.hid (upTo_step x.im y.im j)
      go_wp2_with fail
      refine (image_any A2 k2 c2 j y.im e2 wr (HIY.out.below HBW.out) (by omega) (by omega)).mono ?_
      rintro e w4 ⟨hb4, ⟨i, z, rz, hz, hrz, hpk, rfl⟩ | ⟨hpk, rfl⟩⟩
      · have HMM2 := Lib.hid (mem_more HMM.out (.inr (List.mem_of_getElem? hrz)))
        have hzz := HIYw.out.each i _ _ hrz hz
        have HUP2 : Hid (upTo x.im y.im (j + 1) = upTo x.im y.im j ++ [z]) := Lib.hid (by rw [HUP.out, both_b hpk]; rfl)
        have HZZ := Lib.hid hzz
        rw [← hzz.1]
        have HB4 := Lib.hid (HBW.out.trans (hb4.mono HBW.out.size))
        have HG4 := Lib.hid (HG.out.below hb4)
        have HR4 := Lib.hid (HR.out.below hb4)
        have HLR : Hid (rs.length ≤ 256) := Lib.hid (by rw [HR.out.rl]; have := upTo_len x.im y.im j; omega)
        clear hz hrz hpk hzz hb4 b2 HG HR HBW
        unfold imV imC
        go_upto_region 11 with fail
        have HG5 := Lib.hid (HG4.out.al (.cells (imC rz.k rz.a rz.n rz.c) 51))
        have HB5 := Lib.hid (HB4.out.trans ((below_new w4 (.cells (imC rz.k rz.a rz.n rz.c) 51)).mono HB4.out.size))
        have HK5 := Lib.hid (Bk.new w4 (imC rz.k rz.a rz.n rz.c) 51)
        have HR5 := Lib.hid (HR4.out.below (below_new w4 (.cells (imC rz.k rz.a rz.n rz.c) 51)))
        have hC : (#[.int .i64 rz.k, .slice rz.a rz.n rz.c] : Array Value) = imC rz.k rz.a rz.n rz.c := rfl
        rw [hC]
        clear hC HG4 HB4 HR4
        obtain ⟨h, hh⟩ : ∃ h, h = w4.heap.size := ⟨_, rfl⟩
        rw [← hh] at HK5 ⊢
        clear hh
        generalize w4.alloc (.cells (imC rz.k rz.a rz.n rz.c) 51) = w5 at *
        have f2 : w5.cell? ⟨g, 2, none⟩ = some V := HG5.out.c 2 _ rfl
        have f2f := HG5.out.fr 2
        have y0 : w5.cell? ⟨h, 0, none⟩ = some (.int .i64 rz.k) := HK5.out.c 0 _ rfl
        have y1 : w5.cell? ⟨h, 1, none⟩ = some (.slice rz.a rz.n rz.c) := HK5.out.c 1 _ rfl
        go_wp2_with (at_builtin; refine RI.wpList_append ri_ok rfl (.tmp 54) (.tmp 56) rfl (g + 1) V rs [rz] rfl (HR5.out.own.below (below_new _ _)) _ 1 1 rfl (Rk.At.new ri_ok _ rz _) rfl (.inr ⟨_, _, rfl⟩) (by have := HLR.out; simp; omega) (by have := HG5.out.lt; simp; omega) ?_; intro V6 w6 ho6 hg6 _; obtain ⟨A6, n6, c6, rfl⟩ := own_sl ri_ok ho6; have hBk6 := ((HG5.out.al (.cells (RI.enc rz).toArray 51)).far hg6 (fun e => by have := HR5.out.own.lt g e.symm; omega)); have f3f := hBk6.fr 2; have f3c : w6.cell? ⟨g, 2, none⟩ = some V := hBk6.c 2 _ rfl; clear hBk6)
        obtain ⟨HG7, HO7, HB7, _⟩ := field_put (HG5.out.al (.cells (RI.enc rz).toArray 51)) (HR5.out.own.below (below_new _ _)) (HB5.out.trans ((below_new w5 (.cells (RI.enc rz).toArray 51)).mono HB5.out.size)) HG0.out hg6 ho6 2
        go_roundg (gk - 1)
        case measure => omega
        case rel => exact ⟨j + 1, .slice A6 n6 c6, rs ++ [rz], by go_num, by omega, HG7, Lib.hid (by rw [HUP2.out]; exact HR5.out.snoc HO7.out HZZ.out.1 HZZ.out.2.1 HZZ.out.2.2), HB7, HMM2⟩
      · have HB4 := Lib.hid (HBW.out.trans (hb4.mono HBW.out.size))
        have HG4 := Lib.hid (HG.out.below hb4)
        have HR4 := Lib.hid (HR.out.below hb4)
        have HLR : Hid (rs.length ≤ 256) := Lib.hid (by rw [HR.out.rl]; have := upTo_len x.im y.im j; omega)
        have HPK := Lib.hid (both_a (a := x.im) hpk)
        clear hpk hb4 b2 HG HR HBW
        unfold imV imC
        go_upto_region 9 with fail
        have HG5 := Lib.hid (HG4.out.al (.cells (imC 0 none 0 0) 51))
        have HB5 := Lib.hid (HB4.out.trans ((below_new w4 (.cells (imC 0 none 0 0) 51)).mono HB4.out.size))
        have HK5 := Lib.hid (Bk.new w4 (imC 0 none 0 0) 51)
        have HR5 := Lib.hid (HR4.out.below (below_new w4 (.cells (imC 0 none 0 0) 51)))
        have hC : (#[.int .i64 0, .slice none 0 0] : Array Value) = imC 0 none 0 0 := rfl
        rw [hC]
        clear hC
        obtain ⟨h, hh⟩ : ∃ h, h = w4.heap.size := ⟨_, rfl⟩
        have HHG : Hid (g < h) := Lib.hid (by rw [hh]; exact HG4.out.lt)
        have HHR : Hid (∀ k, V.ownBlock = some k → k < h) := Lib.hid (fun k hk => by rw [hh]; exact (HR4.out.own.lt k hk).2)
        rw [← hh] at HK5 ⊢
        clear hh HG4 HB4 HR4
        generalize w4.alloc (.cells (imC 0 none 0 0) 51) = w5 at *
        have a2 := (HX.out.below HB5.out).c2
        simp only at a2
        go_wp2_with fail
        refine (image_any A1 k1 c1 j x.im e1 w5 (HIX.out.below HB5.out) (by omega) (by omega)).mono ?_
        rintro e w6 ⟨hb6, ⟨i, z, rz, hz, hrz, hpk, rfl⟩ | ⟨hpk, rfl⟩⟩
        · have HMM2 := Lib.hid (mem_more HMM.out (.inl (List.mem_of_getElem? hrz)))
          have hzz := HIXw.out.each i _ _ hrz hz
          have HUP2 : Hid (upTo x.im y.im (j + 1) = upTo x.im y.im j ++ [z]) := Lib.hid (by rw [HUP.out, HPK.out, hpk]; rfl)
          have HZZ := Lib.hid hzz
          rw [← hzz.1]
          have HB6 := Lib.hid (HB5.out.trans (hb6.mono HB5.out.size))
          have HG6 := Lib.hid (HG5.out.below hb6)
          have HR6 := Lib.hid (HR5.out.below hb6)
          have HK6 := Lib.hid (HK5.out.below hb6)
          clear hz hrz hpk hzz hb6 a2 HG5 HR5 HB5 HK5
          unfold imV
          go_upto_region 11 with (refine wpList_store_bk ty_im HK6.out rfl rfl (.tmp 8) (.tmp 50) rfl rfl (imC rz.k rz.a rz.n rz.c) rfl rfl (imC_one _ _ _ _) ?_; intro w7 hk7 hg7)
          have HK5 := Lib.hid hk7
          have HG5 := Lib.hid (HG6.out.far hg7 (fun e => by injection e with e; have := HHG.out; omega))
          have HB5 := Lib.hid (HB6.out.grown hg7 HB6.out.size (fun k hk => by injection hk with hk; have := HHG.out; have := HG0.out; omega))
          have HR5 : Hid (ImRow w w7 (g + 1) V (upTo x.im y.im j) rs) := Lib.hid ⟨HR6.out.own.turn (S := fun k => k = h) ⟨hg7.os, hg7.tape, hg7.output, hg7.size, fun k hk hn => hg7.block k hk (fun e => hn (by injection e with e))⟩ (fun k hk e => by have := HHR.out k hk; omega), HR6.out.rl, HR6.out.each⟩
          clear hk7 hg7 HK6 HG6 HB6 HR6
          obtain ⟨w5, h5⟩ : ∃ w5, w5 = w7 := ⟨_, rfl⟩
          subst h5
          have f2 : w5.cell? ⟨g, 2, none⟩ = some V := HG5.out.c 2 _ rfl
          have f2f := HG5.out.fr 2
          have y0 : w5.cell? ⟨h, 0, none⟩ = some (.int .i64 rz.k) := HK5.out.c 0 _ rfl
          have y1 : w5.cell? ⟨h, 1, none⟩ = some (.slice rz.a rz.n rz.c) := HK5.out.c 1 _ rfl
          go_wp2_with (at_builtin; refine RI.wpList_append ri_ok rfl (.tmp 54) (.tmp 56) rfl (g + 1) V rs [rz] rfl (HR5.out.own.below (below_new _ _)) _ 1 1 rfl (Rk.At.new ri_ok _ rz _) rfl (.inr ⟨_, _, rfl⟩) (by have := HLR.out; simp; omega) (by have := HG5.out.lt; simp; omega) ?_; intro V6 w6 ho6 hg6 _; obtain ⟨A6, n6, c6, rfl⟩ := own_sl ri_ok ho6; have hBk6 := ((HG5.out.al (.cells (RI.enc rz).toArray 51)).far hg6 (fun e => by have := HR5.out.own.lt g e.symm; omega)); have f3f := hBk6.fr 2; have f3c : w6.cell? ⟨g, 2, none⟩ = some V := hBk6.c 2 _ rfl; clear hBk6)
          obtain ⟨HG7, HO7, HB7, _⟩ := field_put (HG5.out.al (.cells (RI.enc rz).toArray 51)) (HR5.out.own.below (below_new _ _)) (HB5.out.trans ((below_new w5 (.cells (RI.enc rz).toArray 51)).mono HB5.out.size)) HG0.out hg6 ho6 2
          go_roundg (gk - 1)
          case measure => omega
          case rel => exact ⟨j + 1, .slice A6 n6 c6, rs ++ [rz], by go_num, by omega, HG7, Lib.hid (by rw [HUP2.out]; exact HR5.out.snoc HO7.out HZZ.out.1 HZZ.out.2.1 HZZ.out.2.2), HB7, HMM2⟩
        · have HUP2 : Hid (upTo x.im y.im (j + 1) = upTo x.im y.im j) := Lib.hid (by rw [HUP.out, HPK.out, hpk]; exact List.append_nil _)
          have HB6 := Lib.hid (HB5.out.trans (hb6.mono HB5.out.size))
          have HG6 := Lib.hid (HG5.out.below hb6)
          have HR6 := Lib.hid (HR5.out.below hb6)
          have HK6 := Lib.hid (HK5.out.below hb6)
          clear hpk hb6 a2 HG5 HR5 HB5 HK5
          unfold imV
          go_wp2_with (refine wpList_store_bk ty_im HK6.out rfl rfl (.tmp 8) (.tmp 50) rfl rfl (imC 0 none 0 0) rfl rfl (imC_one _ _ _ _) ?_; intro w7 hk7 hg7)
          have HG5 := Lib.hid (HG6.out.far hg7 (fun e => by injection e with e; have := HHG.out; omega))
          have HB5 := Lib.hid (HB6.out.grown hg7 HB6.out.size (fun k hk => by injection hk with hk; have := HHG.out; have := HG0.out; omega))
          have HR5 : Hid (ImRow w w7 (g + 1) V (upTo x.im y.im j) rs) := Lib.hid ⟨HR6.out.own.turn (S := fun k => k = h) ⟨hg7.os, hg7.tape, hg7.output, hg7.size, fun k hk hn => hg7.block k hk (fun e => hn (by injection e with e))⟩ (fun k hk e => by have := HHR.out k hk; omega), HR6.out.rl, HR6.out.each⟩
          go_roundg (gk - 1)
          case measure => omega
          case rel => exact ⟨j + 1, V, rs, by go_num, by omega, HG5, Lib.hid (by rw [HUP2.out]; exact HR5.out), HB5, HMM⟩
    · obtain rfl : j = 256 := by omega
      clear hge
      have HMER : Hid (∀ (W : World) (A B : Option Addr) (n c m d : Nat), Below w.heap.size w W → RI.Own W (g + 1) (.slice A n c) rs → RO.Own W (g + 1) (.slice B m d) (x.op ++ y.op) → NtAt W (mer x y) ⟨A, n, c, B, m, d, rs⟩) := Lib.hid (by
        intro W A B n c m d hb ho1 ho2
        obtain ⟨A', c', e, hat⟩ := (show ImRow w W (g + 1) (.slice A n c) (upTo x.im y.im 256) rs from ⟨ho1, HR.out.rl, HR.out.each⟩).out hb
        injection e with e1 e2 e3
        obtain ⟨B', d', e', hc', ha', hf'⟩ := ho2.form ro_ok
        injection e' with e1' e2' e3'
        subst e1 e2 e3 e1' e2' e3'
        refine ⟨hat, ⟨ha', rfl, hc', ?_, fun i z hz => ?_⟩, by simp [okI, mer], HNY.out.seq⟩
        · rcases hf' with h | ⟨q, h, _⟩
          · exact .inl h
          · exact .inr ⟨q, 0, h⟩
        · rcases Nat.lt_or_ge i x.op.length with hi | hi
          · have hz' : x.op[i]? = some z := by rw [← List.getElem?_append_left (l₂ := y.op) hi]; exact hz
            exact HNX.out.op.ok i z hz'
          · have hz' : y.op[i - x.op.length]? = some z := by rw [← List.getElem?_append_right (l₁ := x.op) hi]; exact hz
            exact HNY.out.op.ok _ z hz')
      have HSM : Hid (SmallN (mer x y)) := Lib.hid (by
        obtain ⟨_, h1, _, h2⟩ := HLN.out
        refine ⟨?_, ?_, fun i z hz => ?_⟩
        · have := upTo_len x.im y.im 256
          unfold mer
          simp only
          omega
        · unfold mer
          simp only [List.length_append]
          omega
        · rcases upTo_mem (List.mem_of_getElem? hz) with h | h
          · exact small_mem HMX.out h
          · exact small_mem HMY.out h)
      have u3 : wr.cell? ⟨g, 3, none⟩ = some (.slice none 0 0) := HG.out.c 3 _ rfl
      have a3 := (HX.out.below HBW.out).c3
      simp only at a3
      have HOX := Lib.hid (HNX.out.op.below HBW.out)
      simp only at HOX
      go_upto_region 13 with (at_builtin; refine RO.wpList_append ro_ok rfl (.tmp 60) (.tmp 62) rfl (g + 1) (.slice none 0 0) [] x.op rfl (Rk.Own.nil _ _ _) B1 l1 d1 rfl HOX.out.row HOX.out.ll HOX.out.fm (by have := HOX.out.ll; simp; omega) (by have := HG.out.lt; omega) ?_; intro V6 w6 ho6 hg6 hv6; obtain ⟨A6, n6, c6, rfl⟩ := own_sl ro_ok ho6; have hBk6 := HG.out.far hg6 (fun e => by cases e); have f3f := hBk6.fr 3; have f3c : w6.cell? ⟨g, 3, none⟩ = some (.slice none 0 0) := hBk6.c 3 _ rfl; clear hBk6)
      obtain ⟨HG7, HU7, HB7, HT7⟩ := field_put HG.out (Rk.Own.nil RO wr (g + 1)) HBW.out HG0.out hg6 ho6 3
      have HV7 := Lib.hid (HR.out.own.turn HT7.out (fun k hk h => by
        rcases h with h | h
        · have := HR.out.own.lt k hk; omega
        · cases h))
      have HUV : Hid (∀ k, (Value.slice A6 n6 c6).ownBlock = some k → ¬ V.ownBlock = some k) := Lib.hid (fun k hk hv => by
        rcases hv6 with h | h
        · rw [hk] at h; cases h
        · rw [hk] at h
          injection h with h
          have := HR.out.own.lt k hv
          omega)
      clear u3 a3 f3f f3c hg6 hv6 ho6 HT7 HG HBW HOX
      generalize w6.setCell ⟨g, 3, none⟩ (.slice A6 n6 c6) = w7 at *
      have u3 : w7.cell? ⟨g, 3, none⟩ = some (.slice A6 n6 c6) := HG7.out.c 3 _ rfl
      have b3 := (HY.out.below HB7.out).c3
      simp only at b3
      have HOY := Lib.hid (HNY.out.op.below HB7.out)
      simp only at HOY
      have HLX : Hid (x.op.length = l1) := Lib.hid HLN.out.2.1
      go_upto_region 14 with (at_builtin; refine RO.wpList_append ro_ok rfl (.tmp 66) (.tmp 68) rfl (g + 1) (.slice A6 n6 c6) _ y.op rfl HU7.out B2 l2 d2 rfl HOY.out.row HOY.out.ll HOY.out.fm (by have := HOY.out.ll; have := HLX.out; simp; omega) (by have := HG7.out.lt; omega) ?_; intro V8 w8 ho8 hg8 hv8; obtain ⟨A8, n8, c8, rfl⟩ := own_sl ro_ok ho8; have hBk8 := HG7.out.far hg8 (fun e => by have := HU7.out.lt g e.symm; omega); have f3f := hBk8.fr 3; have f3c : w8.cell? ⟨g, 3, none⟩ = some (.slice A6 n6 c6) := hBk8.c 3 _ rfl; clear hBk8)
      obtain ⟨HG9, HU9, HB9, HT9⟩ := field_put HG7.out HU7.out HB7.out HG0.out hg8 ho8 3
      have HV9 := Lib.hid (HV7.out.turn HT9.out (fun k hk h => by
        rcases h with h | h
        · have := HV7.out.lt k hk; omega
        · exact HUV.out k h hk))
      clear u3 b3 f3f f3c hg8 hv8 ho8 HT9 HG7 HU7 HB7 HV7 HOY HUV
      generalize w8.setCell ⟨g, 3, none⟩ (.slice A8 n8 c8) = w9 at *
      obtain ⟨Av, nv, cv, hV⟩ := own_sl ri_ok HV9.out
      subst hV
      have HG10 : Hid (Bk w9 g (outC y.seq (.slice Av nv cv) (.slice A8 n8 c8)) 25) := HG9
      have HU10 : Hid (RO.Own w9 (g + 1) (.slice A8 n8 c8) (x.op ++ y.op)) := HU9
      clear HG9 HU9 HR
      go_wp2_with (refine wpList_load_bk ty_rnote HG10.out rfl rfl (.tmp 6) rfl rfl ?_)
      refine (sane_any (mer x y) ⟨Av, nv, cv, A8, n8, c8, rs⟩ w9 (HMER.out _ _ _ _ _ _ _ (HB.out.trans (HB9.out.mono HB.out.size)) HV9.out HU10.out) HSM.out).mono ?_
      rintro e w10 ⟨rfl, hb10⟩
      have HBX := Lib.hid (HB9.out.trans (hb10.mono HB9.out.size))
      have HZX := Lib.hid (HZ.out.below HBX.out)
      have HGX := Lib.hid (HG10.out.below hb10)
      have HVX := Lib.hid (HV9.out.below hb10)
      have HUX := Lib.hid (HU10.out.below hb10)
      clear hb10 HB9 HG10 HV9 HU10
      have HWS := Lib.hid (And.intro HSX.out (And.intro HSY.out HKK.out))
      by_cases hm : San (mer x y)
      · rw [sane_yes hm]
        obtain ⟨z1, z2⟩ := merE_zero HWS.out hm
        have HON2 := Lib.hid (HON.out.trans z2)
        have HOE2 := Lib.hid (HOE.out.trans z1)
        clear hm z1 z2
        go_wp2_with (first
          | (refine wpList_load_bk ty_rnote HGX.out rfl rfl (.tmp 6) rfl rfl ?_)
          | (refine wpList_store_bk ty_rnote HZX.out rfl rfl (.tmp 4) (.tmp 75) rfl rfl (ntC (mer x y) ⟨Av, nv, cv, A8, n8, c8, rs⟩) rfl rfl (ntC_one _ _) ?_; intro w11 hk11 hg11))
        have hbw : Below w.heap.size w w11 := (HB.out.trans (HBX.out.mono HB.out.size)).grown hg11 (Nat.le_trans HB.out.size HBX.out.size) (fun k hk => by injection hk with hk; omega)
        have hz2 : w.heap.size + 2 < w0.heap.size := HZ.out.lt
        have ht : Turn (fun k => k = w.heap.size + 2) w10 w11 := ⟨hg11.os, hg11.tape, hg11.output, hg11.size, fun k hk hn => hg11.block k hk (fun e => hn (by injection e with e))⟩
        refine bodyPost_ret (results_bk2 ty_rnote rfl _ rfl _ rfl hk11 rfl) rfl ?_
        rw [HON2.out, HOE2.out]
        exact ⟨⟨Av, nv, cv, A8, n8, c8, rs⟩, rfl, HMER.out _ _ _ _ _ _ _ hbw (HVX.out.turn ht (fun k hk e => by have := HVX.out.lt k hk; have := HG0.out; omega)) (HUX.out.turn ht (fun k hk e => by have := HUX.out.lt k hk; have := HG0.out; omega)), hbw, fun z hz h1 h2 => ⟨off_own HVX.out (by have := HG0.out; have := HB.out.size; omega), off_own HUX.out (by have := HG0.out; have := HB.out.size; omega), fun q hq => (HMM.out q hq).elim (h1.2.2 q) (h2.2.2 q)⟩⟩
      · rw [sane_no hm]
        obtain ⟨z1, z2⟩ := merE_much HWS.out hm
        have HON2 := Lib.hid (HON.out.trans z2)
        have HOE2 := Lib.hid (HOE.out.trans z1)
        clear hm z1 z2
        go_wp2_with (refine wpList_store_bk ty_rnote HZX.out rfl rfl (.tmp 4) (.tmp 74) rfl rfl (ntC .zero nr0) rfl rfl (ntC_one _ _) ?_; intro w11 hk11 hg11)
        have hbw : Below w.heap.size w w11 := (HB.out.trans (HBX.out.mono HB.out.size)).grown hg11 (Nat.le_trans HB.out.size HBX.out.size) (fun k hk => by injection hk with hk; omega)
        refine bodyPost_ret (results_bk2 ty_rnote rfl _ rfl _ rfl hk11 rfl) rfl ?_
        rw [HON2.out, HOE2.out]
        exact ⟨nr0, rfl, nt_zero _, hbw, fun z _ _ _ => nr0_off z⟩

theorem merge_any (x y : Nt) (r q : Nr) (w : World) (hx : NtAt w x r) (hy : NtAt w y q) (hsx : SmallN x) (hsy : SmallN y) : Calls Try.prog 17 #[ntV x r, ntV y q] w (MergeOut w (merN x y) (merE x y) r q) := by
  by_cases h : San x ∧ San y ∧ x.kind = 1 ∧ y.kind = 1
  · exact merge_yes x y r q w hx hy h.1 h.2.1 h.2.2.1 h.2.2.2
  · rw [(merE_no h).1, (merE_no h).2]
    exact merge_no x y r q w hx hy hsx hsy h

end Go.Proofs.Ytjpnihmijnpjcaa
