/-
  A sound tree is told sound.
-/
import Derived.Test.YtohnfjneghbceaaAbort
import Derived.Maps.OwnOps
import Derived.Maps.OwnSet
namespace Go.Proofs.Ytohnfjneghbceaa
set_option maxRecDepth 100000
set_option linter.unusedVariables false
open Go.RowKit Go.Shelf

/-- a transaction lies in block g -/
def XB (W : World) (g : Nat) (x : Tx) : Prop := W.heap[g]? = some (.cells #[.int .i64 x.p, .int .i64 x.s, .int .i64 x.b, .int .i64 x.e] 32 (0, 0))
section
variable {W V : World} {g : Nat} {x y : Tx}
theorem XB.c0 (h : XB W g x) : W.cell? ⟨g, 0, none⟩ = some (.int .i64 x.p) := (cell_of_row _ _ _ _ _ _ h).trans rfl
theorem XB.c1 (h : XB W g x) : W.cell? ⟨g, 1, none⟩ = some (.int .i64 x.s) := (cell_of_row _ _ _ _ _ _ h).trans rfl
theorem XB.c2 (h : XB W g x) : W.cell? ⟨g, 2, none⟩ = some (.int .i64 x.b) := (cell_of_row _ _ _ _ _ _ h).trans rfl
theorem XB.c3 (h : XB W g x) : W.cell? ⟨g, 3, none⟩ = some (.int .i64 x.e) := (cell_of_row _ _ _ _ _ _ h).trans rfl
theorem XB.lt (h : XB W g x) : g < W.heap.size := lt_of_block h
theorem XB.below (h : XB W g x) (hb : Below W.heap.size W V) : XB V g x := (hb.block g h.lt).trans h
theorem XB.far {r : Option Nat} (h : XB W g x) (hg : W.grownBy V r) (hne : some g ≠ r) : XB V g x := (hg.block g h.lt hne).trans h
theorem XB.new (W : World) : XB (W.alloc (.cells #[.int .i64 0, .int .i64 0, .int .i64 0, .int .i64 0] 32)) W.heap.size ⟨0, 0, 0, 0⟩ := heap_alloc_new W _
theorem x_info : (Try.prog.info? 32).map (·.size) = some (#[Value.int .i64 0, Value.int .i64 0, Value.int .i64 0, Value.int .i64 0] : Array Value).size := by kernel_rfl
theorem wpList_store_x {ops : Array Oper} {rest : List Oper} {o : Oper} {a : Act} {Q : Exit → Act → World → Prop} (hgd : o.guard = none) (u v : Operand) (ho : o.op = .store 32 u v) (hx : a.eval u = .pointer (some ⟨g, 0, none⟩)) (hy : a.eval v = .agg #[.int .i64 y.p, .int .i64 y.s, .int .i64 y.b, .int .i64 y.e])
    (hb : XB W g x) (h : ∀ w', XB w' g y → W.grownBy w' (some g) → wpList Try.prog ops Q rest (a.put o.dst undef) w') : wpList Try.prog ops Q (o :: rest) a W :=
  wpList_store_row hgd 32 u v ho g _ hx hy 32 _ hb x_info rfl (by simp [Value.oneCell'])
    (h _ (setRow_heap _ _ _ _ _ _ hb) ⟨rfl, rfl, rfl, by rw [setRow_size]; exact Nat.le_refl _, fun j _ hj => setRow_other W g j _ (fun e => hj (by rw [e]))⟩)
theorem wp_store_x {o : Oper} {a : Act} {K : Act → World → Prop} {Q : Exit → Act → World → Prop} (u v : Operand) (ho : o.op = .store 32 u v) (hx : a.eval u = .pointer (some ⟨g, 0, none⟩)) (hy : a.eval v = .agg #[.int .i64 y.p, .int .i64 y.s, .int .i64 y.b, .int .i64 y.e])
    (hb : XB W g x) (h : ∀ w', XB w' g y → W.grownBy w' (some g) → K (a.put o.dst undef) w') : o.wp Try.prog a W K Q :=
  wp_store_row 32 u v ho g _ hx hy 32 _ hb x_info rfl (by simp [Value.oneCell'])
    (h _ (setRow_heap _ _ _ _ _ _ hb) ⟨rfl, rfl, rfl, by rw [setRow_size]; exact Nat.le_refl _, fun j _ hj => setRow_other W g j _ (fun e => hj (by rw [e]))⟩)
end

set_option maxHeartbeats 2000000 in
theorem placed_any (A : Option Addr) (T : Tr) (N cap : Nat) (c : Int) (i : Nat) (hi : i < N) (hN : T.l.length = N) (hG : Good T) (w : World) (hT : TxAt w A T.l) :
    Calls Try.prog 39 #[.agg #[.slice A N cap, .int .i64 c], .int .i64 (i : Int)] w fun e w' => e = .returned (.bool true) ∧ Below w.heap.size w w' := by
  have hb0 := below_new w (.cells #[.slice A N cap, .int .i64 c] 26)
  have ht0 := TB.new w A N cap c
  have hT0 := hT.below hb0
  have hdeep := deep_any A T N cap c i hN hG _ hT0
  have hp := hG.par i (by rw [hN]; exact hi)
  have hd := way_len hG (i : Int)
  obtain ⟨b, hAe, hb, p0, _, _, _⟩ := hT0.get (i := i) (by rw [hN]; exact hi)
  have hn64 : N ≤ 64 := by have := hG.n; omega
  subst hAe
  obtain ⟨q, hq⟩ : ∃ q, q = (T.tx i).p := ⟨_, rfl⟩
  obtain ⟨d, hd2⟩ : ∃ d, d = (T.way (i : Int)).length := ⟨_, rfl⟩
  rw [← hq] at p0 hp
  rw [← hd2] at hdeep hd
  obtain ⟨hp1, hp2⟩ := hp
  have hd8 : (d : Int) ≤ 8 := by omega
  have c0 := ht0.c0
  have c1 := ht0.c1
  have HD := Lib.hid hdeep
  have HB := Lib.hid hb0
  clear hdeep hT hT0 hG hN hb0 ht0 hq hd2 hd hb
  go_enter Try.func39, Try.ntmps39
  go_wp2_with fail
  refine HD.out.mono ?_
  rintro e w2 ⟨rfl, hb2⟩
  have HB2 := Lib.hid (HB.out.trans (hb2.mono HB.out.size))
  clear hb2 HD HB c0 c1 p0
  go_wp2
  go_ret
  refine ⟨?_, HB2.out⟩
  first | rfl | (simp; try omega)

set_option maxHeartbeats 4000000 in
theorem timed_any (A : Option Addr) (T : Tr) (N cap : Nat) (c : Int) (i : Nat) (hi : i < N) (hN : T.l.length = N) (hG : Good T) (hc : T.c = c) (w : World) (hT : TxAt w A T.l) :
    Calls Try.prog 40 #[.agg #[.slice A N cap, .int .i64 c], .int .i64 (i : Int)] w fun e w' => e = .returned (.bool true) ∧ Below w.heap.size w w' := by
  have hb0 := below_new w (.cells #[.slice A N cap, .int .i64 c] 26)
  have ht0 := TB.new w A N cap c
  have hT0 := hT.below hb0
  have hil : i < T.l.length := by rw [hN]; exact hi
  have hst := hG.state i hil
  have hbg := hG.bg i hil
  have hb0' := hG.b0 i hil
  have hprev : ∀ k, i = k + 1 → (T.tx k).b < (T.tx i).b := fun k e => by subst e; exact (hG.bg (k + 1) hil).1
  obtain ⟨b, hAe, hb, p0, p1, p2, p3⟩ := hT0.get hil
  have hn64 : N ≤ 64 := by have := hG.n; omega
  rw [hc] at hst hbg
  obtain ⟨xp, hxp⟩ : ∃ q, q = (T.tx i).p := ⟨_, rfl⟩
  obtain ⟨xs, hxs⟩ : ∃ q, q = (T.tx i).s := ⟨_, rfl⟩
  obtain ⟨xb, hxb⟩ : ∃ q, q = (T.tx i).b := ⟨_, rfl⟩
  obtain ⟨xe, hxe⟩ : ∃ q, q = (T.tx i).e := ⟨_, rfl⟩
  rw [← hxp] at p0
  rw [← hxs] at p1 hst
  rw [← hxb] at p2 hst hbg hb0' hprev
  rw [← hxe] at p3 hst
  have HT0 := Lib.hid hT0
  subst hAe
  have c0 := ht0.c0
  have HTB := Lib.hid ht0
  have HB := Lib.hid hb0
  have HN := Lib.hid hN
  have HST := Lib.hid hst
  have HBG := Lib.hid hbg.2
  have HPV := Lib.hid hprev
  have HB0 := Lib.hid hb0'
  clear hT hT0 hG hN hb0 ht0 hst hbg hb0' hprev hxp hxs hxb hxe hil
  go_enter Try.func40, Try.ntmps40
  go_upto_region 1 with fail
  generalize w.alloc (.cells #[.slice (some ⟨b, 0, none⟩) N cap, .int .i64 c] 26) = w0 at *
  go_upto_region 2 with (first | (refine wpList_store_x rfl (.tmp 5) (.tmp 11) rfl rfl (y := ⟨xp, xs, xb, xe⟩) rfl (XB.new w0) ?_; intro w1 hx1 hg1; have HX1 := Lib.hid hx1; have HG1 := Lib.hid hg1; clear hx1 hg1) | fail)
  have hb1 : Below w0.heap.size w0 w1 := (below_new w0 _).grown HG1.out (by simp) (fun k e => by injection e with e; omega)
  have HB1 := Lib.hid (HB.out.trans (hb1.mono HB.out.size))
  have HTB1 := Lib.hid (HTB.out.below hb1)
  have HT1 := Lib.hid (HT0.out.below hb1)
  have k0 := HTB1.out.c0
  have k1 := HTB1.out.c1
  have x1 := HX1.out.c1
  have x2 := HX1.out.c2
  have x3 := HX1.out.c3
  simp only at x1 x2 x3
  clear p0 p1 p2 p3 c0 hb1 HG1 HB HTB HT0 hb
  have hcb : xb ≤ c := HBG.out
  have hst := HST.out
  have hin : i = 0 ∨ ∃ k, i = k + 1 := by cases i with | zero => exact .inl rfl | succ k => exact .inr ⟨k, rfl⟩
  rcases hin with rfl | ⟨k, rfl⟩
  · have hb0 : 0 < xb := HB0.out
    have hnb : ¬ xb ≤ 0 := by omega
    have hnc : ¬ c < xb := by omega
    rcases hst with ⟨rfl, rfl⟩ | ⟨rfl | rfl, h2, h3⟩
    all_goals
      go_wp2
      go_ret
      refine ⟨?_, HB1.out⟩
      first | rfl | (simp; try omega)
  · obtain ⟨b2, e2, hb2, _, _, q2, _⟩ := HT1.out.get (i := k) (by rw [HN.out]; omega)
    injection e2 with e2
    injection e2 with e2
    subst e2
    obtain ⟨xk, hxk⟩ : ∃ q, q = (T.tx k).b := ⟨_, rfl⟩
    rw [← hxk] at q2
    have hlt : xk < xb := by rw [hxk]; exact HPV.out k rfl
    have hnb : ¬ xb ≤ xk := by omega
    have hnc : ¬ c < xb := by omega
    have wr1 : IntKind.i64.wrap (((k + 1 : Nat) : Int) - 1) = (k : Int) := by simp [IntKind.wrap, IntKind.bits, IntKind.signed]; omega
    have wr2 : IntKind.i64.wrap ((k : Int) + 1 - 1) = (k : Int) := by simp [IntKind.wrap, IntKind.bits, IntKind.signed]; omega
    have wr3 : IntKind.i64.wrap (k : Int) = (k : Int) := by simp [IntKind.wrap, IntKind.bits, IntKind.signed]; omega
    clear hxk
    rcases hst with ⟨rfl, rfl⟩ | ⟨rfl | rfl, h2, h3⟩
    all_goals
      go_wp2
      go_ret
      refine ⟨?_, HB1.out⟩
      first | rfl | (simp; try omega)

end Go.Proofs.Ytohnfjneghbceaa
