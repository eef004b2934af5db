/-
  The statements' example: one adds, another one takes; a third one can do neither.
-/
import Derived.Test.YtogngghfdcpeaaaKq
import Derived.Test.YtogngghfdcpeaaaTreeC
namespace Go.Proofs.Ytogngghfdcpeaaa
set_option maxRecDepth 100000
set_option linter.unusedVariables false
set_option linter.unusedSimpArgs false
open Go.RowKit

theorem Bk.two {W : World} {g : Nat} {a b : Value} {t : TypeId} (h : Bk W g #[a, b] t) (x y : Value) : Bk ((W.setCell ⟨g, 0, none⟩ x).setCell ⟨g, 1, none⟩ y) g #[x, y] t := by
  have h1 : Bk (W.setCell ⟨g, 0, none⟩ x) g #[x, b] t := heap_setCell_same W g 0 #[a, b] t x h
  exact heap_setCell_same _ g 1 #[x, b] t y h1
theorem Turn.two {W : World} (g : Nat) (x y : Value) : Turn (fun q => q = g) W ((W.setCell ⟨g, 0, none⟩ x).setCell ⟨g, 1, none⟩ y) := ((Turn.refl (fun q => q = g) W).setCell ⟨g, 0, none⟩ x (.inl rfl)).setCell ⟨g, 1, none⟩ y (.inl rfl)

/-- a row of ints lies in no block of slices -/
theorem row_off {α : Type} {R : Rk α} (hR : R.Ok) (hi : ∀ x, ∃ z, (R.enc x)[0]? = some (.int .i64 z)) {W : World} {A : Option Addr} {l : List α} {g : Nat} {cs : Array Value} {t : TypeId} (h : R.At W A l) (hg : Bk W g cs t) (hcs : ∀ (j : Nat) (z : Int), cs[j]? ≠ some (Value.int .i64 z)) :
    ∀ q o, A = some ⟨q, o, none⟩ → l = [] ∨ q ≠ g := by
  intro q o e
  cases l with
  | nil => exact .inl rfl
  | cons x l =>
    refine .inr fun hq => ?_
    obtain ⟨b, o', e', _, hc⟩ := h.get hR (i := 0) (x := x) rfl
    rw [e] at e'
    injection e' with e'
    injection e' with e1 e2
    obtain ⟨z, hz⟩ := hi x
    have h1 := hc 0 _ hz
    rw [← e1, hq] at h1
    have h2 : W.cell? ⟨g, o' + (0 * R.m + 0), none⟩ = cs[o' + (0 * R.m + 0)]? := cell_of_row _ _ _ _ _ _ hg
    rw [h1] at h2
    exact hcs _ _ h2.symm
theorem tb_cs {A B : Option Addr} {n a m b : Nat} : ∀ (j : Nat) (z : Int), (tbC A n a B m b)[j]? ≠ some (Value.int .i64 z) := by
  intro j z h
  rcases j with _ | _ | j
  · cases h
  · cases h
  · simp at h
theorem TbO.turn {W V : World} {A B : Option Addr} {n a m b : Nat} {t : Tb} {S : Nat → Prop} (h : TbO W A n a B m b t) (ht : Turn S W V) (hA : ∀ q o, A = some ⟨q, o, none⟩ → t.C = [] ∨ ¬ S q) (hB : ∀ q o, B = some ⟨q, o, none⟩ → t.P = [] ∨ ¬ S q) : TbO V A n a B m b t :=
  ⟨⟨h.tb.cl, h.tb.pl, h.tb.okC, h.tb.okP, h.tb.atC.turn ht hA, h.tb.atP.turn ht hB⟩, h.na, h.sa, h.mb, h.sb, fun g o e => Nat.lt_of_lt_of_le (h.vb g o e) ht.size⟩
/-- a table is stored into its variable: its rows stay -/
theorem TbO.put {W : World} {A B A0 B0 : Option Addr} {n a m b n0 a0 m0 b0 g : Nat} {t : Tb} {ty : TypeId} (h : TbO W A n a B m b t) (hg : Bk W g (tbC A0 n0 a0 B0 m0 b0) ty) (x y : Value) : TbO ((W.setCell ⟨g, 0, none⟩ x).setCell ⟨g, 1, none⟩ y) A n a B m b t :=
  h.turn (Turn.two g x y) (row_off rc_oko (fun c => ⟨c.lo, rfl⟩) h.tb.atC hg tb_cs) (row_off rp_oko (fun c => ⟨c.c, rfl⟩) h.tb.atP hg tb_cs)
/-- of transactions the same -/
theorem tx_put {W : World} {A A0 : Option Addr} {l : List Tx} {N0 k0 g : Nat} {c0 : Int} {ty : TypeId} (h : TxAt W A l) (hg : Bk W g (trC A0 N0 k0 c0) ty) (x y : Value) : TxAt ((W.setCell ⟨g, 0, none⟩ x).setCell ⟨g, 1, none⟩ y) A l := by
  refine h.turn (Turn.two g x y) (fun b o e => ?_)
  rcases h with ⟨_, h⟩ | ⟨b', e', hb, hc⟩
  · exact .inl h
  · cases l with
    | nil => exact .inl rfl
    | cons u l =>
      refine .inr fun hq => ?_
      rw [e'] at e; injection e with e; injection e with e1 e2
      have h1 := (hc 0 u rfl).1
      rw [Nat.zero_mul, e1, hq] at h1
      have h2 : W.cell? ⟨g, 0, none⟩ = some (.slice A0 N0 k0) := hg.c 0 _ rfl
      rw [h1] at h2
      cases h2

theorem tx_far {W : World} {A : Option Addr} {l : List Tx} {g : Nat} {A0 B0 : Option Addr} {n0 a0 m0 b0 : Nat} {ty : TypeId} (h : TxAt W A l) (hg : Bk W g (tbC A0 n0 a0 B0 m0 b0) ty) : ∀ b o, A = some ⟨b, o, none⟩ → l = [] ∨ ¬ b = g := by
  intro b o e
  rcases h with ⟨_, h⟩ | ⟨b', e', hb, hc⟩
  · exact .inl h
  · cases l with
    | nil => exact .inl rfl
    | cons u l =>
      refine .inr fun hq => ?_
      rw [e'] at e; injection e with e; injection e with e1 e2
      have h1 := (hc 0 u rfl).1
      rw [Nat.zero_mul, e1, hq] at h1
      have h2 : W.cell? ⟨g, 0, none⟩ = some (.slice A0 n0 a0) := hg.c 0 _ rfl
      rw [h1] at h2
      cases h2
/-- a row of transactions as the tree's own calls leave it -/
theorem txC_rows (l : List Tx) : RTo.cells l = txC l := by
  unfold Rk.cells
  induction l with
  | nil => rfl
  | cons x l ih => rw [List.flatMap_cons, ih]; rfl
theorem tx_rows {W : World} {A : Option Addr} {l : List Tx} (h : TxAt W A l) : RTo.At W A l := by
  rcases h with ⟨_, h⟩ | ⟨b, rfl, hb, hc⟩
  · exact .inl h
  · refine .inr ⟨b, 0, rfl, hb, fun j u hu => ?_⟩
    rw [txC_rows] at hu
    obtain ⟨i, x, hx, hk⟩ := txC_inv l j u hu
    obtain ⟨c0, c1, c2, c3⟩ := hc i x hx
    rw [Nat.zero_add]
    rcases hk with ⟨rfl, rfl⟩ | ⟨rfl, rfl⟩ | ⟨rfl, rfl⟩ | ⟨rfl, rfl⟩
    · exact c0
    · exact c1
    · exact c2
    · exact c3
theorem good_ok {T : Tr} (h : Good T) (hc : T.c ≤ 900) : ∀ x ∈ T.l, TxOk x := by
  intro x hx
  obtain ⟨i, hi, rfl⟩ := List.getElem_of_mem hx
  have e : T.tx i = T.l[i] := by unfold Tr.tx; rw [List.getD_eq_getElem?_getD, List.getElem?_eq_getElem hi]; rfl
  rw [← e]
  have h1 := h.par i hi
  have h2 := h.bg i hi
  have h3 := h.state i hi
  have h4 := h.b0 i hi
  have h5 := h.n
  refine ⟨?_, ?_, ?_, ?_⟩ <;> unfold okI <;> omega
theorem tr_rows {W : World} {A : Option Addr} {T : Tr} {N : Nat} (h : TxAt W A T.l) (hG : Good T) (hc : T.c ≤ 900) (hN : T.l.length = N) : TrAto W A N T := ⟨hN, good_ok hG hc, tx_rows h⟩

def T1 : Tr := ⟨[⟨-1, 1, 1, 0⟩], 1⟩
def T2 : Tr := ⟨[⟨-1, 1, 1, 0⟩, ⟨-1, 1, 2, 0⟩], 2⟩
def T3 : Tr := ⟨[⟨-1, 1, 1, 0⟩, ⟨-1, 1, 2, 0⟩, ⟨-1, 1, 3, 0⟩], 3⟩
theorem mayb (T : Tr) (h : T.l.length < 64) : MayBegin T (-1) := ⟨.inl rfl, h, by simp [Tr.way]⟩
theorem good1 : Good T1 := Good.begun (T := ⟨[], 0⟩) (p := -1) good_nil (mayb _ (by decide))
theorem good2 : Good T2 := good1.begun (mayb _ (by decide))
theorem good3 : Good T3 := good2.begun (mayb _ (by decide))
theorem top_any (A : Option Addr) (T : Tr) (N cap : Nat) (c : Int) (hN : T.l.length = N) (hG : Good T) (hc : T.c = c) (hcb : c ≤ 900) (hN6 : N < 64) (N' : Nat) (c' i : Int) (h1 : N' = N + 1) (h2 : c' = c + 1) (h3 : i = (N : Int)) (w : World) (hT : TxAt w A T.l) :
    Calls Try.prog 27 #[.agg #[.slice A N cap, .int .i64 c], .int .i64 (-1)] w fun e w' => ∃ A k, e = .returned (.tuple #[.agg #[.slice A N' k, .int .i64 c'], .int .i64 i, .int .i64 0]) ∧ TxAt w' A (T.begun (-1)).l ∧ Below w.heap.size w w' := by
  subst h1; subst h2; subst h3
  refine (begin_any A T N cap c (-1) hN hG hc hcb w hT).mono ?_
  rintro e w1 ⟨hb, ⟨_, A, k, n, hn, rfl, htx⟩ | ⟨_, _, hno, _⟩⟩
  · exact ⟨A, k, by rw [hn, hN, show (T.begun (-1)).c = c + 1 by show T.c + 1 = _; rw [hc]], htx, hb⟩
  · exact absurd (mayb T (by omega)) hno

def tA : Tb := ⟨[⟨0, 10, 5⟩], []⟩
def tB : Tb := ⟨[⟨0, 10, 5⟩], [⟨0, 0, 4, 0⟩]⟩
def tC' : Tb := ⟨[⟨0, 10, 5⟩], [⟨0, 0, 4, 0⟩, ⟨0, 1, 0, -5⟩]⟩
theorem aw_a : tA.addE T3 0 0 4 = 0 := by decide +kernel
theorem aw_b : tB.addE T3 1 0 (-5) = 0 := by decide +kernel
theorem aw_c : tC'.addE T3 2 0 2 = 8 := by decide +kernel
theorem aw_d : tC'.addE T3 2 0 (-1) = 8 := by decide +kernel
theorem aw_ta : tA.addT T3 0 0 4 = tB := by unfold Tb.addT; rw [if_pos aw_a]; rfl
theorem aw_tb : tB.addT T3 1 0 (-5) = tC' := by unfold Tb.addT; rw [if_pos aw_b]; rfl

set_option maxHeartbeats 4000000 in
theorem awake_any (w : World) : Calls Try.prog 6 #[] w fun e w' => e = .returned (.bool true) ∧ Below w.heap.size w w' := by
  have hb1 := top_any none ⟨[], 0⟩ 0 0 0 rfl good_nil rfl (by decide) (by decide) 1 1 0 rfl rfl rfl w (.inl ⟨rfl, rfl⟩)
  have hb2 := fun A k w (h : TxAt w A T1.l) => top_any A T1 1 k 1 rfl good1 rfl (by decide) (by decide) 2 2 1 rfl rfl rfl w h
  have hb3 := fun A k w (h : TxAt w A T2.l) => top_any A T2 2 k 2 rfl good2 rfl (by decide) (by decide) 3 3 2 rfl rfl rfl w h
  have ha := fun A n a B m b D d w ht hr => padd_any A B n a m b tA D 3 d 3 T3 0 0 4 (by decide) (by decide) (by have := (TbO.tb ht).pl; rw [← this]; decide) w ht hr
  have hbb := fun A n a B m b D d w ht hr => padd_any A B n a m b tB D 3 d 3 T3 1 0 (-5) (by decide) (by decide) (by have := (TbO.tb ht).pl; rw [← this]; decide) w ht hr
  have hcc := fun A n a B m b D d w ht hr => padd_any A B n a m b tC' D 3 d 3 T3 2 0 2 (by decide) (by decide) (by have := (TbO.tb ht).pl; rw [← this]; decide) w ht hr
  have hdd := fun A n a B m b D d w ht hr => padd_any A B n a m b tC' D 3 d 3 T3 2 0 (-1) (by decide) (by decide) (by have := (TbO.tb ht).pl; rw [← this]; decide) w ht hr
  rw [aw_a, aw_ta] at ha
  rw [aw_b, aw_tb] at hbb
  rw [aw_c] at hcc
  rw [aw_d] at hdd
  have HB1 := Lib.hid hb1
  have HB2 := Lib.hid hb2
  have HB3 := Lib.hid hb3
  have HA := Lib.hid ha
  have HBB := Lib.hid hbb
  have HCC := Lib.hid hcc
  have HDD := Lib.hid hdd
  clear hb1 hb2 hb3 ha hbb hcc hdd
  go_enter Try.func6, Try.ntmps6
  go_wp2_with fail
  refine HB1.out.mono ?_
  rintro e w1 ⟨A1, k1, rfl, hx1, hv1⟩
  have HX1 := Lib.hid (show TxAt w1 A1 T1.l from hx1)
  have HV1 := Lib.hid hv1
  clear hx1 hv1 HB1
  go_upto_region 2 with fail
  obtain ⟨g, hg⟩ : ∃ g, g = w1.heap.size := ⟨_, rfl⟩
  obtain ⟨wa, hwa⟩ : ∃ wa, wa = w1.alloc (.cells (trC A1 1 k1 1) 38) := ⟨_, rfl⟩
  have HKa := Lib.hid (show Bk wa g (trC A1 1 k1 1) 38 by rw [hwa, hg]; exact Bk.new w1 _ _)
  have HXa := Lib.hid (show TxAt wa A1 T1.l by rw [hwa]; exact HX1.out.below (below_new w1 _))
  have HVa := Lib.hid (show Below w.heap.size w wa by rw [hwa]; exact HV1.out.trans ((below_new w1 _).mono HV1.out.size))
  have HG := Lib.hid (show w.heap.size ≤ g by rw [hg]; exact HV1.out.size)
  rw [← hg, ← hwa]
  clear hg hwa HX1 HV1
  have r0 := HKa.out.r_0
  have r1 := HKa.out.r_1
  go_wp2_with fail
  refine (HB2.out A1 k1 wa HXa.out).mono ?_
  rintro e w2 ⟨A2, k2, rfl, hx2, hv2⟩
  have HX2 := Lib.hid (show TxAt w2 A2 T2.l from hx2)
  have HV2 := Lib.hid (HVa.out.trans (hv2.mono HVa.out.size))
  have HK2 := Lib.hid (HKa.out.below hv2)
  clear hx2 hv2 HB2 HKa HXa HVa r0 r1
  have r0 := HK2.out.r_0
  have r1 := HK2.out.r_1
  have f0 := HK2.out.fr 0
  have f1 := HK2.out.fr 1
  go_upto_region 3 with fail
  have HKb := Lib.hid (HK2.out.two (.slice A2 2 k2) (.int .i64 2))
  have HXb := Lib.hid (tx_put HX2.out HK2.out (.slice A2 2 k2) (.int .i64 2))
  have HVb := Lib.hid (HV2.out.trans ((Turn.two (W := w2) g (.slice A2 2 k2) (.int .i64 2)).below (B := w.heap.size) (fun q h => by have := HG.out; omega) HV2.out.size))
  generalize (w2.setCell ⟨g, 0, none⟩ (.slice A2 2 k2)).setCell ⟨g, 1, none⟩ (.int .i64 2) = wb at *
  clear HK2 HX2 HV2 r0 r1 f0 f1
  have r0 := HKb.out.r_0
  have r1 := HKb.out.r_1
  go_wp2_with fail
  refine (HB3.out A2 k2 wb HXb.out).mono ?_
  rintro e w3 ⟨A3, k3, rfl, hx3, hv3⟩
  have HX3 := Lib.hid (show TxAt w3 A3 T3.l from hx3)
  have HV3 := Lib.hid (HVb.out.trans (hv3.mono HVb.out.size))
  have HK3 := Lib.hid (HKb.out.below hv3)
  clear hx3 hv3 HB3 HKb HXb HVb r0 r1
  have r0 := HK3.out.r_0
  have r1 := HK3.out.r_1
  have f0 := HK3.out.fr 0
  have f1 := HK3.out.fr 1
  go_upto_region 4 with fail
  have HKc := Lib.hid (HK3.out.two (.slice A3 3 k3) (.int .i64 3))
  have HXc := Lib.hid (tx_put HX3.out HK3.out (.slice A3 3 k3) (.int .i64 3))
  have HVc := Lib.hid (HV3.out.trans ((Turn.two (W := w3) g (.slice A3 3 k3) (.int .i64 3)).below (B := w.heap.size) (fun q h => by have := HG.out; omega) HV3.out.size))
  generalize (w3.setCell ⟨g, 0, none⟩ (.slice A3 3 k3)).setCell ⟨g, 1, none⟩ (.int .i64 3) = wc at *
  clear HK3 HX3 HV3 r0 r1 f0 f1
  go_upto_region 5 with fail
  obtain ⟨gc, hgc⟩ : ∃ gc, gc = wc.heap.size := ⟨_, rfl⟩
  obtain ⟨wd, hwd⟩ : ∃ wd, wd = (wc.alloc (.cells #[.int .i64 0, .int .i64 10, .int .i64 5] 67)).alloc (.cells (tbC (some ⟨gc, 0, none⟩) 1 1 none 0 0) 34) := ⟨_, rfl⟩
  obtain ⟨gt, hgt⟩ : ∃ gt, gt = wc.heap.size + 1 := ⟨_, rfl⟩
  have hbd : Below wc.heap.size wc wd := by rw [hwd]; exact below_two (below_new _ _) (below_new _ _)
  have HKd := Lib.hid (HKc.out.below hbd)
  have HXd := Lib.hid (HXc.out.below hbd)
  have HVd := Lib.hid (HVc.out.trans (hbd.mono HVc.out.size))
  have HGd := Lib.hid (show Bk wd gt (tbC (some ⟨gc, 0, none⟩) 1 1 none 0 0) 34 by
    rw [hwd, hgt]
    have h := Bk.new (wc.alloc (.cells #[.int .i64 0, .int .i64 10, .int .i64 5] 67)) (tbC (some ⟨gc, 0, none⟩) 1 1 none 0 0) 34
    rw [size_al] at h; exact h)
  have HTd := Lib.hid (show TbO wd (some ⟨gc, 0, none⟩) 1 1 none 0 0 tA from by
    refine ⟨⟨rfl, rfl, ?_, (fun p hp => by cases hp), ?_, .inl rfl⟩, Nat.le_refl _, .inr (.inr ⟨_, _, rfl⟩), Nat.le_refl _, .inl rfl, fun g o e => by cases e⟩
    · intro c hc
      have : c = ⟨0, 10, 5⟩ := by simpa [tA] using hc
      subst this; exact ⟨by decide, by decide, by decide⟩
    · rw [hwd, hgc]
      exact (Rk.At.new rc_oko wc (⟨0, 10, 5⟩ : Ct) 67).below (below_new _ _))
  have HNE := Lib.hid (show g ≠ gt ∧ w.heap.size ≤ gt by have h1 := HKc.out.lt; have h2 := HVc.out.size; omega)
  have hgt2 : gt = gc + 1 := by rw [hgt, hgc]
  rw [← hgc, ← hgt2, ← hwd]
  clear hgc hwd hgt hgt2 hbd HKc HXc HVc
  have r0 := HKd.out.r_0
  have r1 := HKd.out.r_1
  have t0 := HGd.out.t0
  have t1 := HGd.out.t1
  go_wp2_with fail
  refine (HA.out (some ⟨gc, 0, none⟩) 1 1 (none) 0 0 A3 k3 wd HTd.out (tr_rows HXd.out good3 (by decide) rfl)).mono ?_
  rintro e w5 ⟨A5, n5, a5, B5, m5, b5, rfl, ht5, hv5⟩
  have HK5 := Lib.hid (HKd.out.below hv5)
  have HX5 := Lib.hid (HXd.out.below hv5)
  have HV5 := Lib.hid (HVd.out.trans (hv5.mono HVd.out.size))
  have HG5 := Lib.hid (HGd.out.below hv5)
  obtain rfl : n5 = 1 := ht5.tb.cl.symm
  obtain rfl : m5 = 1 := ht5.tb.pl.symm
  have HT5 := Lib.hid ht5
  clear ht5 hv5 HA HKd HXd HVd HGd HTd r0 r1 t0 t1
  have t0 := HG5.out.t0
  have t1 := HG5.out.t1
  have f0 := HG5.out.fr 0
  have f1 := HG5.out.fr 1
  go_upto_region 6 with fail
  have HGe := Lib.hid (HG5.out.two (.slice A5 1 a5) (.slice B5 1 b5))
  have HTe := Lib.hid (HT5.out.put HG5.out (.slice A5 1 a5) (.slice B5 1 b5))
  have hT := Turn.two (W := w5) gt (.slice A5 1 a5) (.slice B5 1 b5)
  have HKe := Lib.hid (HK5.out.turn hT HNE.out.1)
  have HXe := Lib.hid (HX5.out.turn hT (tx_far HX5.out HG5.out))
  have HVe := Lib.hid (HV5.out.trans (hT.below (B := w.heap.size) (fun q h => by have := HNE.out.2; omega) HV5.out.size))
  generalize (w5.setCell ⟨gt, 0, none⟩ (.slice A5 1 a5)).setCell ⟨gt, 1, none⟩ (.slice B5 1 b5) = we at *
  clear hT HG5 HT5 HK5 HX5 HV5 t0 t1 f0 f1
  have r0 := HKe.out.r_0
  have r1 := HKe.out.r_1
  have t0 := HGe.out.t0
  have t1 := HGe.out.t1
  go_wp2_with fail
  refine (HBB.out (A5) 1 a5 (B5) 1 b5 A3 k3 we HTe.out (tr_rows HXe.out good3 (by decide) rfl)).mono ?_
  rintro e w6 ⟨A6, n6, a6, B6, m6, b6, rfl, ht6, hv6⟩
  have HK6 := Lib.hid (HKe.out.below hv6)
  have HX6 := Lib.hid (HXe.out.below hv6)
  have HV6 := Lib.hid (HVe.out.trans (hv6.mono HVe.out.size))
  have HG6 := Lib.hid (HGe.out.below hv6)
  obtain rfl : n6 = 1 := ht6.tb.cl.symm
  obtain rfl : m6 = 2 := ht6.tb.pl.symm
  have HT6 := Lib.hid ht6
  clear ht6 hv6 HBB HKe HXe HVe HGe HTe r0 r1 t0 t1
  have t0 := HG6.out.t0
  have t1 := HG6.out.t1
  have f0 := HG6.out.fr 0
  have f1 := HG6.out.fr 1
  go_upto_region 7 with fail
  have HGf := Lib.hid (HG6.out.two (.slice A6 1 a6) (.slice B6 2 b6))
  have HTf := Lib.hid (HT6.out.put HG6.out (.slice A6 1 a6) (.slice B6 2 b6))
  have hT := Turn.two (W := w6) gt (.slice A6 1 a6) (.slice B6 2 b6)
  have HKf := Lib.hid (HK6.out.turn hT HNE.out.1)
  have HXf := Lib.hid (HX6.out.turn hT (tx_far HX6.out HG6.out))
  have HVf := Lib.hid (HV6.out.trans (hT.below (B := w.heap.size) (fun q h => by have := HNE.out.2; omega) HV6.out.size))
  generalize (w6.setCell ⟨gt, 0, none⟩ (.slice A6 1 a6)).setCell ⟨gt, 1, none⟩ (.slice B6 2 b6) = wf at *
  clear hT HG6 HT6 HK6 HX6 HV6 t0 t1 f0 f1
  have r0 := HKf.out.r_0
  have r1 := HKf.out.r_1
  have t0 := HGf.out.t0
  have t1 := HGf.out.t1
  go_wp2_with fail
  refine (HCC.out (A6) 1 a6 (B6) 2 b6 A3 k3 wf HTf.out (tr_rows HXf.out good3 (by decide) rfl)).mono ?_
  rintro e w7 ⟨A7, n7, a7, B7, m7, b7, rfl, ht7, hv7⟩
  have HK7 := Lib.hid (HKf.out.below hv7)
  have HX7 := Lib.hid (HXf.out.below hv7)
  have HV7 := Lib.hid (HVf.out.trans (hv7.mono HVf.out.size))
  have HG7 := Lib.hid (HGf.out.below hv7)
  have HT7 := Lib.hid (HTf.out.below hv7)
  clear ht7 hv7 HCC HKf HXf HVf HGf HTf r0 r1 t0 t1
  go_upto_region 8 with fail
  have hb8 := below_new w7 (.cells (tbC A7 n7 a7 B7 m7 b7) 34)
  have HKg := Lib.hid (HK7.out.below hb8)
  have HXg := Lib.hid (HX7.out.below hb8)
  have HVg := Lib.hid (HV7.out.trans (hb8.mono HV7.out.size))
  have HGg := Lib.hid (HG7.out.below hb8)
  have HTg := Lib.hid (HT7.out.below hb8)
  generalize w7.alloc (.cells (tbC A7 n7 a7 B7 m7 b7) 34) = wg at *
  clear hb8 HK7 HX7 HV7 HG7 HT7
  have r0 := HKg.out.r_0
  have r1 := HKg.out.r_1
  have t0 := HGg.out.t0
  have t1 := HGg.out.t1
  go_wp2_with fail
  refine (HDD.out (A6) 1 a6 (B6) 2 b6 A3 k3 wg HTg.out (tr_rows HXg.out good3 (by decide) rfl)).mono ?_
  rintro e w8 ⟨A8, n8, a8, B8, m8, b8, rfl, ht8, hv8⟩
  have HK8 := Lib.hid (HKg.out.below hv8)
  have HX8 := Lib.hid (HXg.out.below hv8)
  have HV8 := Lib.hid (HVg.out.trans (hv8.mono HVg.out.size))
  have HG8 := Lib.hid (HGg.out.below hv8)
  have HT8 := Lib.hid (HTg.out.below hv8)
  clear ht8 hv8 HDD HKg HXg HVg HGg HTg r0 r1 t0 t1
  have t1 := (HG8.out.below (below_new w8 (.cells (tbC A8 n8 a8 B8 m8 b8) 34))).t1
  have HV9 := Lib.hid (HV8.out.trans ((below_new w8 (.cells (tbC A8 n8 a8 B8 m8 b8) 34)).mono HV8.out.size))
  go_wp2_with fail
  go_ret
  exact ⟨rfl, HV9.out⟩
end Go.Proofs.Ytogngghfdcpeaaa
