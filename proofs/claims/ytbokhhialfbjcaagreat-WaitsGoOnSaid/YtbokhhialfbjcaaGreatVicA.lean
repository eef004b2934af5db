/-
  Victim: the last of those that are stuck.
-/
import Derived.Test.YtbokhhialfbjcaaGreatStk11
import Derived.Test.YtbokhhialfbjcaaGreatWnA
import Derived.Test.YtbokhhialfbjcaaGreatAdd11
import Derived.Test.YtbokhhialfbjcaaGreatDrop11
import Derived.Test.YtbokhhialfbjcaaGreatRdy11
import Derived.Test.YtbokhhialfbjcaaGreatStateA
namespace Go.Proofs.YtbokhhialfbjcaaGreat
set_option maxRecDepth 100000
set_option linter.unusedVariables false
set_option linter.unusedSimpArgs false
open Go.RowKit Go.Shelf Go.Sort Go.Maps

set_option maxHeartbeats 2000000 in
theorem victim_any (Aq : Option Addr) (Q : List Wn) (nq kq : Nat) (A : Option Addr) (L : List Lk) (na ka : Nat) (Ax : Option Addr) (T : Tr) (N cap : Nat) (c : Int)
    (hQ : SQ Q) (hnq : Q.length = nq) (hL : LG L) (hna : L.length = na) (hnka : na ≤ ka) (hG : Good T) (hN : T.l.length = N) (w : World) (hrq : RW.At w Aq Q) (hrt : LkAt w A L) (hrx : TxAt w Ax T.l) :
    Calls Tryz.prog 10 #[.agg #[.slice Aq nq kq], .agg #[.slice A na ka], .agg #[.slice Ax N cap, .int .i64 c]] w fun e w' => e = .returned (.int .i64 (vicI T (edgL T L Q))) ∧ Below w.heap.size w w' := by
  obtain ⟨w1, hw1⟩ : ∃ w1, w1 = ((w.alloc (.cells #[.slice Aq nq kq] 28)).alloc (.cells #[.slice A na ka] 34)).alloc (.cells #[.slice Ax N cap, .int .i64 c] 31) := ⟨_, rfl⟩
  have b1 : Below w.heap.size w w1 := by rw [hw1]; exact below_two (below_two (below_new _ _) (below_new _ _)) (below_new _ _)
  have HST := Lib.hid (stuck_any Aq Q nq kq A L na ka Ax T N cap c hQ hnq hL hna hnka hG hN w1 (hrq.below b1) (hrt.below b1) (hrx.below b1))
  have HB1 := Lib.hid b1
  obtain ⟨l, hl⟩ : ∃ l, l = stuckL T (edgL T L Q) := ⟨_, rfl⟩
  have hlen : l.length ≤ N := by
    rw [hl, ← hN]
    unfold stuckL stuckN
    refine Nat.le_trans (List.length_filter_le _ _) ?_
    simp
  have hN64 : N ≤ 64 := by have := hG.n; omega
  have HV := Lib.hid (show vicI T (edgL T L Q) = match l.getLast? with | some x => (x : Int) | none => -1 by rw [hl]; rfl)
  rw [← hl] at HST
  obtain ⟨z, hz⟩ : ∃ z, z = vicI T (edgL T L Q) := ⟨_, rfl⟩
  rw [← hz] at HV ⊢
  clear hQ hnq hL hna hnka hG hN hrq hrt hrx b1 hl hz
  go_enter Tryz.func10, Tryz.ntmps10
  go_wp2_with fail
  rw [← hw1]
  clear hw1
  refine HST.out.mono ?_
  rintro e w2 ⟨A2, c2, rfl, hc2, hat2, hsp2, hb2⟩
  have HB2 := Lib.hid (HB1.out.trans (hb2.mono HB1.out.size))
  obtain ⟨m, hm⟩ : ∃ m, m = l.length := ⟨_, rfl⟩
  rw [← hm]
  cases l with
  | nil =>
    have hm0 : m = 0 := hm
    subst hm0
    have hz := HV.out
    have hz1 : z = -1 := hz
    subst hz1
    clear hc2 hat2 hsp2 hb2 hm hlen HST HV hz
    go_wp2_with fail
    go_ret
    exact ⟨rfl, HB2.out⟩
  | cons y r =>
    have hm1 : m = r.length + 1 := hm
    obtain ⟨x, hx⟩ : ∃ x, (y :: r)[m - 1]? = some x := ⟨_, List.getElem?_eq_getElem (by rw [hm1]; simp)⟩
    have hz : z = (x : Int) := by
      have h := HV.out
      rw [List.getLast?_eq_getElem?] at h
      rw [show (y :: r).length - 1 = m - 1 by rw [hm1]; simp, hx] at h
      exact h
    obtain ⟨b, o, hA, hb, hc⟩ := RI_cell hat2 hx
    obtain ⟨k, rfl⟩ : ∃ k, m = k + 1 := ⟨r.length, hm1⟩
    have hk64 : k + 1 ≤ 64 := by rw [hm]; omega
    rw [Nat.add_sub_cancel] at hc
    subst hA
    subst hz
    clear hc2 hat2 hsp2 hb2 hm hm1 hlen HST HV hx hb
    go_wp2_with fail
    go_ret
    exact ⟨rfl, HB2.out⟩
end Go.Proofs.YtbokhhialfbjcaaGreat

namespace Go.Proofs.YtbokhhialfbjcaaGreat
set_option maxRecDepth 100000
set_option linter.unusedVariables false
set_option linter.unusedSimpArgs false
open Go.RowKit Go.Shelf Go.Sort

/-- a queue as a walk holds it -/
structure Qp (W : World) (g : Nat) (A : Option Addr) (n k : Nat) (Q : List Wn) : Prop where
  t : Qb W g A n k
  x : RW.At W A Q
  hn : Q.length = n
  hk : n ≤ k
  s : Sp A
/-- rows of ints lie in no block whose first cell is a slice, and that has two cells at most -/
theorem RW_off {W : World} {A : Option Addr} {Q : List Wn} {g : Nat} {cs : Array Value} {t : TypeId} (h : RW.At W A Q) (hk : Bk W g cs t) {A' : Option Addr} {n k : Nat} (h0 : cs[0]? = some (.slice A' n k)) (hs : cs.size ≤ 2) : ∀ b o, A = some ⟨b, o, none⟩ → Q = [] ∨ b ≠ g := by
  intro b o e
  cases Q with
  | nil => exact .inl rfl
  | cons y r =>
    refine .inr fun hb => ?_
    obtain ⟨b', o', e', _, hc⟩ := h.get rw_ok (i := 0) (x := y) rfl
    rw [e] at e'
    injection e' with e'
    injection e' with e1 e2
    subst e1; subst e2
    have c0 := hc 0 _ rfl
    have c2 := hc 2 _ rfl
    rw [hb] at c0 c2
    have d : ∀ j, W.cell? ⟨g, j, none⟩ = cs[j]? := fun j => cell_of_row _ _ _ _ _ _ hk
    rw [d] at c0 c2
    have h2 := (Array.getElem?_eq_some_iff.1 c2).1
    have ho : o = 0 := by omega
    subst ho
    rw [show 0 + (0 * RW.m + 0) = 0 by simp, h0] at c0
    cases c0
theorem RW_store {W V : World} {A : Option Addr} {Q : List Wn} {g : Nat} {cs : Array Value} {t : TypeId} (h : RW.At W A Q) (hk : Bk W g cs t) {A' : Option Addr} {n k : Nat} (h0 : cs[0]? = some (.slice A' n k)) (hs : cs.size ≤ 2) (hg : W.grownBy V (some g)) : RW.At V A Q :=
  h.turn (S := fun j => j = g) ((Turn.refl _ W).grown hg (fun j e => by injection e with e; exact .inl e.symm)) (fun b o e => (RW_off h hk h0 hs b o e).imp id fun h h2 => h h2)

section
variable {W V : World} {g h : Nat} {A B : Option Addr} {n k m kb : Nat} {c : Int} {T : Tr} {L : List Lk} {Q : List Wn}
theorem Qp.below (s : Qp W g A n k Q) (hb : Below W.heap.size W V) : Qp V g A n k Q := ⟨s.t.below hb, s.x.below hb, s.hn, s.hk, s.s⟩
theorem Qp.farK (s : Qp W g A n k Q) (hb : KB W h B m kb) (hg : W.grownBy V (some h)) (hne : g ≠ h) : Qp V g A n k Q := ⟨s.t.far hg (fun e => by injection e with e; exact hne e), RW_store s.x hb rfl (by simp) hg, s.hn, s.hk, s.s⟩
theorem Qp.farT (s : Qp W g A n k Q) (hb : TB W h B m kb c) (hg : W.grownBy V (some h)) (hne : g ≠ h) : Qp V g A n k Q := ⟨s.t.far hg (fun e => by injection e with e; exact hne e), RW_store s.x hb rfl (by simp) hg, s.hn, s.hk, s.s⟩
theorem Qp.farQ (s : Qp W g A n k Q) (hb : Qb W h B m kb) (hg : W.grownBy V (some h)) (hne : g ≠ h) : Qp V g A n k Q := ⟨s.t.far hg (fun e => by injection e with e; exact hne e), RW_store s.x hb rfl (by simp) hg, s.hn, s.hk, s.s⟩
theorem Tp.farQ (s : Tp W g A n k c T) (hb : Qb W h B m kb) (hg : W.grownBy V (some h)) (hne : g ≠ h) : Tp V g A n k c T :=
  ⟨s.t.far hg (fun e => by injection e with e; exact hne e), s.x.turn (S := fun j => j = h) ((Turn.refl _ W).grown hg (fun j e => by injection e with e; exact .inl e.symm)) (fun b o e => (s.x.off (hb.c 0 _ rfl) b o e).imp id fun h h2 => h h2), s.hn, s.hc⟩
theorem Lp.farQ (s : Lp W g A n k L) (hb : Qb W h B m kb) (hg : W.grownBy V (some h)) (hne : g ≠ h) : Lp V g A n k L :=
  ⟨s.t.far hg (fun e => by injection e with e; exact hne e), s.x.box0 (hb.c 0 _ rfl) (fun o y h0 hc => by
    have h1 := hc.1
    rw [show W.cell? ⟨h, o, none⟩ = (#[Value.slice B m kb] : Array Value)[o]? from cell_of_row _ _ _ _ _ _ hb] at h1
    have h2 := (Array.getElem?_eq_some_iff.1 h1).1
    simp at h2
    omega) hg, s.hn, s.hk, s.s⟩
end

/-- a top one begins -/
theorem top_any (A : Option Addr) (T : Tr) (i k : Nat) (w : World) (hT : Tops T i) (hi : i ≤ 60) (hx : TxAt w A T.l) :
    Calls Tryz.prog 13 #[.agg #[.slice A i k, .int .i64 (i : Int)], .int .i64 (-1)] w fun e w' => ∃ A' k', e = .returned (.tuple #[.agg #[.slice A' (i + 1) k', .int .i64 ((i : Int) + 1)], .int .i64 (i : Int), .int .i64 0]) ∧ TxAt w' A' (T.begun (-1)).l ∧ Below w.heap.size w w' := by
  refine (begin_any A T i k i (-1) hT.n hT.good hT.c (by omega) w hx).mono ?_
  rintro e w1 ⟨hb, ⟨_, A1, k1, n1, hn1, rfl, htx⟩ | ⟨_, _, hno, _⟩⟩
  · subst hn1
    refine ⟨A1, k1, ?_, htx, hb⟩
    rw [hT.n]
    have e2 : (T.begun (-1)).l.length = i + 1 := by rw [len_begun, hT.n]
    have e3 : (T.begun (-1)).c = (i : Int) + 1 := by show T.c + 1 = _; rw [hT.c]
    simp only [e2, e3]
  · exact absurd (hT.may hi) hno
/-- a want is added -/
theorem addq_any (A : Option Addr) (Q : List Wn) (n k : Nat) (w : World) (hn : Q.length = n) (hnk : n ≤ k) (hA : Sp A) (hq : SQ Q) (y : Wn) (hy : MayW y) (ho : addE Q y = 0) (hQ : RW.At w A Q) :
    Calls Tryz.prog 15 #[.agg #[.slice A n k], .agg #[.int .i64 (y.x : Int), .int .i64 y.b, .int .i64 y.m]] w fun e w' => ∃ A' k', e = .returned (.tuple #[.agg #[.slice A' (n + 1) k'], .int .i64 0]) ∧ n + 1 ≤ k' ∧ Sp A' ∧ RW.At w' A' (Q ++ [y]) ∧ Below w.heap.size w w' := by
  refine (add_any A Q n k hn hnk hq hA y hy w hQ).mono ?_
  rintro e w' ⟨A', n', k', rfl, hown, hb⟩
  have e1 : addL Q y = Q ++ [y] := by unfold addL; rw [if_pos ho]
  rw [e1] at hown
  obtain ⟨A2, c2, e2, h2, h3, h4⟩ := Rk.Own.form rw_ok hown
  injection e2 with e3 e4 e5
  subst e3; subst e5
  have e6 : n' = n + 1 := by rw [e4, List.length_append, hn]; rfl
  subst e6
  rw [ho]
  exact ⟨A', k', rfl, by rw [← e4] at h2; exact h2, h4.imp id (fun ⟨g, e, _⟩ => ⟨g, 0, e⟩), h3, hb⟩
/-- a lock is granted -/
theorem askt_any (A : Option Addr) (L : List Lk) (n k : Nat) (Ax : Option Addr) (T : Tr) (N cap : Nat) (c : Int) (tx b md : Int) (w : World) (hn : L.length = n) (hnk : n ≤ k) (hA : Sp A) (hl : LG L) (hN : T.l.length = N) (hG : Good T) (hb : 0 ≤ b ∧ b ≤ 255) (hmd : md = 1 ∨ md = 2) (ho : askE T L tx b md = 0) (m : Nat) (hm : (ins L ⟨b, tx, md, 0⟩).length = m) (hL : LkAt w A L) (hT : TxAt w Ax T.l) :
    Calls Tryz.prog 14 #[.agg #[.slice A n k], .agg #[.slice Ax N cap, .int .i64 c], .int .i64 tx, .int .i64 b, .int .i64 md] w fun e w' => ∃ A' k', e = .returned (.tuple #[.agg #[.slice A' m k'], .int .i64 0]) ∧ m ≤ k' ∧ Sp A' ∧ LkAt w' A' (ins L ⟨b, tx, md, 0⟩) ∧ Below w.heap.size w w' := by
  refine (ask_any A L n k hn hnk hA hl Ax T N cap c hN hG tx b md hb hmd w hL hT).mono ?_
  rintro e w1 ⟨A1, n1, k1, rfl, hown, hb1⟩
  have e1 : askL T L tx b md = ins L ⟨b, tx, md, 0⟩ := by unfold askL; rw [if_pos ho]
  rw [e1] at hown
  obtain ⟨h1, h2, h3, h4⟩ := hown.parts
  have : n1 = m := by rw [← hm, h1]
  subst this
  rw [ho]
  exact ⟨A1, k1, rfl, h2, h3, h4, hb1⟩
end Go.Proofs.YtbokhhialfbjcaaGreat
