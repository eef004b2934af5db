/-
  Transactions of which the odd ones stand in the first; who stands in whom.
-/
import Derived.Test.YtpphhhalmccnbaaQp
namespace Go.Proofs.Ytpphhhalmccnbaa
set_option maxRecDepth 100000
set_option linter.unusedVariables false
set_option linter.unusedSimpArgs false
open Go.RowKit

def alP (i : Nat) : Int := if i % 2 = 0 then -1 else 0
def alT : Nat → Tr
  | 0 => ⟨[], 0⟩
  | i + 1 => (alT i).begun (alP i)
theorem alT_len : ∀ i, (alT i).l.length = i
  | 0 => rfl
  | i + 1 => by unfold alT; rw [len_begun, alT_len i]
theorem alT_c : ∀ i, (alT i).c = (i : Int)
  | 0 => rfl
  | i + 1 => by unfold alT Tr.begun; simp only; rw [alT_c i]; omega
theorem alT_tx : ∀ (i j : Nat), j < i → ((alT i).tx j).p = alP j ∧ ((alT i).tx j).s = 1
  | 0, j, h => by omega
  | i + 1, j, h => by
    unfold alT
    rcases Nat.lt_or_ge j i with h1 | h1
    · rw [tx_begun (by rw [alT_len]; exact h1)]; exact alT_tx i j h1
    · obtain rfl : j = i := by omega
      have := tx_begun_new (T := alT j) (p := alP j)
      rw [alT_len] at this
      rw [this]; exact ⟨rfl, rfl⟩
theorem alT_may (i : Nat) (h : i < 8) : MayBegin (alT i) (alP i) := by
  rcases Nat.mod_two_eq_zero_or_one i with h2 | h2
  · have hp : alP i = -1 := by unfold alP; rw [if_pos h2]
    refine ⟨.inl hp, by rw [alT_len]; omega, ?_⟩
    rw [hp, Tr.way_none (.inl (by omega))]; simp
  · have hp : alP i = 0 := by unfold alP; rw [if_neg (by omega)]
    have hi : 0 < i := by omega
    refine ⟨.inr ⟨0, by rw [hp]; rfl, by rw [alT_len]; exact hi, (alT_tx i 0 hi).2⟩, by rw [alT_len]; omega, ?_⟩
    rw [hp, show (0 : Int) = ((0 : Nat) : Int) from rfl, Tr.way_nat (by rw [alT_len]; exact hi), wayN_top (by unfold Tr.par; rw [(alT_tx i 0 hi).1]; decide)]; simp
theorem alT_good : ∀ i, i ≤ 8 → Good (alT i)
  | 0, _ => good_nil
  | i + 1, h => by unfold alT; exact (alT_good i (by omega)).begun (alT_may i (by omega))

/-! ### who stands in whom -/
theorem isB_al (k : Nat) (i : Int) : (alT k).isB i = decide (0 ≤ i ∧ i < (k : Int)) := by unfold Tr.isB; rw [alT_len]
theorem way_top {k f : Nat} : wayR (alT k) f (-1) = [] := by
  cases f with
  | zero => rfl
  | succ f => unfold wayR; rw [isB_al, if_neg (by simp)]
theorem way_first {k f : Nat} (hk : 0 < k) : wayR (alT k) (f + 1) 0 = [0] := by
  unfold wayR
  rw [isB_al, if_pos (by simpa using hk)]
  have := (alT_tx k 0 hk).1
  rw [show (0 : Int).toNat = 0 from rfl, this, show alP 0 = -1 from rfl, way_top]
theorem way_al {k : Nat} {t : Nat} (h : t < k) : wayR (alT k) ((alT k).l.length + 1) (t : Int) = if t % 2 = 0 then [(t : Int)] else [(t : Int), 0] := by
  rw [alT_len]
  unfold wayR
  rw [isB_al, if_pos (by simp; omega), Int.toNat_natCast, (alT_tx k t h).1]
  rcases Nat.mod_two_eq_zero_or_one t with h2 | h2
  · rw [if_pos h2, show alP t = -1 from by unfold alP; rw [if_pos h2], way_top]
  · rw [if_neg (by omega), show alP t = 0 from by unfold alP; rw [if_neg (by omega)]]
    obtain ⟨m, rfl⟩ : ∃ m, k = m + 1 := ⟨k - 1, by omega⟩
    rw [way_first (by omega)]
theorem stands_off {k : Nat} {t of : Int} (h : ¬ (0 ≤ t ∧ t < (k : Int))) : standsR (alT k) t of = false := by
  unfold standsR wayR
  rw [isB_al, if_neg (by simpa using h)]; simp
theorem stands_up {k : Nat} {t : Int} : standsR (alT k) t (-1) = false := by
  unfold standsR
  rw [decide_eq_false_iff_not]
  intro h
  have := wayR_known h
  rw [isB_al] at this
  simp at this
theorem stands_last {k : Nat} (hk : 1 < k) (t : Int) : standsR (alT k) t ((k : Int) - 1) = decide (t = (k : Int) - 1) := by
  by_cases h : 0 ≤ t ∧ t < (k : Int)
  · obtain ⟨j, rfl⟩ := Int.eq_ofNat_of_zero_le h.1
    unfold standsR
    rw [way_al (by omega)]
    rw [Bool.eq_iff_iff, decide_eq_true_eq, decide_eq_true_eq]
    split
    · simp; omega
    · simp; omega
  · rw [stands_off h]
    symm; rw [decide_eq_false_iff_not]; omega
theorem stands_lt {k : Nat} {t of : Int} (h : standsR (alT k) t of = true) : t < (k : Int) := by
  by_cases h2 : 0 ≤ t ∧ t < (k : Int)
  · exact h2.2
  · rw [stands_off h2] at h; cases h

/-! ### sums of lengths -/
def alF (P : List Pe) (W : Int → Bool) (t : Nat) : Int := if W (t : Int) then ((openT P (t : Int)).length : Int) else 0
def alS (P : List Pe) (W : Int → Bool) (n : Nat) : Int := sumI ((List.range n).map (alF P W))
theorem alS_succ (P : List Pe) (W : Int → Bool) (n : Nat) : alS P W (n + 1) = alS P W n + alF P W n := by
  unfold alS; rw [List.range_succ, List.map_append, sumI_append]; simp [sumI_cons, sumI_nil]
theorem alS_bd {l : List En} {P : List Pe} (h : GroO l P) (W : Int → Bool) : ∀ n, 0 ≤ alS P W n ∧ alS P W n ≤ 256 * n
  | 0 => ⟨Int.le_refl _, Int.le_refl _⟩
  | n + 1 => by
    have h1 := alS_bd h W n
    rw [alS_succ]
    have h2 := openT_few h.sa.fit (t := (n : Int))
    have h3 := h.sa.len
    unfold alF
    split <;> omega

/-! ### in memory -/
theorem begin_al (i : Nat) (hi : i < 8) (D : Option Addr) (d : Nat) (w : World) (h : TxAt w D (alT i).l) :
    Calls Try.prog 28 #[trV D i d (i : Int), .int .i64 (alP i)] w fun r w' => Below w.heap.size w w' ∧ ∃ A d', r = .returned (.tuple #[trV A (i + 1) d' ((i + 1 : Nat) : Int), .int .i64 (i : Int), .int .i64 0]) ∧ TxAt w' A (alT (i + 1)).l := by
  refine (begin_any D (alT i) i d (i : Int) (alP i) (alT_len i) (alT_good i (by omega)) (alT_c i) (by omega) w h).mono ?_
  rintro r w' ⟨hb, ⟨_, A, k, n, hn, rfl, ht, _⟩ | ⟨E, _, ⟨hm, _⟩, _⟩⟩
  · rw [alT_len] at hn
    subst hn
    refine ⟨hb, A, k, ?_, ht⟩
    rw [alT_len, show ((alT i).begun (alP i)).c = ((i + 1 : Nat) : Int) from alT_c (i + 1)]
  · exact absurd (alT_may i hi) hm
/-- transactions in a row, as the elder text has them -/
theorem TxAt.rt {W : World} {A : Option Addr} {l : List Tx} (h : TxAt W A l) : RTo.At W A l := by
  rcases h with ⟨_, h⟩ | ⟨b, e, hb, hc⟩
  · exact .inl h
  · refine .inr ⟨b, 0, e, hb, fun j u hu => ?_⟩
    have hjl : j < l.length * 4 := by
      have := (List.getElem?_eq_some_iff.1 hu).1
      rw [Rk.Ok.length rt_oko] at this
      exact this
    obtain ⟨i, r, hij, hr⟩ : ∃ i r, j = i * 4 + r ∧ r < 4 := ⟨j / 4, j % 4, by omega, by omega⟩
    have hil : i < l.length := by omega
    have hx : l[i]? = some l[i] := List.getElem?_eq_getElem hil
    subst hij
    have h9 : (RTo.enc l[i])[r]? = some u := by
      have := Rk.Ok.at rt_oko l i l[i] r hx hr
      rw [← this]; exact hu
    obtain ⟨g0, g1, g2, g3⟩ := hc i _ hx
    rw [Nat.zero_add]
    match r, hr, h9 with
    | 0, _, h9 => injection h9 with h9; subst h9; exact g0
    | 1, _, h9 => injection h9 with h9; subst h9; exact g1
    | 2, _, h9 => injection h9 with h9; subst h9; exact g2
    | 3, _, h9 => injection h9 with h9; subst h9; exact g3
section
variable {W V : World} {A D : Option Addr} {n N d g : Nat} {c : Int} {ty : TypeId}
theorem tr_cells (D : Option Addr) (N d : Nat) (c : Int) : ∀ j : Nat, ∀ z y : Int, (trC D N d c)[j]? = some (.int .i64 z) → (trC D N d c)[j + 1]? = some (.int .i64 y) → False := by
  intro j z y e1 e2
  match j with
  | 0 => injection e1 with e1; cases e1
  | 1 => cases e2
  | j + 2 => cases e1
theorem EsAt.turnT {l : List En} (h : EsAt REo W A n l) (k : Bk W g (trC D N d c) ty) (ht : Turn (fun q => q = g) W V) : EsAt REo V A n l := by
  refine ⟨h.len, h.ok, h.at'.turn ht fun q o e => ?_⟩
  rcases Nat.eq_zero_or_pos n with h0 | h0
  · exact .inl (List.eq_nil_of_length_eq_zero (by rw [h.len]; exact h0))
  · obtain ⟨b, o2, e2, _, _, _, h1, h2, _⟩ := h.eo h0
    rw [e] at e2; injection e2 with e2; injection e2 with e2 e3
    refine .inr fun h3 => tr_cells D N d c (o2 + 0 * 4) (l.getD 0 enD).t (l.getD 0 enD).c ?_ ?_
    · rw [← h1, ← e2, h3]
      exact (cell_of_row _ _ _ _ _ _ k).symm
    · rw [← h2, ← e2, h3]
      exact (cell_of_row _ _ _ _ _ _ k).symm
theorem TxAt.turnT {l : List Tx} (h : TxAt W A l) (k : Bk W g (trC D N d c) ty) (ht : Turn (fun q => q = g) W V) : TxAt V A l := by
  refine h.turn ht fun b o e => ?_
  cases l with
  | nil => exact .inl rfl
  | cons x l =>
    rcases h with ⟨_, h⟩ | ⟨b2, e2, _, hc⟩
    · cases h
    · rw [e] at e2; injection e2 with e2; injection e2 with e2 e3
      refine .inr fun h3 => ?_
      obtain ⟨h1, _⟩ := hc 0 x rfl
      have hk := k.c 0 _ rfl
      rw [← e2, h3] at h1
      have h4 : W.cell? ⟨g, 0, none⟩ = some (.int .i64 x.p) := h1
      rw [hk] at h4
      cases h4
/-- both cells of a variable of trees -/
theorem Bk.putT (h : Bk W g (trC D N d c) ty) (D2 : Option Addr) (N2 d2 : Nat) (c2 : Int) : Bk ((W.setCell ⟨g, 0, none⟩ (.slice D2 N2 d2)).setCell ⟨g, 1, none⟩ (.int .i64 c2)) g (trC D2 N2 d2 c2) ty := by
  have h1 := heap_setCell_same W g 0 _ ty (.slice D2 N2 d2) h
  have h2 := heap_setCell_same _ g 1 _ ty (.int .i64 c2) h1
  unfold Bk
  rw [h2]; rfl
theorem turn_putT (W : World) (g : Nat) (x y : Value) : Turn (fun q => q = g) W ((W.setCell ⟨g, 0, none⟩ x).setCell ⟨g, 1, none⟩ y) := ((Turn.refl (fun q => q = g) W).setCell ⟨g, 0, none⟩ x (.inl rfl)).setCell ⟨g, 1, none⟩ y (.inl rfl)
end
/-- what Ops answers, as a slice -/
theorem ops2_any (A : Option Addr) (n a : Nat) (l : List En) (P : List Pe) (D : Option Addr) (d k : Nat) (of : Int) (hG : GroO l P) (hk : k ≤ 8) (w : World) (hl : EsAt REo w A n l) (ht : TxAt w D (alT k).l) (m : Nat) (hm : (pickO (fun e => standsR (alT k) e.t of) P).length = m) :
    Calls Try.prog 23 #[liV A n a, trV D k d (k : Int), .int .i64 of] w fun r w' => Below w.heap.size w w' ∧ ∃ A' c', r = .returned (.slice A' m c') ∧ RQ.At w' A' (opsO (pickO (fun e => standsR (alT k) e.t of) P)) := by
  refine (ops_any A n a l P D k d (alT k) (k : Int) of hG.sa.op hG.sa.may (by have h1 := hG.sa.len; have h2 := hl.len; omega) (alT_len k) (by omega) w hl ht.rt).mono ?_
  rintro r w' ⟨v, rfl, ho, hb⟩
  obtain ⟨A', c', rfl⟩ := own_slice rq_ok ho (n := m) (by rw [opsO_len]; exact hm)
  exact ⟨hb, A', c', rfl, ho.at_ rq_ok⟩
end Go.Proofs.Ytpphhhalmccnbaa

namespace Go.Proofs.Ytpphhhalmccnbaa
set_option maxRecDepth 100000
set_option linter.unusedVariables false
set_option linter.unusedSimpArgs false
open Go.RowKit

theorem al_and (i : Nat) : ∃ b : Int, bits .and .i64 (i : Int) 1 = b ∧ IntKind.i64.wrap (b - 1) = alP i := by
  refine ⟨(i : Int) % ((2 ^ 1 : Nat) : Int), and_mask (i : Int) 1 1 (by decide) (by decide), ?_⟩
  rw [IntKind.wrap_i64]
  unfold alP
  split <;> omega

theorem Lv.turnT {W V : World} {g gt : Nat} {A D : Option Addr} {n a N d : Nat} {c : Int} {l : List En} {ty : TypeId} (h : Lv W g A n a l) (k : Bk W gt (trC D N d c) ty) (ht : Turn (fun q => q = gt) W V) (hne : g ≠ gt) : Lv V g A n a l :=
  ⟨h.bk.turn ht hne, h.es.turnT k ht, h.sp, h.na⟩
/-- an op's cells -/
theorem rq_get {W : World} {A : Option Addr} {L : List En} {m q : Nat} (h : RQ.At W A (opsO L)) (hm : L.length = m) (hq : q < m) : ∃ b o, A = some ⟨b, o, none⟩ ∧ b < W.heap.size ∧ W.cell? ⟨b, o + q * 2, none⟩ = some (.int .i64 (L.getD q enD).c) ∧ W.cell? ⟨b, o + q * 2 + 1, none⟩ = some (.int .i64 (L.getD q enD).b) := by
  have hl : q < L.length := by rw [hm]; exact hq
  have hx : (opsO L)[q]? = some ((L.getD q enD).c, (L.getD q enD).b) := by unfold opsO; rw [List.getElem?_map, List.getD_eq_getElem?_getD, List.getElem?_eq_getElem hl]; rfl
  obtain ⟨b, o, e, hb, hc⟩ := h.get rq_ok hx
  exact ⟨b, o, e, hb, hc 0 _ rfl, hc 1 _ rfl⟩
theorem stands_pick {k : Nat} (hk : 1 < k) (P : List Pe) : pickO (fun e => standsR (alT k) e.t ((k : Int) - 1)) P = openT P ((k : Int) - 1) := by
  rw [openT_pick]
  exact pickO_congr (fun e => stands_last hk e.t) P
theorem stands_no {k : Nat} (P : List Pe) : pickO (fun e => standsR (alT k) e.t (-1)) P = [] := by
  unfold pickO
  rw [List.map_eq_nil_iff, List.filter_eq_nil_iff]
  intro p _
  show ¬ standsR (alT k) p.2.t (-1) = true
  rw [stands_up]; simp
set_option maxHeartbeats 4000000 in
theorem ops_walk (a0 : Option Addr) (len0 cap0 : Nat) (q0 : Nat → Ac) (a1 : Int) (w : World) (hacts : Acts w a0 len0 q0) :
    Calls Try.prog 6 #[.slice a0 len0 cap0, .int .i64 a1] w fun e w' => e = .returned (.bool true) ∧ Below w.heap.size w w' := by
  have HAC := Lib.hid hacts
  clear hacts
  obtain ⟨y, hy, e1⟩ := low a1 7 3 (by decide) (by decide)
  have HY := Lib.hid hy
  clear hy
  go_enter Try.func6, Try.ntmps6
  go_wp2_with fail
  refine (awake_any w).mono ?_
  rintro r w1 ⟨rfl, hb1⟩
  have HB1 := Lib.hid hb1
  clear hb1
  rcases Nat.lt_or_ge 200 len0 with h0 | h0
  · have hd : decide ((len0 : Int) > 200) = true := decide_eq_true (by omega)
    have hd2 : decide ((200 : Int) < (len0 : Int)) = true := decide_eq_true (by omega)
    have hd3 : decide (200 < len0) = true := decide_eq_true (by omega)
    go_wp2_with fail
    go_ret
    exact ⟨rfl, HB1.out⟩
  · have hd : decide ((len0 : Int) > 200) = false := decide_eq_false (by omega)
    have hd2 : decide ((200 : Int) < (len0 : Int)) = false := decide_eq_false (by omega)
    have hd3 : decide (200 < len0) = false := decide_eq_false (by omega)
    have HGR := Lib.hid (grown_any a0 len0 cap0 q0 h0 w1 (HAC.out.below HB1.out))
    go_wp2_with fail
    refine HGR.out.mono ?_
    rintro r w2 ⟨hb2, A8, n8, c8, l, P, rfl, he8, hG, hs8, hn8⟩
    have HV8 := Lib.hid (Lv.new he8 hs8 hn8)
    have HB2 := Lib.hid ((HB1.out.trans (hb2.mono HB1.out.size)).trans ((below_new w2 (.cells (liC A8 n8 c8) 32)).mono (HB1.out.trans (hb2.mono HB1.out.size)).size))
    have HG := Lib.hid hG
    have hn256 : n8 ≤ 256 := by rw [← he8.len]; exact hG.sa.len
    have HLL := Lib.hid he8.len
    clear hb2 he8 hs8 hn8 hG HGR hd hd2 hd3
    go_upto_region 5 with fail
    generalize w2.heap.size = g8 at *
    generalize w2.alloc (.cells #[.slice A8 n8 c8] 32) = w3 at *
    have hb4 := below_new w3 (.cells (trC none 0 0 0) 55)
    have HV4 := Lib.hid (HV8.out.below hb4)
    have HK4 := Lib.hid (Bk.new w3 (trC none 0 0 0) 55)
    have HB4 := Lib.hid (HB2.out.trans (hb4.mono HB2.out.size))
    have HGT := Lib.hid (show g8 < w3.heap.size ∧ w.heap.size ≤ w3.heap.size from ⟨HV8.out.bk.lt, HB2.out.size⟩)
    clear hb4 HV8
    go_upto_region 6 with fail
    generalize w3.heap.size = gt at *
    generalize w3.alloc (.cells #[.slice none 0 0, .int .i64 0] 55) = w4 at *
    obtain ⟨k, hk⟩ : ∃ k, k = y + 1 := ⟨_, rfl⟩
    have hkw : IntKind.i64.wrap (1 + (y : Int)) = (k : Int) := by rw [IntKind.wrap_i64]; have := HY.out; omega
    have HK := Lib.hid (show 0 < k ∧ k ≤ 8 from by have := HY.out; omega)
    have hk8 : k ≤ 8 := HK.out.2
    clear hk
    go_wp2_with fail
    clear hkw e1
    go_loopw [9] (fun u wr => ∃ (i : Nat) (D : Option Addr) (d : Nat), u = .int .i64 (i : Int) ∧ i ≤ k ∧ Hid (Bk wr gt (trC D i d (i : Int)) 55) ∧ Hid (TxAt wr D (alT i).l) ∧ Hid (Lv wr g8 A8 n8 c8 l) ∧ Hid (Below w.heap.size w wr)) (fun u _ => k - (intOf u).toNat)
    case atStart => exact ⟨0, none, 0, rfl, Nat.zero_le _, HK4, Lib.hid (.inl ⟨rfl, rfl⟩), HV4, HB4⟩
    case round =>
      obtain ⟨i, D, d, rfl, hi, HKi, HTi, HVi, HBi⟩ := hrel
      clear HK4 HV4 HB4
      have t0 := HKi.out.r_0
      have t1 := HKi.out.r_1
      rcases Nat.lt_or_ge i k with hlt | hge
      · have hd4 : decide ((i : Int) < (k : Int)) = true := decide_eq_true (by omega)
        have hd5 : decide (i < k) = true := decide_eq_true hlt
        have hi1 : (i : Int) < (k : Int) := by omega
        obtain ⟨b, hb1, hb2⟩ := al_and i
        have HBE := Lib.hid (begin_al i (by have := HK.out; omega) D d wr HTi.out)
        generalize alP i = ap at *
        go_wp2_with fail
        refine HBE.out.mono ?_
        rintro r w5 ⟨hb5, D5, d5, rfl, ht5⟩
        have hb6 := hb5.trans ((below_new w5 (.cells (trC D5 (i + 1) d5 ((i + 1 : Nat) : Int)) 55)).mono hb5.size)
        have HT6 := Lib.hid (ht5.below (below_new w5 (.cells (trC D5 (i + 1) d5 ((i + 1 : Nat) : Int)) 55)))
        have HN6 := Lib.hid (Bk.new w5 (trC D5 (i + 1) d5 ((i + 1 : Nat) : Int)) 55)
        have HK6 := Lib.hid (HKi.out.below hb6)
        have HV6 := Lib.hid (HVi.out.below hb6)
        have HB6 := Lib.hid (HBi.out.trans (hb6.mono HBi.out.size))
        clear hb5 ht5 hb6 t0 t1 hb1 hb2 HKi HTi HVi HBi HBE
        obtain ⟨i1, hi1e⟩ : ∃ i1, i1 = i + 1 := ⟨_, rfl⟩
        rw [← hi1e] at HT6 HN6 ⊢
        have HI1 := Lib.hid hi1e
        clear hi1e
        go_upto_region 13 with fail
        rw [← HI1.out] at HK6 HV6 HB6
        generalize w5.heap.size = gn at *
        generalize w5.alloc (.cells #[.slice D5 i1 d5, .int .i64 (i1 : Int)] 55) = w6 at *
        have n0 := HN6.out.r_0
        have n1 := HN6.out.r_1
        have t0 := HK6.out.r_0
        have t1 := HK6.out.r_1
        have f0 := HK6.out.fr 0
        have f1 := HK6.out.fr 1
        have HKS := Lib.hid (HK6.out.putT D5 i1 d5 (i1 : Int))
        have HTS := Lib.hid (HT6.out.turnT HK6.out (turn_putT w6 gt (.slice D5 i1 d5) (.int .i64 (i1 : Int))))
        have HVS := Lib.hid (HV6.out.turnT HK6.out (turn_putT w6 gt (.slice D5 i1 d5) (.int .i64 (i1 : Int))) (by have := HGT.out; omega))
        have HBS := Lib.hid (HB6.out.trans ((turn_putT w6 gt (.slice D5 i1 d5) (.int .i64 (i1 : Int))).below (fun q e => by have := HGT.out; omega) HB6.out.size))
        go_wp2_with fail
        exact ⟨⟨i1, D5, d5, by rw [HI1.out]; simp, by have := HI1.out; omega, HKS, HTS, HVS, HBS⟩, by simp [intOf] <;> omega⟩
      · obtain rfl : i = k := by omega
        have hd4 : decide ((i : Int) < (i : Int)) = false := decide_eq_false (by omega)
        have hd5 : decide (i < i) = false := decide_eq_false (by omega)
        have x8 := HVi.out.c0
        obtain ⟨m0, hm0⟩ : ∃ m0, (pickO (fun e => standsR (alT i) e.t 0) P).length = m0 := ⟨_, rfl⟩
        have HM0 := Lib.hid hm0
        have HOA := Lib.hid (ops2_any A8 n8 c8 l P D d i 0 HG.out HK.out.2 wr HVi.out.es HTi.out m0 hm0)
        clear hm0
        go_wp2_with fail
        refine HOA.out.mono ?_
        rintro r wa ⟨hba, A0, ca0, rfl, _⟩
        have HVa := Lib.hid (HVi.out.below hba)
        have HKa := Lib.hid (HKi.out.below hba)
        have HTa := Lib.hid (HTi.out.below hba)
        have HBa := Lib.hid (HBi.out.trans (hba.mono HBi.out.size))
        clear hba HOA x8 t0 t1 HVi HKi HTi HBi
        go_wp2_with fail
        go_loopw [14, 15] (fun v u wr => ∃ (t : Nat) (S : Int), v = .int .i64 S ∧ u = .int .i64 (t : Int) ∧ t ≤ i ∧ Hid (S = alS P (fun x => standsR (alT i) x 0) t) ∧ Hid (Lv wr g8 A8 n8 c8 l) ∧ Hid (Bk wr gt (trC D i d (i : Int)) 55) ∧ Hid (TxAt wr D (alT i).l) ∧ Hid (Below w.heap.size w wr)) (fun _ u _ => i - (intOf u).toNat)
        case atStart => exact ⟨0, 0, rfl, rfl, Nat.zero_le _, Lib.hid rfl, HVa, HKa, HTa, HBa⟩
        case round =>
          obtain ⟨t, S, rfl, rfl, ht, HSt, HVt, HKt, HTt, HBt⟩ := hrel
          clear HVa HKa HTa HBa
          have x8 := HVt.out.c0
          have t0 := HKt.out.r_0
          have t1 := HKt.out.r_1
          rcases Nat.lt_or_ge t i with htl | htg
          · have ht4 : decide ((t : Int) < (i : Int)) = true := decide_eq_true (by omega)
            have ht5 : decide (t < i) = true := decide_eq_true htl
            have ht6 : (t : Int) < (i : Int) := by omega
            obtain ⟨mt, hmt⟩ : ∃ mt, (openT P (t : Int)).length = mt := ⟨_, rfl⟩
            have hmt256 : mt ≤ 256 := by rw [← hmt]; have h1 := openT_few HG.out.sa.fit (t := (t : Int)); have := HG.out.sa.len; omega
            have HO1 := Lib.hid (open2_any A8 n8 c8 mt l P (t : Int) HG.out.sa.op (by omega) wr HVt.out.es hmt)
            have HMT := Lib.hid hmt
            have HSB := Lib.hid (show 0 ≤ S ∧ S ≤ 2048 from by have h1 := alS_bd HG.out (fun x => standsR (alT i) x 0) t; rw [HSt.out]; have := HK.out; omega)
            have HSN := Lib.hid (alS_succ P (fun x => standsR (alT i) x 0) t)
            clear hmt
            go_wp2_with fail
            refine HO1.out.mono ?_
            rintro r wb ⟨hbb, Am, cm, rfl, _⟩
            have HVb := Lib.hid (HVt.out.below hbb)
            have HKb := Lib.hid (HKt.out.below hbb)
            have HTb := Lib.hid (HTt.out.below hbb)
            have HBb := Lib.hid (HBt.out.trans (hbb.mono HBt.out.size))
            clear hbb HO1 x8 t0 t1 HVt HKt HTt HBt
            have t0 := HKb.out.r_0
            have t1 := HKb.out.r_1
            have HWI := Lib.hid (pwithin_any D (alT i) i d (i : Int) (t : Int) 0 (alT_len i) (by have := HK.out; omega) wb HTb.out.rt)
            obtain ⟨sb, hsb⟩ : ∃ sb, sb = standsR (alT i) (t : Int) 0 := ⟨_, rfl⟩
            rw [← hsb] at HWI
            have HSF := Lib.hid (show alF P (fun x => standsR (alT i) x 0) t = if sb then (mt : Int) else 0 from by unfold alF; rw [HMT.out, hsb])
            clear hsb
            go_wp2_with fail
            refine HWI.out.mono ?_
            rintro r wc ⟨rfl, hbc⟩
            have HVc := Lib.hid (HVb.out.below hbc)
            have HKc := Lib.hid (HKb.out.below hbc)
            have HTc := Lib.hid (HTb.out.below hbc)
            have HBc := Lib.hid (HBb.out.trans (hbc.mono HBb.out.size))
            clear hbc HWI t0 t1 HVb HKb HTb HBb
            cases sb with
            | true =>
              have hwr : IntKind.i64.wrap (S + (mt : Int)) = S + (mt : Int) := by rw [IntKind.wrap_i64]; have := HSB.out; omega
              go_wp2_with fail
              exact ⟨⟨t + 1, S + (mt : Int), rfl, rfl, htl, Lib.hid (by rw [HSN.out, HSF.out, ← HSt.out]; rfl), HVc, HKc, HTc, HBc⟩, by simp [intOf] <;> omega⟩
            | false =>
              go_wp2_with fail
              exact ⟨⟨t + 1, S, rfl, rfl, htl, Lib.hid (by rw [HSN.out, HSF.out, ← HSt.out]; simp), HVc, HKc, HTc, HBc⟩, by simp [intOf] <;> omega⟩
          · obtain rfl : t = i := by omega
            have ht4 : decide ((t : Int) < (t : Int)) = false := decide_eq_false (by omega)
            have ht5 : decide (t < t) = false := decide_eq_false (by omega)
            obtain rfl : S = (m0 : Int) := by
              have h1 := openT_len (P := P) (W := fun x => standsR (alT t) x 0) (n := t) (fun p hp => (HG.out.tx _ (HG.out.mem hp)).1) (fun x hx => stands_lt hx)
              rw [HM0.out] at h1
              rw [HSt.out, h1]; rfl
            obtain ⟨z, hz⟩ : ∃ z : Int, z = (t : Int) - 1 := ⟨_, rfl⟩
            have hzw : IntKind.i64.wrap ((t : Int) - 1) = z := by rw [IntKind.wrap_i64, hz]; have := HK.out; omega
            have HZ := Lib.hid hz
            obtain ⟨ma, hma⟩ : ∃ ma, (pickO (fun e => standsR (alT t) e.t z) P).length = ma := ⟨_, rfl⟩
            have HMA := Lib.hid hma
            have HOA := Lib.hid (ops2_any A8 n8 c8 l P D d t z HG.out HK.out.2 wr HVt.out.es HTt.out ma hma)
            clear hz hma HSt
            go_wp2_with fail
            refine HOA.out.mono ?_
            rintro r wb ⟨hbb, Aa, ca, rfl, hra⟩
            have HRA := Lib.hid hra
            have HVb := Lib.hid (HVt.out.below hbb)
            have HKb := Lib.hid (HKt.out.below hbb)
            have HTb := Lib.hid (HTt.out.below hbb)
            have HBb := Lib.hid (HBt.out.trans (hbb.mono HBt.out.size))
            clear hbb hra HOA x8 t0 t1 HVt HKt HTt HBt
            have x8 := HVb.out.c0
            obtain ⟨mo, hmo⟩ : ∃ mo, (openT P z).length = mo := ⟨_, rfl⟩
            have hmo256 : mo ≤ 256 := by rw [← hmo]; have h1 := openT_few HG.out.sa.fit (t := z); have := HG.out.sa.len; omega
            have HMO := Lib.hid hmo
            have HO1 := Lib.hid (open2_any A8 n8 c8 mo l P z HG.out.sa.op (by omega) wb HVb.out.es hmo)
            clear hmo
            go_wp2_with fail
            refine HO1.out.mono ?_
            rintro r wc ⟨hbc, Ao, co, rfl, heo⟩
            have HEO := Lib.hid heo
            have HRC := Lib.hid (HRA.out.below hbc)
            have HVc := Lib.hid (HVb.out.below hbc)
            have HKc := Lib.hid (HKb.out.below hbc)
            have HTc := Lib.hid (HTb.out.below hbc)
            have HBc := Lib.hid (HBb.out.trans (hbc.mono HBb.out.size))
            have hm00 : ((m0 : Int) != (m0 : Int)) = false := by simp
            clear hbc heo HO1 x8 HVb HKb HTb HBb HRA hzw
            have HOE := Lib.hid (fun V (hV : Below wc.heap.size wc V) => ops2_any A8 n8 c8 l P D d t (-1) HG.out HK.out.2 V (HVc.out.es.below hV) (HTc.out.below hV) 0 (by rw [stands_no]; rfl))
            rcases Nat.lt_or_ge 1 t with h1t | h1t
            · have hma2 : ma = mo := by rw [← HMA.out, ← HMO.out, HZ.out, stands_pick h1t]
              subst hma2
              have HRD := Lib.hid (show RQ.At wc Aa (opsO (openT P z)) from by have h := HRC.out; rw [HZ.out, stands_pick h1t] at h; rw [HZ.out]; exact h)
              have hk1 : decide ((t : Int) > 1) = true := decide_eq_true (by omega)
              have hk2 : decide ((1 : Int) < (t : Int)) = true := decide_eq_true (by omega)
              have hk3 : decide (1 < t) = true := decide_eq_true h1t
              have hmm : ((ma : Int) != (ma : Int)) = false := by simp
              clear HRC HMA
              go_wp2_with fail
              go_loopw [19] (fun u wr => ∃ q : Nat, u = .int .i64 (q : Int) ∧ q ≤ ma ∧ Hid (Below wc.heap.size wc wr)) (fun u _ => ma - (intOf u).toNat)
              case atStart => exact ⟨0, rfl, Nat.zero_le _, Lib.hid (Below.refl _ _)⟩
              case round =>
                obtain ⟨q, rfl, hq, HBq⟩ := hrel
                rcases Nat.lt_or_ge q ma with hql | hqg
                · obtain ⟨b1, o1, hA1, hbl1, r0, r1⟩ := rq_get HRD.out HMO.out hql
                  obtain ⟨b2, o2, hA2, hbl2, _, _, _, s1, s2, _⟩ := HEO.out.eo hql
                  subst hA1
                  subst hA2
                  have q0 := (HBq.out.cell (p := ⟨b1, o1 + q * 2, none⟩) hbl1).trans r0
                  have q1 := (HBq.out.cell (p := ⟨b1, o1 + q * 2 + 1, none⟩) hbl1).trans r1
                  have p1 := (HBq.out.cell (p := ⟨b2, o2 + q * 4 + 1, none⟩) hbl2).trans s1
                  have p2 := (HBq.out.cell (p := ⟨b2, o2 + q * 4 + 2, none⟩) hbl2).trans s2
                  generalize (openT P z).getD q enD = e at *
                  obtain ⟨et, ec, eb, eu⟩ := e
                  simp only at q0 q1 p1 p2
                  have hq4 : decide ((q : Int) < (ma : Int)) = true := decide_eq_true (by omega)
                  have hq5 : decide (q < ma) = true := decide_eq_true hql
                  have hq6 : (q : Int) < (ma : Int) := by omega
                  have hn1 : (ec != ec) = false := by simp
                  have hn2 : (eb != eb) = false := by simp
                  clear r0 r1 s1 s2 hbl1 hbl2
                  go_upto_region 29 with fail
                  go_quiet (fail)
                  go_wp2_with fail
                  exact ⟨⟨q + 1, rfl, hql, Lib.hid (below_drewN HBq.out _)⟩, by simp [intOf] <;> omega⟩
                · obtain rfl : q = ma := by omega
                  have hq4 : decide ((q : Int) < (q : Int)) = false := decide_eq_false (by omega)
                  have hq5 : decide (q < q) = false := decide_eq_false (by omega)
                  have x8 := (HVc.out.below HBq.out).c0
                  have t0 := (HKc.out.below HBq.out).r_0
                  have t1 := (HKc.out.below HBq.out).r_1
                  have HOF := Lib.hid (HOE.out wr HBq.out)
                  go_wp2_with fail
                  refine HOF.out.mono ?_
                  rintro r wz ⟨hbz, Az, cz, rfl, _⟩
                  have HBz := Lib.hid ((HBc.out.trans (HBq.out.mono HBc.out.size)).trans (hbz.mono (HBc.out.trans (HBq.out.mono HBc.out.size)).size))
                  clear hbz HOF x8 t0 t1
                  go_wp2_with fail
                  go_ret
                  exact ⟨rfl, HBz.out⟩
            · obtain rfl : t = 1 := by have := HK.out; omega
              have hk1 : decide (((1 : Nat) : Int) > 1) = false := by decide
              have hk2 : decide ((1 : Int) < ((1 : Nat) : Int)) = false := by decide
              have hk4 : decide ((1 : Int) < 1) = false := by decide
              have hk3 : decide (1 < 1) = false := by decide
              have x8 := HVc.out.c0
              have t0 := HKc.out.r_0
              have t1 := HKc.out.r_1
              have HOF := Lib.hid (HOE.out wc (Below.refl _ _))
              go_wp2_with fail
              go_loopw [19] (fun u wr => u = .int .i64 0 ∧ wr = wc) (fun _ _ => 0)
              case atStart => exact ⟨rfl, rfl⟩
              case round =>
                obtain ⟨rfl, rfl⟩ := hrel
                go_wp2_with fail
                refine HOF.out.mono ?_
                rintro r wz ⟨hbz, Az, cz, rfl, _⟩
                have HBz := Lib.hid (HBc.out.trans (hbz.mono HBc.out.size))
                clear hbz HOF x8 t0 t1
                go_wp2_with fail
                go_ret
                exact ⟨rfl, HBz.out⟩
end Go.Proofs.Ytpphhhalmccnbaa
