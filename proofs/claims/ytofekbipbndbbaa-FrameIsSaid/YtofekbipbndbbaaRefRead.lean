/-
  What the document's own reader answers, whatever bytes it stands over and wherever its place is: the same as the program's.
-/
import Derived.Test.YtofekbipbndbbaaReader
import Derived.Test.YtofekbipbndbbaaSince
namespace Go.Proofs.Ytofekbipbndbbaa
open Go.RowKit Wm

set_option maxHeartbeats 400000 in
theorem refleft_any {w : World} {g t cap n k : Nat} {A : Option Addr} {l : List UInt8} (h : Cur w g t A cap n k l) :
    Calls Try.prog 47 #[.pointer (some ⟨g, 0, none⟩)] w fun e w' => e = .returned (.int .i64 ((n : Int) - (k : Int))) ∧ ∃ m, w' = w.drewN m := by
  have h0 := h.c0
  have h1 := h.c1
  have b1 := h.le
  have b2 := h.cap_
  have b3 := h.nm
  clear h
  go_enter Try.func47, Try.ntmps47
  go_wp2
  go_quiet (fail)
  go_wp2
  go_ret
  exact ⟨rfl, _, rfl⟩

theorem refget_arg (p : Option Addr) (n : Int) (w : World) (hn : n < 1 ∨ 8 < n) :
    Calls Try.prog 35 #[.pointer p, .int .i64 n] w fun e w' => e = .returned (.tuple #[.int .u64 0, .int .i64 1]) ∧ w = w' := by
  rcases hn with hn | hn
  · go_enter Try.func35, Try.ntmps35
    go_wp2
    go_ret2
    exact ⟨rfl, rfl⟩
  · have h1 : ¬ n < 1 := by omega
    go_enter Try.func35, Try.ntmps35
    go_wp2
    go_ret2
    exact ⟨rfl, rfl⟩

set_option maxHeartbeats 400000 in
theorem refget_short {w : World} {r t cap n k : Nat} {A : Option Addr} {l : List UInt8} (h : Cur w r t A cap n k l) (m : Int) (h1 : 1 ≤ m) (h2 : m ≤ 8) (hm : (n : Int) - k < m) :
    Calls Try.prog 35 #[.pointer (some ⟨r, 0, none⟩), .int .i64 m] w fun e w' => e = .returned (.tuple #[.int .u64 0, .int .i64 2]) ∧ ∃ m, w' = w.drewN m := by
  go_enter Try.func35, Try.ntmps35
  go_wp2_with (go_at_call 47; refine (refleft_any h).mono ?_; rintro e w' ⟨rfl, q, rfl⟩)
  go_ret2
  exact ⟨rfl, _, rfl⟩

/-- the number from byte j on -/
def valFrom (l : List UInt8) (k m j : Nat) : Nat := valB ((((l.drop k).take m)).drop j)

theorem valFrom_step {W : World} {B k m j n : Nat} {A : Option Addr} {l : List UInt8} (h : Rd W B A l) (hl : l.length = n) (hm : m ≤ n - k) (hk : k ≤ n) (hm8 : m ≤ 8) (hj : j < m) :
    ∃ b o y, A = some ⟨b, o, none⟩ ∧ b < B ∧ W.cell? ⟨b, o + (k + j), none⟩ = some (.int .u8 ((y : Nat) : Int)) ∧ y ≤ 255 ∧
      valFrom l k m (j + 1) * 256 + y ≤ 18446744073709551615 ∧ Hid (valFrom l k m j = valFrom l k m (j + 1) * 256 + y) := by
  obtain ⟨b, o, e, hb, hc⟩ := h.cell (j := k + j) (by omega)
  have hlen : ((l.drop k).take m).length = m := by rw [List.length_take, List.length_drop]; omega
  have hx : ((l.drop k).take m)[j]'(by omega) = l[k + j]'(by omega) := by simp
  have hd : ((l.drop k).take m).drop j = l[k + j]'(by omega) :: ((l.drop k).take m).drop (j + 1) := by
    rw [List.drop_eq_getElem_cons (by omega), hx]
  have hv : valFrom l k m j = valFrom l k m (j + 1) * 256 + (l[k + j]'(by omega)).toNat := by
    unfold valFrom
    rw [hd, valB]
    omega
  have hu : valFrom l k m j < 18446744073709551616 := valB_u64 _ (by rw [List.length_drop]; omega)
  exact ⟨b, o, _, e, hb, hc, by have := (l[k + j]'(by omega)).toNat_lt; omega, by omega, hv⟩

theorem valFrom_zero (l : List UInt8) (k m : Nat) : valB ((l.drop k).take m) = valFrom l k m 0 := rfl
theorem valFrom_end (l : List UInt8) (k m : Nat) : (Value.int .u64 0) = .int .u64 (valFrom l k m m : Int) := by
  unfold valFrom
  rw [List.drop_eq_nil_of_le (by rw [List.length_take]; omega)]
  rfl

set_option maxHeartbeats 1000000 in
theorem refget_ok {w : World} {r t cap n k : Nat} {A : Option Addr} {l : List UInt8} (h : Cur w r t A cap n k l) (m : Nat) (h1 : 1 ≤ m) (h2 : m ≤ 8) (hm : m ≤ n - k) :
    Calls Try.prog 35 #[.pointer (some ⟨r, 0, none⟩), .int .i64 m] w (NumOk w r t A cap n k m l) := by
  have b1 := h.le
  have b2 := h.nm
  go_enter Try.func35, Try.ntmps35
  go_wp2_with fail
  refine (refleft_any h).mono ?_
  rintro e w' ⟨rfl, q, rfl⟩
  go_wp2_with fail
  go_loopw [6, 7] (fun v i wr => ∃ (j q : Nat), j ≤ m ∧ i = .int .i64 ((j : Int) - 1) ∧ v = .int .u64 (valFrom l k m j : Int) ∧ wr = w.drewN q) (fun _ i _ => (intOf i + 1).toNat)
  case atStart => exact ⟨m, q, Nat.le_refl _, rfl, valFrom_end l k m, rfl⟩
  case round =>
    obtain ⟨j, q', hj, rfl, rfl, rfl⟩ := hrel
    have h' := h.drewN q'
    have c0 := h.c0
    have c1 := h.c1
    rcases Nat.eq_zero_or_pos j with h0 | h0
    · subst h0
      have f1 := h.fr 1
      have HM := hide2 (h'.move (j := k + m) (by omega))
      have HG : Hid (w.grownBy ((w.drewN q').setCell ⟨r, 1, none⟩ (.int .i64 ((k : Int) + (m : Int)))) (some r)) := grown_drewN (setCell_grown (w.drewN q') r 1 _)
      clear h'
      go_wp2_with fail
      go_ret2
      exact ⟨by rw [valFrom_zero]; rfl, HM.out, HG.out⟩
    · obtain ⟨p, rfl⟩ : ∃ p, j = p + 1 := ⟨j - 1, by omega⟩
      have e1 : ((p + 1 : Nat) : Int) - 1 = (p : Int) := by omega
      rw [e1]
      clear e1
      obtain ⟨b, o, y, rfl, hb, hc, hy, hv, HV⟩ := valFrom_step h.rd h.len hm b1 h2 (j := p) (by omega)
      clear h'
      have hkp : (k : Int) + (p : Int) < (n : Int) := by omega
      generalize valFrom l k m (p + 1) = v at *
      go_wp2_with fail
      go_quiet (fail)
      go_wp2
      go_roundw
      case rel => exact ⟨p, q' + nq, by omega, rfl, by rw [HV.out]; go_num, rfl⟩
      case measure => simp [intOf]

/-- the two bytes that say how many -/
theorem cnt_cells {W : World} {B k n : Nat} {A : Option Addr} {l : List UInt8} (h : Rd W B A l) (hl : l.length = n) (hm : 2 ≤ n - k) (hk : k ≤ n) :
    ∃ b o x y, A = some ⟨b, o, none⟩ ∧ b < B ∧ W.cell? ⟨b, o + k, none⟩ = some (.int .u8 ((x : Nat) : Int)) ∧ W.cell? ⟨b, o + (k + 1), none⟩ = some (.int .u8 ((y : Nat) : Int)) ∧ x ≤ 255 ∧ y ≤ 255 ∧ Hid (cntB l k = x + 256 * y) := by
  obtain ⟨b, o, e, hb, hc⟩ := h.cell (j := k) (by omega)
  obtain ⟨b', o', e', _, hc'⟩ := h.cell (j := k + 1) (by omega)
  rw [e] at e'
  injection e' with e'
  injection e' with e1 e2
  subst e1 e2
  refine ⟨b, o, _, _, e, hb, hc, hc', by have := (l[k]'(by omega)).toNat_lt; omega, by have := (l[k + 1]'(by omega)).toNat_lt; omega, ?_⟩
  show cntB l k = _
  unfold cntB
  have hd : l.drop k = l[k]'(by omega) :: l[k + 1]'(by omega) :: l.drop (k + 2) := by
    rw [List.drop_eq_getElem_cons (by omega), List.drop_eq_getElem_cons (by omega)]
  rw [hd]
  show valB [_, _] = _
  simp only [valB]
  omega

theorem wp_append_rd {P : Program} {o : Oper} {a : Act} {w : World} {K : Act → World → Prop} {Q : Exit → Act → World → Prop} (s x : Operand) (t : TypeId)
    (ho : o.op = .call { callee := .builtin .append, args := #[s, x], argTypes := #[t, t] })
    (base : Nat) (i : TypeInfo) (ht : P.underlying t = some (.slice 5)) (hi : P.info? 5 = some i) (hz : i.zero = some (.int .u8 0)) (hsize : i.size = 1) (hby : i.bytes = 1)
    (v : Value) (n : Nat) (xs : List Value) (hs : a.eval s = v) (hown : w.ownsRow base 5 1 v n xs)
    (B : Nat) (A : Option Addr) (l : List UInt8) (m c : Nat) (hx : a.eval x = .slice A m c) (hr : Rd w B A l) (hm : l.length = m)
    (hlen : n + m ≤ 1099511627776) (hbase : base ≤ w.heap.size)
    (h : ∀ v' w', w'.ownsRow base 5 1 v' (n + m) (xs ++ byteVs l) → w.grownBy w' v.ownBlock → (v'.ownBlock = v.ownBlock ∨ v'.ownBlock = some w.heap.size) → K (a.put o.dst v') w') : o.wp P a w K Q := by
  obtain ⟨v', w', hrun, h2, h3, h4⟩ := run_append_rd (P := P) base t o.type i ht hi hz hsize hby hown hr m hm c hlen hbase
  unfold Oper.wp
  simp [execOp, ho, resolve, invoke, builtin, hs, hx, hrun, Result.andThen]
  exact h v' w' h2 h3 h4

theorem RListOk.mk {w W0 w1 : World} {r t cap n k mm : Nat} {A A1 : Option Addr} {c2 : Nat} {l : List UInt8} (HMM : Hid (mm = cntB l k)) (HG : Hid (w.grownBy W0 (some r))) (HO : Hid (Owns w1 W0.heap.size A1 c2 (0 + mm) ([] ++ (l.drop (k + 2)).take mm)))
    (HW : Hid (Cur W0 r t A cap n k l)) (HB : Hid (Below W0.heap.size W0 w1)) (HL : Hid (k + 2 + mm ≤ n)) :
    RListOk w r t A cap n k (cntB l k) l (.returned (.tuple #[.slice A1 mm c2, .int .i64 0])) (w1.setCell ⟨r, 1, none⟩ (.int .i64 ((k : Int) + 2 + (mm : Int)))) := by
  rw [← HMM.out]
  refine ⟨A1, c2, rfl, ?_, (HW.out.below HB.out).move (j := k + 2 + mm) HL.out, grown_trans (grown_below HG.out HB.out) (setCell_grown _ _ _ _)⟩
  have h1 : Owns w1 W0.heap.size A1 c2 mm ((l.drop (k + 2)).take mm) := by simpa using HO.out
  have h2 : Owns (w1.setCell ⟨r, 1, none⟩ (.int .i64 ((k : Int) + 2 + (mm : Int)))) W0.heap.size A1 c2 mm ((l.drop (k + 2)).take mm) := ownsRow_setCell_below h1 (by exact HW.out.lt) _
  exact h2.base_le HG.out.size

end Go.Proofs.Ytofekbipbndbbaa
