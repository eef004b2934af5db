/-
  What the document's own reader answers, whatever bytes it stands over and wherever its place is: the same as the program's.
-/
import Derived.Test.YtgmnhaohbpclkaaReader
import Derived.Test.YtgmnhaohbpclkaaSince
namespace Go.Proofs.Ytgmnhaohbpclkaa
open Go.RowKit Wm

set_option maxHeartbeats 400000 in
theorem refleft_any {w : World} {g t cap n k : Nat} {A : Option Addr} {l : List UInt8} (h : Cur w g t A cap n k l) :
    Calls Try.prog 24 #[.pointer (some ⟨g, 0, none⟩)] w fun e w' => e = .returned (.int .i64 ((n : Int) - (k : Int))) ∧ ∃ m, w' = w.drewN m := by
  have h0 := h.c0
  have h1 := h.c1
  have b1 := h.le
  have b2 := h.cap_
  have b3 := h.nm
  clear h
  go_enter Try.func24, Try.ntmps24
  go_wp2
  go_quiet (fail)
  go_wp2
  go_ret
  exact ⟨rfl, _, rfl⟩

theorem refget_arg (p : Option Addr) (n : Int) (w : World) (hn : n < 1 ∨ 8 < n) :
    Calls Try.prog 18 #[.pointer p, .int .i64 n] w fun e w' => e = .returned (.tuple #[.int .u64 0, .int .i64 1]) ∧ w = w' := by
  rcases hn with hn | hn
  · go_enter Try.func18, Try.ntmps18
    go_wp2
    go_ret2
    exact ⟨rfl, rfl⟩
  · have h1 : ¬ n < 1 := by omega
    go_enter Try.func18, Try.ntmps18
    go_wp2
    go_ret2
    exact ⟨rfl, rfl⟩

set_option maxHeartbeats 400000 in
theorem refget_short {w : World} {r t cap n k : Nat} {A : Option Addr} {l : List UInt8} (h : Cur w r t A cap n k l) (m : Int) (h1 : 1 ≤ m) (h2 : m ≤ 8) (hm : (n : Int) - k < m) :
    Calls Try.prog 18 #[.pointer (some ⟨r, 0, none⟩), .int .i64 m] w fun e w' => e = .returned (.tuple #[.int .u64 0, .int .i64 2]) ∧ ∃ m, w' = w.drewN m := by
  go_enter Try.func18, Try.ntmps18
  go_wp2_with (go_at_call 24; refine (refleft_any h).mono ?_; rintro e w' ⟨rfl, q, rfl⟩)
  go_ret2
  exact ⟨rfl, _, rfl⟩

/-- the number from byte j on -/
def valFrom (l : List UInt8) (k m j : Nat) : Nat := valB ((((l.drop k).take m)).drop j)

theorem valFrom_step {W : World} {B k m j n : Nat} {A : Option Addr} {l : List UInt8} (h : Rd W B A l) (hl : l.length = n) (hm : m ≤ n - k) (hk : k ≤ n) (hm8 : m ≤ 8) (hj : j < m) :
    ∃ b o y, A = some ⟨b, o, none⟩ ∧ b < B ∧ W.cell? ⟨b, o + (k + j), none⟩ = some (.int .u8 ((y : Nat) : Int)) ∧ y ≤ 255 ∧
      valFrom l k m (j + 1) * 256 + y ≤ 18446744073709551615 ∧ Hid (valFrom l k m j = valFrom l k m (j + 1) * 256 + y) := by
  obtain ⟨b, o, e, hb, hc⟩ := h.cell (j := k + j) (by omega)
  have hlen : ((l.drop k).take m).length = m := by rw [List.length_take, List.length_drop]; omega
  have hx : ((l.drop k).take m)[j]'(by omega) = l[k + j]'(by omega) := by simp
  have hd : ((l.drop k).take m).drop j = l[k + j]'(by omega) :: ((l.drop k).take m).drop (j + 1) := by
    rw [List.drop_eq_getElem_cons (by omega), hx]
  have hv : valFrom l k m j = valFrom l k m (j + 1) * 256 + (l[k + j]'(by omega)).toNat := by
    unfold valFrom
    rw [hd, valB]
    omega
  have hu : valFrom l k m j < 18446744073709551616 := valB_u64 _ (by rw [List.length_drop]; omega)
  exact ⟨b, o, _, e, hb, hc, by have := (l[k + j]'(by omega)).toNat_lt; omega, by omega, hv⟩

theorem valFrom_zero (l : List UInt8) (k m : Nat) : valB ((l.drop k).take m) = valFrom l k m 0 := rfl
theorem valFrom_end (l : List UInt8) (k m : Nat) : (Value.int .u64 0) = .int .u64 (valFrom l k m m : Int) := by
  unfold valFrom
  rw [List.drop_eq_nil_of_le (by rw [List.length_take]; omega)]
  rfl

set_option maxHeartbeats 1000000 in
theorem refget_ok {w : World} {r t cap n k : Nat} {A : Option Addr} {l : List UInt8} (h : Cur w r t A cap n k l) (m : Nat) (h1 : 1 ≤ m) (h2 : m ≤ 8) (hm : m ≤ n - k) :
    Calls Try.prog 18 #[.pointer (some ⟨r, 0, none⟩), .int .i64 m] w (NumOk w r t A cap n k m l) := by
  have b1 := h.le
  have b2 := h.nm
  go_enter Try.func18, Try.ntmps18
  go_wp2_with fail
  refine (refleft_any h).mono ?_
  rintro e w' ⟨rfl, q, rfl⟩
  go_wp2_with fail
  go_loopw [6, 7] (fun v i wr => ∃ (j q : Nat), j ≤ m ∧ i = .int .i64 ((j : Int) - 1) ∧ v = .int .u64 (valFrom l k m j : Int) ∧ wr = w.drewN q) (fun _ i _ => (intOf i + 1).toNat)
  case atStart => exact ⟨m, q, Nat.le_refl _, rfl, valFrom_end l k m, rfl⟩
  case round =>
    obtain ⟨j, q', hj, rfl, rfl, rfl⟩ := hrel
    have h' := h.drewN q'
    have c0 := h.c0
    have c1 := h.c1
    rcases Nat.eq_zero_or_pos j with h0 | h0
    · subst h0
      have f1 := h.fr 1
      have HM := hide2 (h'.move (j := k + m) (by omega))
      have HG : Hid (w.grownBy ((w.drewN q').setCell ⟨r, 1, none⟩ (.int .i64 ((k : Int) + (m : Int)))) (some r)) := grown_drewN (setCell_grown (w.drewN q') r 1 _)
      clear h'
      go_wp2_with fail
      go_ret2
      exact ⟨by rw [valFrom_zero]; rfl, HM.out, HG.out⟩
    · obtain ⟨p, rfl⟩ : ∃ p, j = p + 1 := ⟨j - 1, by omega⟩
      have e1 : ((p + 1 : Nat) : Int) - 1 = (p : Int) := by omega
      rw [e1]
      clear e1
      obtain ⟨b, o, y, rfl, hb, hc, hy, hv, HV⟩ := valFrom_step h.rd h.len hm b1 h2 (j := p) (by omega)
      clear h'
      have hkp : (k : Int) + (p : Int) < (n : Int) := by omega
      generalize valFrom l k m (p + 1) = v at *
      go_wp2_with fail
      go_quiet (fail)
      go_wp2
      go_roundw
      case rel => exact ⟨p, q' + nq, by omega, rfl, by rw [HV.out]; go_num, rfl⟩
      case measure => simp [intOf]

set_option maxHeartbeats 400000 in
theorem refsignedr_short {w : World} {r t cap n k : Nat} {A : Option Addr} {l : List UInt8} (h : Cur w r t A cap n k l) (hm : n - k < 8) :
    Calls Try.prog 20 #[.pointer (some ⟨r, 0, none⟩)] w fun e w' => e = .returned (.tuple #[.int .i64 0, .int .i64 2]) ∧ ∃ m, w' = w.drewN m := by
  have b1 := h.le
  go_enter Try.func20, Try.ntmps20
  go_wp2_with (go_at_call 18; refine (refget_short h 8 (by omega) (by omega) (by omega)).mono ?_; rintro e w2 ⟨rfl, q, rfl⟩)
  go_ret2
  exact ⟨rfl, _, rfl⟩

set_option maxHeartbeats 400000 in
theorem refsignedr_ok {w : World} {r t cap n k : Nat} {A : Option Addr} {l : List UInt8} (h : Cur w r t A cap n k l) (hm : 8 ≤ n - k) :
    Calls Try.prog 20 #[.pointer (some ⟨r, 0, none⟩)] w (SgnOk w r t A cap n k l) := by
  go_enter Try.func20, Try.ntmps20
  go_wp2_with fail
  refine (refget_ok h 8 (by omega) (by omega) hm).mono ?_
  rintro e w2 ⟨rfl, hcur, hg⟩
  have H1 := hide2 hcur
  have H2 := hide2 hg
  clear hcur hg h
  generalize hV : valB ((l.drop k).take 8) = v at *
  have HV := Lib.hid hV
  clear hV
  go_wp2_with fail
  go_ret2
  exact ⟨by rw [HV.out]; rfl, H1.out, H2.out⟩

set_option maxHeartbeats 400000 in
theorem refend_more {w : World} {r t cap n k : Nat} {A : Option Addr} {l : List UInt8} (h : Cur w r t A cap n k l) (hk : k < n) :
    Calls Try.prog 26 #[.pointer (some ⟨r, 0, none⟩)] w fun e w' => e = .returned (.int .i64 3) ∧ ∃ m, w' = w.drewN m := by
  go_enter Try.func26, Try.ntmps26
  go_wp2_with (go_at_call 24; refine (refleft_any h).mono ?_; rintro e w2 ⟨rfl, q, rfl⟩)
  go_ret
  exact ⟨rfl, _, rfl⟩

set_option maxHeartbeats 400000 in
theorem refend_done {w : World} {r t cap n k : Nat} {A : Option Addr} {l : List UInt8} (h : Cur w r t A cap n k l) (hk : n ≤ k) :
    Calls Try.prog 26 #[.pointer (some ⟨r, 0, none⟩)] w fun e w' => e = .returned (.int .i64 0) ∧ ∃ m, w' = w.drewN m := by
  go_enter Try.func26, Try.ntmps26
  go_wp2_with (go_at_call 24; refine (refleft_any h).mono ?_; rintro e w2 ⟨rfl, q, rfl⟩)
  go_ret
  exact ⟨rfl, _, rfl⟩

set_option maxHeartbeats 400000 in
theorem reflistr_short {w : World} {r t cap n k : Nat} {A : Option Addr} {l : List UInt8} (h : Cur w r t A cap n k l) (most : Int) (hm : n - k < 2) :
    Calls Try.prog 22 #[.pointer (some ⟨r, 0, none⟩), .int .i64 most] w fun e w' => e = .returned (.tuple #[.slice none 0 0, .int .i64 2]) ∧ ∃ m, w' = w.drewN m := by
  have b1 := h.le
  go_enter Try.func22, Try.ntmps22
  go_wp2_with (go_at_call 24; refine (refleft_any h).mono ?_; rintro e w2 ⟨rfl, q, rfl⟩)
  go_ret2
  exact ⟨rfl, _, rfl⟩

/-- the two bytes that say how many -/
theorem cnt_cells {W : World} {B k n : Nat} {A : Option Addr} {l : List UInt8} (h : Rd W B A l) (hl : l.length = n) (hm : 2 ≤ n - k) (hk : k ≤ n) :
    ∃ b o x y, A = some ⟨b, o, none⟩ ∧ b < B ∧ W.cell? ⟨b, o + k, none⟩ = some (.int .u8 ((x : Nat) : Int)) ∧ W.cell? ⟨b, o + (k + 1), none⟩ = some (.int .u8 ((y : Nat) : Int)) ∧ x ≤ 255 ∧ y ≤ 255 ∧ Hid (cntB l k = x + 256 * y) := by
  obtain ⟨b, o, e, hb, hc⟩ := h.cell (j := k) (by omega)
  obtain ⟨b', o', e', _, hc'⟩ := h.cell (j := k + 1) (by omega)
  rw [e] at e'
  injection e' with e'
  injection e' with e1 e2
  subst e1 e2
  refine ⟨b, o, _, _, e, hb, hc, hc', by have := (l[k]'(by omega)).toNat_lt; omega, by have := (l[k + 1]'(by omega)).toNat_lt; omega, ?_⟩
  show cntB l k = _
  unfold cntB
  have hd : l.drop k = l[k]'(by omega) :: l[k + 1]'(by omega) :: l.drop (k + 2) := by
    rw [List.drop_eq_getElem_cons (by omega), List.drop_eq_getElem_cons (by omega)]
  rw [hd]
  show valB [_, _] = _
  simp only [valB]
  omega

set_option maxHeartbeats 1000000 in
theorem reflistr_most {w : World} {r t cap n k : Nat} {A : Option Addr} {l : List UInt8} (h : Cur w r t A cap n k l) (most : Int) (hm : 2 ≤ n - k) (hc : most < (cntB l k : Int)) :
    Calls Try.prog 22 #[.pointer (some ⟨r, 0, none⟩), .int .i64 most] w fun e w' => e = .returned (.tuple #[.slice none 0 0, .int .i64 3]) ∧ ∃ m, w' = w.drewN m := by
  have b1 := h.le
  have b2 := h.nm
  go_enter Try.func22, Try.ntmps22
  go_wp2_with fail
  refine (refleft_any h).mono ?_
  rintro e w2 ⟨rfl, q, rfl⟩
  go_wp2_with fail
  obtain ⟨b, o, x, y, rfl, hb, d0, d1, hx, hy, HC⟩ := cnt_cells h.rd h.len hm b1
  have c0 := h.c0
  have c1 := h.c1
  have hc' : most < (x : Int) + 256 * (y : Int) := by have := HC.out; omega
  clear hc
  have hk1 : (k : Int) + 1 < (n : Int) := by omega
  go_quiet (fail)
  go_wp2
  go_ret2
  exact ⟨rfl, _, rfl⟩

set_option maxHeartbeats 1000000 in
theorem reflistr_less {w : World} {r t cap n k : Nat} {A : Option Addr} {l : List UInt8} (h : Cur w r t A cap n k l) (most : Int) (hm : 2 ≤ n - k) (hc : (cntB l k : Int) ≤ most) (hn : n - (k + 2) < cntB l k) :
    Calls Try.prog 22 #[.pointer (some ⟨r, 0, none⟩), .int .i64 most] w fun e w' => e = .returned (.tuple #[.slice none 0 0, .int .i64 2]) ∧ ∃ m, w' = w.drewN m := by
  have b1 := h.le
  have b2 := h.nm
  go_enter Try.func22, Try.ntmps22
  go_wp2_with fail
  refine (refleft_any h).mono ?_
  rintro e w2 ⟨rfl, q, rfl⟩
  go_wp2_with fail
  obtain ⟨b, o, x, y, rfl, hb, d0, d1, hx, hy, HC⟩ := cnt_cells h.rd h.len hm b1
  have c0 := h.c0
  have c1 := h.c1
  have hc' : (x : Int) + 256 * (y : Int) ≤ most := by have := HC.out; omega
  have hn' : (n : Int) - k - 2 < (x : Int) + 256 * (y : Int) := by have := HC.out; omega
  clear hc hn
  have hk1 : (k : Int) + 1 < (n : Int) := by omega
  go_quiet (fail)
  go_wp2_with fail
  refine (refleft_any (h.drewN _)).mono ?_
  rintro e w3 ⟨rfl, q3, rfl⟩
  go_wp2_with fail
  go_ret2
  exact ⟨rfl, _, rfl⟩

theorem wp_append_rd {P : Program} {o : Oper} {a : Act} {w : World} {K : Act → World → Prop} {Q : Exit → Act → World → Prop} (s x : Operand) (t : TypeId)
    (ho : o.op = .call { callee := .builtin .append, args := #[s, x], argTypes := #[t, t] })
    (base : Nat) (i : TypeInfo) (ht : P.underlying t = some (.slice 5)) (hi : P.info? 5 = some i) (hz : i.zero = some (.int .u8 0)) (hsize : i.size = 1) (hby : i.bytes = 1)
    (v : Value) (n : Nat) (xs : List Value) (hs : a.eval s = v) (hown : w.ownsRow base 5 1 v n xs)
    (B : Nat) (A : Option Addr) (l : List UInt8) (m c : Nat) (hx : a.eval x = .slice A m c) (hr : Rd w B A l) (hm : l.length = m)
    (hlen : n + m ≤ 1099511627776) (hbase : base ≤ w.heap.size)
    (h : ∀ v' w', w'.ownsRow base 5 1 v' (n + m) (xs ++ byteVs l) → w.grownBy w' v.ownBlock → (v'.ownBlock = v.ownBlock ∨ v'.ownBlock = some w.heap.size) → K (a.put o.dst v') w') : o.wp P a w K Q := by
  obtain ⟨v', w', hrun, h2, h3, h4⟩ := run_append_rd (P := P) base t o.type i ht hi hz hsize hby hown hr m hm c hlen hbase
  unfold Oper.wp
  simp [execOp, ho, resolve, invoke, builtin, hs, hx, hrun, Result.andThen]
  exact h v' w' h2 h3 h4

theorem RListOk.mk {w W0 w1 : World} {r t cap n k mm : Nat} {A A1 : Option Addr} {c2 : Nat} {l : List UInt8} (HMM : Hid (mm = cntB l k)) (HG : Hid (w.grownBy W0 (some r))) (HO : Hid (Owns w1 W0.heap.size A1 c2 (0 + mm) ([] ++ (l.drop (k + 2)).take mm)))
    (HW : Hid (Cur W0 r t A cap n k l)) (HB : Hid (Below W0.heap.size W0 w1)) (HL : Hid (k + 2 + mm ≤ n)) :
    RListOk w r t A cap n k (cntB l k) l (.returned (.tuple #[.slice A1 mm c2, .int .i64 0])) (w1.setCell ⟨r, 1, none⟩ (.int .i64 ((k : Int) + 2 + (mm : Int)))) := by
  rw [← HMM.out]
  refine ⟨A1, c2, rfl, ?_, (HW.out.below HB.out).move (j := k + 2 + mm) HL.out, grown_trans (grown_below HG.out HB.out) (setCell_grown _ _ _ _)⟩
  have h1 : Owns w1 W0.heap.size A1 c2 mm ((l.drop (k + 2)).take mm) := by simpa using HO.out
  have h2 : Owns (w1.setCell ⟨r, 1, none⟩ (.int .i64 ((k : Int) + 2 + (mm : Int)))) W0.heap.size A1 c2 mm ((l.drop (k + 2)).take mm) := ownsRow_setCell_below h1 (by exact HW.out.lt) _
  exact h2.base_le HG.out.size

set_option maxHeartbeats 2000000 in
theorem reflistr_ok {w : World} {r t cap n k : Nat} {A : Option Addr} {l : List UInt8} (h : Cur w r t A cap n k l) (most : Int) (hm : 2 ≤ n - k) (hc : (cntB l k : Int) ≤ most) (hn : cntB l k ≤ n - (k + 2)) :
    Calls Try.prog 22 #[.pointer (some ⟨r, 0, none⟩), .int .i64 most] w (RListOk w r t A cap n k (cntB l k) l) := by
  obtain ⟨i0, hi, hz0, hz1, hz2⟩ := info_parts byte_info
  have b1 := h.le
  have b2 := h.nm
  have b3 := h.cap_
  have hcl := cntB_lt l k
  go_enter Try.func22, Try.ntmps22
  go_wp2_with fail
  refine (refleft_any h).mono ?_
  rintro e w2 ⟨rfl, q, rfl⟩
  go_wp2_with fail
  obtain ⟨b, o, x, y, rfl, hb, d0, d1, hx, hy, HC⟩ := cnt_cells h.rd h.len hm b1
  have c0 := h.c0
  have c1 := h.c1
  obtain ⟨mm, hmm⟩ : ∃ mm, mm = cntB l k := ⟨_, rfl⟩
  rw [← hmm] at hc hn hcl ⊢
  have HMM := hide2 hmm
  have hxy : (x : Int) + 256 * (y : Int) = (mm : Int) := by have := HC.out; omega
  clear hmm
  have hk1 : (k : Int) + 1 < (n : Int) := by omega
  go_quiet (fail)
  go_wp2_with fail
  refine (refleft_any (h.drewN _)).mono ?_
  rintro e w3 ⟨rfl, q3, rfl⟩
  go_wp2_with fail
  have hW := h.drewN (q + nq + q3)
  have HG0 : Hid (w.grownBy (w.drewN (q + nq + q3)) (some r)) := ⟨rfl, rfl, rfl, Nat.le_refl _, fun _ _ _ => rfl⟩
  clear c0 c1 d0 d1 h
  generalize w.drewN (q + nq + q3) = W0 at *
  have hrl := hW.lt
  have c0 : ∀ V, Since W0 V → V.cell? ⟨r, 0, none⟩ = some (.slice (some ⟨b, o, none⟩) n cap) := fun V hV => (Below.cell hV (p := ⟨r, 0, none⟩) hrl).trans hW.c0
  have c1 : ∀ V, Since W0 V → V.cell? ⟨r, 1, none⟩ = some (.int .i64 (k : Int)) := fun V hV => (Below.cell hV (p := ⟨r, 1, none⟩) hrl).trans hW.c1
  have hown0 : (W0.drew.alloc (.cells #[] 5)).ownsRow W0.heap.size 5 1 (.slice (some ⟨W0.heap.size, 0, none⟩) 0 0) 0 [] := World.ownsRow_lit W0.drew #[] 0 (Nat.le_refl _) (by simp [maxLen]) rfl
  have hbw0 : Below W0.heap.size W0 (W0.drew.alloc (.cells #[] 5)) := (Below.refl _ _).drew.alloc (Nat.le_refl _) _
  have HW := hide2 hW
  clear hW
  have hk2 : (k : Int) + 2 + (mm : Int) ≤ (n : Int) := by omega
  have hk3 : (k : Int) + 2 + (mm : Int) ≤ (cap : Int) := by omega
  have hcase : (k + 2 < cap ∧ ¬ cap = k + 2) ∨ (cap = k + 2 ∧ (k : Int) + 2 + (mm : Int) ≤ (k : Int) + 2) := by omega
  have HL2 : Hid (k + 2 + mm ≤ n) := (by omega : k + 2 + mm ≤ n)
  have HR : Hid (Rd (W0.drew.alloc (.cells #[] 5)) W0.heap.size (some ⟨b, o, none⟩) l) := (HW.out.rd.more (Nat.le_of_lt hrl)).below hbw0
  have e1 : IntKind.i64.wrap ((k : Int) + 2) = (k : Int) + 2 := IntWalk.i64_in _ ⟨by omega, by omega⟩
  have e2 : IntKind.i64.wrap ((k : Int) + 2 + (mm : Int)) = (k : Int) + 2 + (mm : Int) := IntWalk.i64_in _ ⟨by omega, by omega⟩
  have e5 : (k : Int) + 2 ≤ (k : Int) + 2 + (mm : Int) := by omega
  have e6 : (0 : Int) ≤ (k : Int) + 2 := by omega
  have e8 : (0 : Int) ≤ (k : Int) + 2 + (mm : Int) := by omega
  have e3 : ((k : Int) + 2).toNat = k + 2 := by omega
  have e4 : ((k : Int) + 2 + (mm : Int)).toNat = k + 2 + mm := by clear e3; omega
  rcases hcase with ⟨hkc, e7⟩ | ⟨rfl, e7⟩
  all_goals
    refine wp_region_since (by kernel_rfl) ?_
    have hS : Since W0 (World.drew W0) := (Below.refl _ _).drew
    refine wpAnyH_take (i := 1) (oi := ⟨some 45, _, _, _, _, _⟩) (v := ?_) rfl (by kernel_rfl) (by kernel_rfl) (by kernel_rfl) (fun _ _ _ h => h) (Or.inl ⟨by rfl, ?_⟩) hS ?_
    rotate_left
    · intro W hW; go_simp; with_reducible rfl
    try simp only [Act.put, List.setIfInBounds_toArray, List.set_cons_zero, List.set_cons_succ]
    refine wpAnyH_take (i := 2) (oi := ⟨some 46, _, _, _, _, _⟩) (v := ?_) rfl (by kernel_rfl) (by kernel_rfl) (by kernel_rfl) (fun _ _ _ h => h) (Or.inl ⟨by rfl, ?_⟩) hS ?_
    rotate_left
    · intro W hW; go_simp; with_reducible rfl
    try simp only [Act.put, List.setIfInBounds_toArray, List.set_cons_zero, List.set_cons_succ]
    refine wpAnyH_take (i := 3) (oi := ⟨some 47, _, _, _, _, _⟩) (v := ?_) rfl (by kernel_rfl) (by kernel_rfl) (by kernel_rfl) (fun _ _ _ h => h) (Or.inl ⟨by rfl, ?_⟩) hS ?_
    rotate_left
    · intro W hW; go_simp; with_reducible rfl
    try simp only [Act.put, List.setIfInBounds_toArray, List.set_cons_zero, List.set_cons_succ]
    refine wpAnyH_take (i := 4) (oi := ⟨some 48, _, _, _, _, _⟩) (v := ?_) rfl (by kernel_rfl) (by kernel_rfl) (by kernel_rfl) (fun _ _ _ h => h) (Or.inl ⟨by rfl, ?_⟩) hS ?_
    rotate_left
    · intro W hW; go_simp; with_reducible rfl
    try simp only [Act.put, List.setIfInBounds_toArray, List.set_cons_zero, List.set_cons_succ]
    refine wpAnyH_take (i := 5) (oi := ⟨some 49, _, _, _, _, _⟩) (v := ?_) rfl (by kernel_rfl) (by kernel_rfl) (by kernel_rfl) (fun _ _ _ h => h) (Or.inl ⟨by rfl, ?_⟩) hS ?_
    rotate_left
    · intro W hW; go_simp; with_reducible rfl
    try simp only [Act.put, List.setIfInBounds_toArray, List.set_cons_zero, List.set_cons_succ]
    refine wpAnyH_take (i := 6) (oi := ⟨some 50, _, _, _, _, _⟩) (v := ?_) rfl (by kernel_rfl) (by kernel_rfl) (by kernel_rfl) (fun _ _ _ h => h) (Or.inl ⟨by rfl, ?_⟩) hS ?_
    rotate_left
    · intro W hW; go_simp; with_reducible rfl
    try simp only [Act.put, List.setIfInBounds_toArray, List.set_cons_zero, List.set_cons_succ]
    refine wpAnyH_take (i := 7) (oi := ⟨some 51, _, _, _, _, _⟩) (v := ?_) rfl (by kernel_rfl) (by kernel_rfl) (by kernel_rfl) (fun _ _ _ h => h) (Or.inl ⟨by rfl, ?_⟩) hS ?_
    rotate_left
    · intro W hW; go_simp; with_reducible rfl
    try simp only [Act.put, List.setIfInBounds_toArray, List.set_cons_zero, List.set_cons_succ]
    refine wpAnyH_take (i := 8) (oi := ⟨some 52, _, _, _, _, _⟩) (v := ?_) rfl (by kernel_rfl) (by kernel_rfl) (by kernel_rfl) (fun _ _ _ h => h) (Or.inl ⟨by rfl, ?_⟩) hS ?_
    rotate_left
    · intro W hW; go_simp; with_reducible rfl
    try simp only [Act.put, List.setIfInBounds_toArray, List.set_cons_zero, List.set_cons_succ]
    refine wpAnyH_take (i := 9) (oi := ⟨some 53, _, _, _, _, _⟩) (v := ?_) rfl (by kernel_rfl) (by kernel_rfl) (by kernel_rfl) (fun _ _ _ h => h) (Or.inl ⟨by rfl, ?_⟩) hS ?_
    rotate_left
    · intro W hW; go_simp; with_reducible rfl
    try simp only [Act.put, List.setIfInBounds_toArray, List.set_cons_zero, List.set_cons_succ]
    refine wpAnyH_take (i := 10) (oi := ⟨some 54, _, _, _, _, _⟩) (v := ?_) rfl (by kernel_rfl) (by kernel_rfl) (by kernel_rfl) (fun _ _ _ h => h) (Or.inl ⟨by rfl, ?_⟩) hS ?_
    rotate_left
    · intro W hW; go_simp; with_reducible rfl
    try simp only [Act.put, List.setIfInBounds_toArray, List.set_cons_zero, List.set_cons_succ]
    refine wpAnyH_take (i := 11) (oi := ⟨some 55, _, _, _, _, _⟩) (v := ?_) rfl (by kernel_rfl) (by kernel_rfl) (by kernel_rfl) (fun _ _ _ h => h) (Or.inl ⟨by rfl, ?_⟩) hS ?_
    rotate_left
    · intro W hW; go_simp; with_reducible rfl
    try simp only [Act.put, List.setIfInBounds_toArray, List.set_cons_zero, List.set_cons_succ]
    refine wpAnyH_take (i := 12) (oi := ⟨some 56, _, _, _, _, _⟩) (v := ?_) rfl (by kernel_rfl) (by kernel_rfl) (by kernel_rfl) (fun _ _ _ h => h) (Or.inl ⟨by rfl, ?_⟩) hS ?_
    rotate_left
    · intro W hW; go_simp; with_reducible rfl
    try simp only [Act.put, List.setIfInBounds_toArray, List.set_cons_zero, List.set_cons_succ]
    refine wpAnyH_take (i := 13) (oi := ⟨some 57, _, _, _, _, _⟩) (v := ?_) rfl (by kernel_rfl) (by kernel_rfl) (by kernel_rfl) (fun _ _ _ h => h) (Or.inl ⟨by rfl, ?_⟩) hS ?_
    rotate_left
    · intro W hW; go_simp; with_reducible rfl
    try simp only [Act.put, List.setIfInBounds_toArray, List.set_cons_zero, List.set_cons_succ]
    refine wpAnyH_take (i := 14) (oi := ⟨some 58, _, _, _, _, _⟩) (v := ?_) rfl (by kernel_rfl) (by kernel_rfl) (by kernel_rfl) (fun _ _ _ h => h) (Or.inl ⟨by rfl, ?_⟩) hS ?_
    rotate_left
    · intro W hW; go_simp; with_reducible rfl
    try simp only [Act.put, List.setIfInBounds_toArray, List.set_cons_zero, List.set_cons_succ]
    refine wpAnyH_take (i := 15) (oi := ⟨some 59, _, _, _, _, _⟩) (v := ?_) rfl (by kernel_rfl) (by kernel_rfl) (by kernel_rfl) (fun _ _ _ h => h) (Or.inl ⟨by rfl, ?_⟩) hS ?_
    rotate_left
    · intro W hW; go_simp; with_reducible rfl
    try simp only [Act.put, List.setIfInBounds_toArray, List.set_cons_zero, List.set_cons_succ]
    refine wpAnyH_take (i := 16) (oi := ⟨some 60, _, _, _, _, _⟩) (v := ?_) rfl (by kernel_rfl) (by kernel_rfl) (by kernel_rfl) (fun _ _ _ h => h) (Or.inl ⟨by rfl, ?_⟩) hS ?_
    rotate_left
    · intro W hW; go_simp; with_reducible rfl
    try simp only [Act.put, List.setIfInBounds_toArray, List.set_cons_zero, List.set_cons_succ]
    refine wpAnyH_take (i := 17) (oi := ⟨some 61, _, _, _, _, _⟩) (v := ?_) rfl (by kernel_rfl) (by kernel_rfl) (by kernel_rfl) (fun _ _ _ h => h) (Or.inl ⟨by rfl, ?_⟩) hS ?_
    rotate_left
    · intro W hW; go_simp; with_reducible rfl
    try simp only [Act.put, List.setIfInBounds_toArray, List.set_cons_zero, List.set_cons_succ]
    -- operation 0: a step
    refine wpAnyH_ready (rs := [0]) (by kernel_rfl) (by simp) ?_
    refine AllReadyH.cons (o := ⟨some 44, _, _, _, _, _⟩) rfl (fun K hK => ?_) AllReadyH.nil
    go_simp
    show K _ _
    refine hK.out _ _ ?_ (fun _ => ?_)
    · exact hbw0
    clear hK K hS
    have hS : Since W0 (W0.drew.alloc (.cells #[] 5)) := hbw0
    try simp only [Act.put, List.setIfInBounds_toArray, List.set_cons_zero, List.set_cons_succ]
    -- operation 18: a step
    refine wpAnyH_ready (rs := [18]) (by kernel_rfl) (by simp) ?_
    refine AllReadyH.cons (o := ⟨some 62, _, _, _, _, _⟩) rfl (fun K hK => ?_) AllReadyH.nil
    rw [if_pos (by rfl)]
    refine wp_append_rd (.tmp 44) (.tmp 61) _ rfl W0.heap.size i0 Try.underlying22 hi hz0 hz1 hz2 (.slice (some ⟨W0.heap.size, 0, none⟩) 0 0) 0 [] (by rfl) hown0 W0.heap.size _ ((l.drop (k + 2)).take mm) _ _ (by rfl) ?_ ?_ ?_ ?_ ?_
    · refine Rd.cut HR.out (k + 2) mm _ (fun b' o' e hk => ?_)
      injection e with e
      injection e with e8 e9
      subst e8 e9
      first | rfl | (exfalso; have := HW.out.len; omega)
    · have := HW.out.len; rw [List.length_take, List.length_drop]; omega
    · clear e1 e2 e3 e4; omega
    · simp
    intro v1 w1 hown1 hg1 hat1
    obtain ⟨A1, c2, rfl, ho1, hb1⟩ := append_step' (l := []) hown0 hbw0 hbw0.size hown1 hg1
    clear hown1 hg1 hat1
    show K _ _
    refine hK.out _ _ ?_ (fun _ => ?_)
    · exact hb1
    clear hK K hS
    have hS : Since W0 w1 := hb1
    try simp only [Act.put, List.setIfInBounds_toArray, List.set_cons_zero, List.set_cons_succ]
    refine wpAnyH_take (i := 19) (oi := ⟨some 7, _, _, _, _, _⟩) (v := ?_) rfl (by kernel_rfl) (by kernel_rfl) (by kernel_rfl) (fun _ _ _ h => h) (Or.inl ⟨by rfl, ?_⟩) hS ?_
    rotate_left
    · intro W hW; go_simp; with_reducible rfl
    try simp only [Act.put, List.setIfInBounds_toArray, List.set_cons_zero, List.set_cons_succ]
    refine wpAnyH_done (by kernel_rfl) ?_ _
    have f1 : w1.frozen? ⟨r, 1, none⟩ = false := (hb1.frozen (p := ⟨r, 1, none⟩) hrl).trans (HW.out.fr 1)
    have d1 : w1.cell? ⟨r, 1, none⟩ = some (.int .i64 (k : Int)) := c1 w1 hb1
    have HO := hide2 ho1
    have HB := hide2 hb1
    clear ho1 hb1
    go_wp2_with fail
    go_ret2
    exact RListOk.mk HMM HG0 HO HW HB HL2

end Go.Proofs.Ytgmnhaohbpclkaa
