/-
  A note's bytes: the document's Encode and Size.
-/
import Derived.Test.YtjpnihmijnpjcaaNd
namespace Go.Proofs.Ytjpnihmijnpjcaa
set_option maxRecDepth 100000
set_option linter.unusedVariables false
set_option linter.unusedSimpArgs false
open Go.RowKit Wm Nn

/-- a row of bytes under way, the call's own -/
structure Wr (w0 V : World) (A : Option Addr) (c L : Nat) (l : List UInt8) : Prop where
  own : Owns V w0.heap.size A c L l
  below : Below w0.heap.size w0 V
section
variable {w0 V : World} {A : Option Addr} {c L : Nat} {l : List UInt8}
theorem Wr.nil (w0 : World) : Wr w0 w0 none 0 0 [] := ⟨World.ownsRow_nil _ _ _ _, Below.refl _ _⟩
theorem Wr.up (h : Wr w0 V A c L l) {V' : World} (hb : Below V.heap.size V V') : Wr w0 V' A c L l := ⟨h.own.below hb, h.below.trans (hb.mono h.below.size)⟩
theorem Wr.made (h : Below w0.heap.size w0 V) {e : Ending} {W : World} (hm : Made V L l e W) : ∃ A c, e = .returned (.slice A L c) ∧ Hid (Wr w0 W A c L l) := by
  obtain ⟨A, c, rfl, ho, hb⟩ := hm
  exact ⟨A, c, rfl, Lib.hid ⟨ho.base_le h.size, h.trans (hb.mono h.size)⟩⟩
def WrOut (w0 : World) (L : Nat) (l : List UInt8) (e : Ending) (W : World) : Prop := ∃ A c, e = .returned (.slice A L c) ∧ Hid (Wr w0 W A c L l)
theorem put_wr (h : Wr w0 V A c L l) (hl : L ≤ 1000000) (v : Nat) (hv : v ≤ 18446744073709551615) (n : Int) (k : Nat) (hn : n = (k : Int)) (hk : k ≤ 8) :
    Calls Try.prog 26 #[.slice A L c, .int .u64 v, .int .i64 n] V (WrOut w0 (L + k) (l ++ putB k v)) :=
  (refput_core A c L l (Lib.hid h.own.len) v n k V h.own.read (by omega) hv hk (.inr (.inl ⟨by omega, by omega, by omega⟩))).mono fun e W hm => Wr.made h.below hm
theorem signed_wr (h : Wr w0 V A c L l) (hl : L ≤ 1000000) (v : Int) :
    Calls Try.prog 27 #[.slice A L c, .int .i64 v] V (WrOut w0 (L + 8) (l ++ putB 8 (sgn v))) :=
  (refsigned_any A c L l (Lib.hid h.own.len) v V h.own.read (by omega)).mono fun e W hm => Wr.made h.below hm
theorem wpList_app_row {ops : Array Oper} {rest : List Oper} {o : Oper} {a : Act} {Q : Exit → Act → World → Prop} (h : Wr w0 V A c L l) (hgd : o.guard = none) (s x : Operand)
    (ho : o.op = .call { callee := .builtin .append, args := #[s, x], argTypes := #[26, 26] }) (hs : a.eval s = .slice A L c) (A2 : Option Addr) (l2 : List UInt8) (m c2 : Nat) (hx : a.eval x = .slice A2 m c2) (hr : Rd V V.heap.size A2 l2) (hm : l2.length = m) (hl : L + m ≤ 1000000)
    (k : ∀ A' c' V', Wr w0 V' A' c' (L + m) (l ++ l2) → wpList Try.prog ops Q rest (a.put o.dst (.slice A' (L + m) c')) V') : wpList Try.prog ops Q (o :: rest) a V := by
  obtain ⟨i0, hi, hz0, hz1, hz2⟩ := info_parts byte_info
  refine wpList_append_rd hgd s x _ ho w0.heap.size i0 Try.underlying26 hi hz0 hz1 hz2 (.slice A L c) L _ hs h.own V.heap.size A2 l2 m c2 hx hr hm (by omega) h.below.size ?_
  intro v W hown hg _
  obtain ⟨A1, c1, rfl, ho1, hb1⟩ := append_step' h.own h.below h.below.size hown hg
  exact k A1 c1 W ⟨ho1, hb1⟩
theorem wpList_app_byte {ops : Array Oper} {rest : List Oper} {o : Oper} {a : Act} {Q : Exit → Act → World → Prop} (h : Wr w0 V A c L l) (hgd : o.guard = none) (s x : Operand)
    (ho : o.op = .call { callee := .builtin .append, args := #[s, x], argTypes := #[26, 26] }) (hs : a.eval s = .slice A L c) (z : Nat) (hz : z < 256) (hx : a.eval x = .slice (some ⟨V.heap.size, 0, none⟩) 1 1) (hl : L ≤ 100000)
    (k : ∀ A' c' V', Wr w0 V' A' c' (L + 1) (l ++ [UInt8.ofNat z]) → wpList Try.prog ops Q rest (a.put o.dst (.slice A' (L + 1) c')) V') : wpList Try.prog ops Q (o :: rest) a (V.alloc (.cells #[.int .u8 (z : Int)] 5)) := by
  have h2 := h.up (below_new V (.cells #[.int .u8 (z : Int)] 5))
  refine wpList_app_row h2 hgd s x ho hs _ [UInt8.ofNat z] 1 1 hx ?_ rfl (by omega) k
  have hr := rd_one V (UInt8.ofNat z) (z : Int) (by rw [toNat_ofNat]; omega)
  rw [show (V.alloc (.cells #[.int .u8 (z : Int)] 5)).heap.size = V.heap.size + 1 by simp]
  exact hr
end

set_option maxHeartbeats 4000000 in
theorem enc_yes (K S : Nat) (im : List Im) (op : List Od) (r : Nr) (w : World) (hx : NtAt w ⟨(K : Int), (S : Int), im, op⟩ r) (hs : San ⟨(K : Int), (S : Int), im, op⟩) : Calls Try.prog 13 #[ntV ⟨(K : Int), (S : Int), im, op⟩ r] w (BytesOut w (enc ⟨(K : Int), (S : Int), im, op⟩) 0) := by
  obtain ⟨A1, k1, c1, B1, l1, d1, e1⟩ := r
  obtain ⟨HX, HB, HN⟩ := nt_boxed w _ _ hx 25
  clear hx
  unfold ntV
  obtain ⟨C, hC⟩ : ∃ C, C = ntC ⟨(K : Int), (S : Int), im, op⟩ ⟨A1, k1, c1, B1, l1, d1, e1⟩ := ⟨_, rfl⟩
  rw [← hC] at HX HB HN ⊢
  clear hC
  obtain ⟨n1, n2, n3, n4⟩ := HN.out.n_
  simp only at n1 n2 n3 n4
  obtain ⟨⟨g1, ⟨g2, g3⟩, g4, g5, g6⟩, hi, ho⟩ := hs
  simp only at g1 g2 g3 g4 g5 hi ho
  have hk1 : k1 ≤ 256 := by omega
  have hl1 : l1 ≤ 256 := by omega
  have hK : K ≤ 2 := by omega
  have hS : S ≤ 1099511627776 := by omega
  have HI := Lib.hid hi
  have HO := Lib.hid ho
  have HSM : Hid (SmallN ⟨(K : Int), (S : Int), im, op⟩) := Lib.hid ⟨by simp only; omega, by simp only; omega, fun i y hy => by have := (hi i y hy).2.1; omega⟩
  have HSY : Hid (sane ⟨(K : Int), (S : Int), im, op⟩ = true) := Lib.hid (sane_yes ⟨⟨g1, ⟨g2, g3⟩, g4, g5, g6⟩, hi, ho⟩)
  have HLN := Lib.hid (And.intro n1 n3)
  clear g1 g2 g3 g4 g5 g6 hi ho n1 n3
  go_enter Try.func13, Try.ntmps13
  go_upto_region 1 with fail
  generalize w.alloc (.cells C 25) = w0 at *
  have a0 := HX.out.c0
  have a1 := HX.out.c1
  have a2 := HX.out.c2
  have a3 := HX.out.c3
  simp only at a0 a1 a2 a3
  go_wp2_with fail
  refine (sane_any ⟨(K : Int), (S : Int), im, op⟩ ⟨A1, k1, c1, B1, l1, d1, e1⟩ w0 HN.out HSM.out).mono ?_
  rintro e w1 ⟨rfl, hb1⟩
  rw [HSY.out]
  have HX1 := Lib.hid (HX.out.below hb1)
  have HB1 := Lib.hid hb1
  clear hb1 a0 a1 a2 a3
  have a0 := HX1.out.c0
  simp only at a0
  go_wp2_with fail
  refine (put_wr ((Wr.nil w0).up HB1.out) (by omega) K (by omega) 1 1 rfl (by omega)).mono ?_
  rintro e w2 ⟨A2, c2, rfl, HW2⟩
  have HX2 := Lib.hid (HX.out.below HW2.out.below)
  clear HX1 HB1 a0
  have a1 := HX2.out.c1
  simp only at a1
  go_wp2_with fail
  refine (put_wr HW2.out (by omega) S (by omega) 6 6 rfl (by omega)).mono ?_
  rintro e w3 ⟨A3, c3, rfl, HW3⟩
  have HX3 := Lib.hid (HX.out.below HW3.out.below)
  clear HX2 HW2 a1
  have a2 := HX3.out.c2
  simp only at a2
  go_wp2_with fail
  refine (put_wr HW3.out (by omega) k1 (by omega) 2 2 rfl (by omega)).mono ?_
  rintro e w4 ⟨A4, c4, rfl, HW4⟩
  clear HX3 HW3 a2
  obtain ⟨n, hn⟩ : ∃ n, n = 0 + 1 + 6 + 2 := ⟨_, rfl⟩
  have HN9 := Lib.hid hn
  have HW5 : Hid (Wr w0 w4 A4 c4 n (encH ⟨(K : Int), (S : Int), im, op⟩)) := Lib.hid (by
    have h := HW4.out
    rw [← hn] at h
    have e : encH ⟨(K : Int), (S : Int), im, op⟩ = [] ++ putB 1 K ++ putB 6 S ++ putB 2 k1 := by
      unfold encH
      rw [← HLN.out.1]
      simp
    rw [e]
    exact h)
  rw [← hn]
  clear hn HW4
  have hn9 : n ≤ 9 := by have := HN9.out; omega
  go_wp2_with fail
  go_loopg [4, 5] k1 (fun gn b i wr => ∃ (j : Nat) (A : Option Addr) (c L : Nat) (l : List UInt8), i = .int .i64 (j : Int) ∧ b = .slice A L c ∧ j + gn = k1 ∧ L ≤ 9 + 33 * j ∧ Hid (l = encH ⟨(K : Int), (S : Int), im, op⟩ ++ ims (im.take j)) ∧ Hid (Wr w0 wr A c L l))
  case atStart => exact ⟨0, A4, c4, n, _, rfl, rfl, by omega, by omega, Lib.hid (by simp [ims]), HW5⟩
  case round =>
    obtain ⟨j, A, c, L, l, rfl, rfl, hog, hL, HLL, HW⟩ := hrel
    have HX1 := Lib.hid (HX.out.below HW.out.below)
    have a2 := HX1.out.c2
    simp only at a2
    rcases Nat.lt_or_ge j k1 with hlt | hge
    · have hdj : decide (j < k1) = true := decide_eq_true hlt
      have hdi : decide ((j : Int) < (k1 : Int)) = true := decide_eq_true (by omega)
      have him := HN.out.im
      obtain ⟨xi, ⟨ri, ra, rn, rc⟩, bx, ox, hxi, _, hX⟩ := him.get hlt
      have HXI := Lib.hid hxi
      have eA := hX.a
      simp only at eA
      subst eA
      obtain ⟨z1, z2, _⟩ := HI.out j xi hxi
      obtain ⟨kx, hkx⟩ : ∃ kx : Nat, xi.k = (kx : Int) := ⟨xi.k.toNat, by omega⟩
      have hkx8 : kx < 256 := by omega
      have HKX := Lib.hid hkx
      have HL := Lib.hid hX.li.len
      simp only at HL
      have hrn : rn = 32 := by have := HL.out; omega
      subst hrn
      have K0 : Hid (∀ V, Below w0.heap.size w0 V → V.cell? ⟨bx, ox + j * 2, none⟩ = some (.int .i64 (kx : Int))) := Lib.hid (fun V hV => by rw [← hkx]; exact (hV.cell (p := ⟨bx, ox + j * 2, none⟩) hX.lt).trans hX.c0)
      have K1 : Hid (∀ V, Below w0.heap.size w0 V → V.cell? ⟨bx, ox + j * 2 + 1, none⟩ = some (.slice ra 32 rc)) := Lib.hid (fun V hV => (hV.cell (p := ⟨bx, ox + j * 2 + 1, none⟩) hX.lt).trans hX.c1)
      have K2 : Hid (∀ V, Below w0.heap.size w0 V → Rd V V.heap.size ra xi.d) := Lib.hid (fun V hV => hX.li.rd.up hV)
      have HI2 : Hid (imB xi = UInt8.ofNat kx :: xi.d) := Lib.hid (by unfold imB; rw [HKX.out]; rfl)
      have y0 := K0.out _ HW.out.below
      clear hxi hX z1 z2 hkx him
      go_upto_region 10 with (at_builtin; refine wpList_app_byte HW.out rfl (.tmp 32) (.tmp 40) rfl rfl kx hkx8 rfl (by omega) ?_; intro A6 c6 w6 hw6)
      have HW6 := Lib.hid hw6
      clear hw6 y0 a2
      have a2 := (HX.out.below HW6.out.below).c2
      have y1 := K1.out _ HW6.out.below
      simp only at a2
      go_wp2_with (at_builtin; refine wpList_app_row HW6.out rfl (.tmp 42) (.tmp 48) rfl rfl ra xi.d 32 rc rfl (K2.out _ HW6.out.below) HL.out (by omega) ?_; intro A7 c7 w7 hw7; have HW7 := Lib.hid hw7; clear hw7)
      go_roundg (gk - 1)
      case measure => omega
      case rel => exact ⟨j + 1, A7, c7, L + 1 + 32, _, by go_num, rfl, by omega, by omega, Lib.hid (by rw [HLL.out, take_step HXI.out, ims_step, HI2.out]; simp), HW7⟩
    · obtain rfl : j = k1 := by omega
      clear hge
      have a3 := HX1.out.c3
      simp only at a3
      have HIM : Hid (l = encH ⟨(K : Int), (S : Int), im, op⟩ ++ ims im) := Lib.hid (by rw [HLL.out, List.take_of_length_le (by have := HLN.out.1; omega)])
      clear HLL
      go_wp2_with fail
      refine (put_wr HW.out (by omega) l1 (by omega) 2 2 rfl (by omega)).mono ?_
      rintro e w8 ⟨A8, c8, rfl, HW8⟩
      clear HX1 HW a2 a3
      go_wp2_with fail
      go_loopg [4, 6] l1 (fun gn b i wr => ∃ (u : Nat) (A : Option Addr) (c L : Nat) (q : List UInt8), i = .int .i64 (u : Int) ∧ b = .slice A L c ∧ u + gn = l1 ∧ L ≤ 11 + 33 * j + 9 * u ∧ Hid (q = encH ⟨(K : Int), (S : Int), im, op⟩ ++ ims im ++ putB 2 l1 ++ ops (op.take u)) ∧ Hid (Wr w0 wr A c L q))
      case atStart => exact ⟨0, A8, c8, L + 2, _, rfl, rfl, by omega, by omega, Lib.hid (by rw [HIM.out]; simp [ops]), HW8⟩
      case round =>
        obtain ⟨u, A, c, L, q, rfl, rfl, hog2, hL2, HLL, HW⟩ := hrel
        have HX1 := Lib.hid (HX.out.below HW.out.below)
        have a3 := HX1.out.c3
        simp only at a3
        rcases Nat.lt_or_ge u l1 with hlt | hge
        · have hdj : decide (u < l1) = true := decide_eq_true hlt
          have hdi : decide ((u : Int) < (l1 : Int)) = true := decide_eq_true (by omega)
          obtain ⟨xo, bo, oo, hxo, hO⟩ := HN.out.op.get hlt
          have HXO := Lib.hid hxo
          have eA := hO.a
          simp only at eA
          subst eA
          have z1 := HO.out u xo hxo
          obtain ⟨kx, hkx⟩ : ∃ kx : Nat, xo.c = (kx : Int) := ⟨xo.c.toNat, by omega⟩
          have hkx8 : kx < 256 := by omega
          have HKX := Lib.hid hkx
          have K0 : Hid (∀ V, Below w0.heap.size w0 V → V.cell? ⟨bo, oo + u * 2, none⟩ = some (.int .i64 (kx : Int))) := Lib.hid (fun V hV => by rw [← hkx]; exact (hV.cell (p := ⟨bo, oo + u * 2, none⟩) hO.lt).trans hO.c0)
          have K1 : Hid (∀ V, Below w0.heap.size w0 V → V.cell? ⟨bo, oo + u * 2 + 1, none⟩ = some (.int .i64 xo.b)) := Lib.hid (fun V hV => (hV.cell (p := ⟨bo, oo + u * 2 + 1, none⟩) hO.lt).trans hO.c1)
          have HI2 : Hid (opB xo = UInt8.ofNat kx :: putB 8 (sgn xo.b)) := Lib.hid (by unfold opB; rw [HKX.out]; rfl)
          have y0 := K0.out _ HW.out.below
          clear hxo hO z1 hkx
          go_upto_region 16 with (at_builtin; refine wpList_app_byte HW.out rfl (.tmp 63) (.tmp 71) rfl rfl kx hkx8 rfl (by omega) ?_; intro A6 c6 w6 hw6)
          have HW6 := Lib.hid hw6
          clear hw6 y0 a3
          have a3 := (HX.out.below HW6.out.below).c3
          have y1 := K1.out _ HW6.out.below
          simp only at a3
          go_wp2_with fail
          refine (signed_wr HW6.out (by omega) xo.b).mono ?_
          rintro e w7 ⟨A7, c7, rfl, HW7⟩
          clear a3 y1
          go_wp2_with fail
          go_roundg (gk - 1)
          case measure => omega
          case rel => exact ⟨u + 1, A7, c7, L + 1 + 8, _, by go_num, rfl, by omega, by omega, Lib.hid (by rw [HLL.out, take_step HXO.out, ops_step, HI2.out]; simp), HW7⟩
        · obtain rfl : u = l1 := by omega
          clear hge
          go_wp2_with fail
          have e : q = enc ⟨(K : Int), (S : Int), im, op⟩ := by
            rw [HLL.out, List.take_of_length_le (by have := HLN.out.2; omega)]
            unfold enc
            simp only
            rw [HLN.out.2]
          have HE := Lib.hid e
          clear e
          go_ret2
          rw [← HE.out]
          exact ⟨A, L, c, rfl, HW.out.own.len.symm, HW.out.own.base_le HB.out.size, HB.out.trans (HW.out.below.mono HB.out.size)⟩

theorem kind_nat {x : Nt} (h : San x) : ∃ (K S : Nat) (im : List Im) (op : List Od), x = ⟨(K : Int), (S : Int), im, op⟩ := by
  obtain ⟨k, s, im, op⟩ := x
  obtain ⟨⟨g1, ⟨g2, g3⟩, _⟩, _⟩ := h
  simp only at g1 g2 g3
  exact ⟨k.toNat, s.toNat, im, op, by rw [Int.toNat_of_nonneg (by omega), Int.toNat_of_nonneg g2]⟩
theorem encB_yes {x : Nt} (h : San x) : encB x = enc x := by unfold encB; rw [if_pos h]
theorem encE_yes {x : Nt} (h : San x) : encE x = 0 := by unfold encE; rw [if_pos h]
theorem encB_no {x : Nt} (h : ¬ San x) : encB x = [] := by unfold encB; rw [if_neg h]
theorem encE_no {x : Nt} (h : ¬ San x) : encE x = 1 := by unfold encE; rw [if_neg h]

set_option maxHeartbeats 1000000 in
theorem enc_no (x : Nt) (r : Nr) (w : World) (hx : NtAt w x r) (hsm : SmallN x) (hs : ¬ San x) : Calls Try.prog 13 #[ntV x r] w (BytesOut w [] 1) := by
  obtain ⟨A1, k1, c1, B1, l1, d1, e1⟩ := r
  obtain ⟨HX, HB, HN⟩ := nt_boxed w x _ hx 25
  clear hx
  unfold ntV
  obtain ⟨C, hC⟩ : ∃ C, C = ntC x ⟨A1, k1, c1, B1, l1, d1, e1⟩ := ⟨_, rfl⟩
  rw [← hC] at HX HB HN ⊢
  clear hC
  have HSY : Hid (sane x = false) := Lib.hid (sane_no hs)
  have HSM := Lib.hid hsm
  clear hs hsm
  go_enter Try.func13, Try.ntmps13
  go_upto_region 1 with fail
  generalize w.alloc (.cells C 25) = w0 at *
  have a0 := HX.out.c0
  have a1 := HX.out.c1
  have a2 := HX.out.c2
  have a3 := HX.out.c3
  simp only at a0 a1 a2 a3
  go_wp2_with fail
  refine (sane_any x ⟨A1, k1, c1, B1, l1, d1, e1⟩ w0 HN.out HSM.out).mono ?_
  rintro e w1 ⟨rfl, hb1⟩
  rw [HSY.out]
  have HB1 := Lib.hid (HB.out.trans (hb1.mono HB.out.size))
  clear hb1 a0 a1 a2 a3
  go_wp2_with fail
  go_ret2
  exact ⟨none, 0, 0, rfl, rfl, World.ownsRow_nil _ _ _ _, HB1.out⟩

theorem enc_any (x : Nt) (r : Nr) (w : World) (hx : NtAt w x r) (hsm : SmallN x) : Calls Try.prog 13 #[ntV x r] w (BytesOut w (encB x) (encE x)) := by
  by_cases hs : San x
  · rw [encB_yes hs, encE_yes hs]
    obtain ⟨K, S, im, op, rfl⟩ := kind_nat hs
    exact enc_yes K S im op r w hx hs
  · rw [encB_no hs, encE_no hs]
    exact enc_no x r w hx hsm hs

set_option maxHeartbeats 1000000 in
theorem size_any (x : Nt) (r : Nr) (w : World) (hx : NtAt w x r) (hsm : SmallN x) : Calls Try.prog 21 #[ntV x r] w fun e w' => e = .returned (.int .i64 ((encB x).length : Int)) ∧ Below w.heap.size w w' := by
  obtain ⟨A1, k1, c1, B1, l1, d1, e1⟩ := r
  obtain ⟨HX, HB, HN⟩ := nt_boxed w x _ hx 25
  clear hx
  unfold ntV
  obtain ⟨C, hC⟩ : ∃ C, C = ntC x ⟨A1, k1, c1, B1, l1, d1, e1⟩ := ⟨_, rfl⟩
  rw [← hC] at HX HB HN ⊢
  clear hC
  have HSM := Lib.hid hsm
  clear hsm
  go_enter Try.func21, Try.ntmps21
  go_upto_region 1 with fail
  generalize w.alloc (.cells C 25) = w0 at *
  have a0 := HX.out.c0
  have a1 := HX.out.c1
  have a2 := HX.out.c2
  have a3 := HX.out.c3
  simp only at a0 a1 a2 a3
  go_wp2_with fail
  refine (enc_any x ⟨A1, k1, c1, B1, l1, d1, e1⟩ w0 HN.out HSM.out).mono ?_
  rintro e w1 ⟨A, N, c, rfl, hN, hO, hb1⟩
  have HB1 := Lib.hid (HB.out.trans (hb1.mono HB.out.size))
  have HNN := Lib.hid hN
  clear hb1 a0 a1 a2 a3 hN hO
  go_wp2_with fail
  go_ret
  exact ⟨by rw [← HNN.out]; rfl, HB1.out⟩

end Go.Proofs.Ytjpnihmijnpjcaa
