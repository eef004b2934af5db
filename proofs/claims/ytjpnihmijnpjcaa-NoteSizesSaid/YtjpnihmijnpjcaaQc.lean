/-
  A note's bytes: the program's Encode and Size; is it a Commit that may be?
-/
import Derived.Test.YtjpnihmijnpjcaaQb
namespace Go.Proofs.Ytjpnihmijnpjcaa
set_option maxRecDepth 100000
set_option linter.unusedVariables false
set_option linter.unusedSimpArgs false
open Go.RowKit Wm Nn

section
variable {w0 V : World} {A : Option Addr} {c L : Nat} {l : List UInt8}
theorem pput_wr (h : Wr w0 V A c L l) (hl : L ≤ 1000000) (v : Nat) (hv : v ≤ 18446744073709551615) (n : Int) (k : Nat) (hn : n = (k : Int)) (hk : k ≤ 8) :
    Calls Try.prog 24 #[.slice A L c, .int .u64 v, .int .i64 n] V (WrOut w0 (L + k) (l ++ putB k v)) :=
  (put_core A c L l (Lib.hid h.own.len) v n k V h.own.read (by omega) hv hk (.inr (.inl ⟨by omega, by omega, by omega⟩))).mono fun e W hm => Wr.made h.below hm
theorem psigned_wr (h : Wr w0 V A c L l) (hl : L ≤ 1000000) (v : Int) :
    Calls Try.prog 25 #[.slice A L c, .int .i64 v] V (WrOut w0 (L + 8) (l ++ putB 8 (sgn v))) :=
  (signed_any A c L l (Lib.hid h.own.len) v V h.own.read (by omega)).mono fun e W hm => Wr.made h.below hm
end
theorem wpList_app_row2 {w0 V : World} {A : Option Addr} {c L : Nat} {l : List UInt8} {ops : Array Oper} {rest : List Oper} {o : Oper} {a : Act} {Q : Exit → Act → World → Prop} (h : Wr w0 V A c L l) (hgd : o.guard = none) (s x : Operand)
    (ho : o.op = .call { callee := .builtin .append, args := #[s, x], argTypes := #[26, 26] }) (hs : a.eval s = .slice A L c) (A2 : Option Addr) (l2 : List UInt8) (m c2 : Nat) (hx : a.eval x = .slice A2 m c2) (hr : Rd V V.heap.size A2 l2) (hm : l2.length = m) (hl : L + m ≤ 1000000)
    (k : ∀ A' c' V', Wr w0 V' A' c' (L + m) (l ++ l2) → V.grownBy V' (Value.slice A L c).ownBlock → wpList Try.prog ops Q rest (a.put o.dst (.slice A' (L + m) c')) V') : wpList Try.prog ops Q (o :: rest) a V := by
  obtain ⟨i0, hi, hz0, hz1, hz2⟩ := info_parts byte_info
  refine wpList_append_rd hgd s x _ ho w0.heap.size i0 Try.underlying26 hi hz0 hz1 hz2 (.slice A L c) L _ hs h.own V.heap.size A2 l2 m c2 hx hr hm (by omega) h.below.size ?_
  intro v W hown hg _
  obtain ⟨A1, c1, rfl, ho1, hb1⟩ := append_step' h.own h.below h.below.size hown hg
  exact k A1 c1 W ⟨ho1, hb1⟩ hg
theorem Wr.lt {w0 V : World} {A : Option Addr} {c L : Nat} {l : List UInt8} (h : Wr w0 V A c L l) : ∀ q, (Value.slice A L c).ownBlock = some q → q < V.heap.size := fun q hq => (World.ownsRow.lt h.own q hq).2

/-- bytes made anew -/
def NewB (V : World) (k : Nat) (l : List UInt8) (e : Ending) (W : World) : Prop := ∃ A c, e = .returned (.slice A k c) ∧ Hid (Rd W W.heap.size A l) ∧ Hid (l.length = k) ∧ Hid (Below V.heap.size V W)
theorem Made.newB {V W : World} {k : Nat} {l : List UInt8} {e : Ending} (h : Made V k l e W) : NewB V k l e W := by
  obtain ⟨A, c, rfl, ho, hb⟩ := h
  exact ⟨A, c, rfl, Lib.hid ho.read, Lib.hid ho.len, Lib.hid hb⟩
theorem pput_new (V : World) (v : Nat) (hv : v ≤ 18446744073709551615) (n : Int) (k : Nat) (hn : n = (k : Int)) (hk : k ≤ 8) :
    Calls Try.prog 24 #[.slice none 0 0, .int .u64 v, .int .i64 n] V (NewB V k (putB k v)) :=
  (put_core none 0 0 [] (Lib.hid rfl) v n k V (.inl rfl) (by omega) hv hk (.inr (.inl ⟨by omega, by omega, by omega⟩))).mono fun e W hm => Made.newB (by simpa using hm)
theorem psigned_new (V : World) (v : Int) :
    Calls Try.prog 25 #[.slice none 0 0, .int .i64 v] V (NewB V 8 (putB 8 (sgn v))) :=
  (signed_any none 0 0 [] (Lib.hid rfl) v V (.inl rfl) (by omega)).mono fun e W hm => Made.newB (by simpa using hm)

set_option maxHeartbeats 4000000 in
theorem penc_yes (K S : Nat) (im : List Im) (op : List Od) (r : Nr) (w : World) (hx : NtAt w ⟨(K : Int), (S : Int), im, op⟩ r) (hs : San ⟨(K : Int), (S : Int), im, op⟩) : Calls Try.prog 11 #[ntV ⟨(K : Int), (S : Int), im, op⟩ r] w (BytesOut w (enc ⟨(K : Int), (S : Int), im, op⟩) 0) := by
  obtain ⟨A1, k1, c1, B1, l1, d1, e1⟩ := r
  obtain ⟨HX, HB, HN⟩ := nt_boxed w _ _ hx 32
  clear hx
  unfold ntV
  obtain ⟨C, hC⟩ : ∃ C, C = ntC ⟨(K : Int), (S : Int), im, op⟩ ⟨A1, k1, c1, B1, l1, d1, e1⟩ := ⟨_, rfl⟩
  rw [← hC] at HX HB HN ⊢
  clear hC
  obtain ⟨n1, n2, n3, n4⟩ := HN.out.n_
  simp only at n1 n2 n3 n4
  obtain ⟨⟨g1, ⟨g2, g3⟩, g4, g5, g6⟩, hi, ho⟩ := hs
  simp only at g1 g2 g3 g4 g5 hi ho
  have hk1 : k1 ≤ 256 := by omega
  have hl1 : l1 ≤ 256 := by omega
  have hK : K ≤ 2 := by omega
  have hS : S ≤ 1099511627776 := by omega
  have HI := Lib.hid hi
  have HO := Lib.hid ho
  have HSM : Hid (SmallN ⟨(K : Int), (S : Int), im, op⟩) := Lib.hid ⟨by simp only; omega, by simp only; omega, fun i y hy => by have := (hi i y hy).2.1; omega⟩
  have HSY : Hid (sane ⟨(K : Int), (S : Int), im, op⟩ = true) := Lib.hid (sane_yes ⟨⟨g1, ⟨g2, g3⟩, g4, g5, g6⟩, hi, ho⟩)
  have HLN := Lib.hid (And.intro n1 n3)
  clear g1 g2 g3 g4 g5 g6 hi ho n1 n3
  go_enter Try.func11, Try.ntmps11
  go_upto_region 1 with fail
  generalize w.alloc (.cells C 32) = w0 at *
  have a0 := HX.out.c0
  have a1 := HX.out.c1
  have a2 := HX.out.c2
  have a3 := HX.out.c3
  simp only at a0 a1 a2 a3
  go_wp2_with fail
  refine (psane_any ⟨(K : Int), (S : Int), im, op⟩ ⟨A1, k1, c1, B1, l1, d1, e1⟩ w0 HN.out HSM.out).mono ?_
  rintro e w1 ⟨rfl, hb1⟩
  rw [HSY.out]
  have HX1 := Lib.hid (HX.out.below hb1)
  have HB1 := Lib.hid hb1
  clear hb1 a0 a1 a2 a3
  have a0 := HX1.out.c0
  simp only at a0
  go_wp2_with fail
  refine (pput_wr ((Wr.nil w0).up HB1.out) (by omega) K (by omega) 1 1 rfl (by omega)).mono ?_
  rintro e w2 ⟨A2, c2, rfl, HW2⟩
  have HX2 := Lib.hid (HX.out.below HW2.out.below)
  clear HX1 HB1 a0
  have a1 := HX2.out.c1
  simp only at a1
  go_wp2_with fail
  refine (pput_wr HW2.out (by omega) S (by omega) 6 6 rfl (by omega)).mono ?_
  rintro e w3 ⟨A3, c3, rfl, HW3⟩
  have HX3 := Lib.hid (HX.out.below HW3.out.below)
  clear HX2 HW2 a1
  have a2 := HX3.out.c2
  simp only at a2
  go_wp2_with fail
  refine (pput_wr HW3.out (by omega) k1 (by omega) 2 2 rfl (by omega)).mono ?_
  rintro e w4 ⟨A4, c4, rfl, HW4⟩
  clear HX3 HW3 a2
  have HX4 := Lib.hid (HX.out.below HW4.out.below)
  obtain ⟨n, hn⟩ : ∃ n, n = 0 + 1 + 6 + 2 := ⟨_, rfl⟩
  have HN9 := Lib.hid hn
  have HW5 : Hid (Wr w0 w4 A4 c4 n (encH ⟨(K : Int), (S : Int), im, op⟩)) := Lib.hid (by
    have h := HW4.out
    rw [← hn] at h
    have e : encH ⟨(K : Int), (S : Int), im, op⟩ = [] ++ putB 1 K ++ putB 6 S ++ putB 2 k1 := by
      unfold encH
      rw [← HLN.out.1]
      simp
    rw [e]
    exact h)
  rw [← hn]
  clear hn HW4
  have hn9 : n ≤ 9 := by have := HN9.out; omega
  have a2 := HX4.out.c2
  simp only at a2
  go_wp2_with fail
  clear a2 HX4
  go_loopg [4, 30] k1 (fun gn b i wr => ∃ (j : Nat) (A : Option Addr) (c L : Nat) (l : List UInt8), i = .int .i64 (j : Int) ∧ b = .slice A L c ∧ j + gn = k1 ∧ L ≤ 9 + 33 * j ∧ Hid (l = encH ⟨(K : Int), (S : Int), im, op⟩ ++ ims (im.take j)) ∧ Hid (Wr w0 wr A c L l))
  case atStart => exact ⟨0, A4, c4, n, _, rfl, rfl, by omega, by omega, Lib.hid (by simp [ims]), HW5⟩
  case round =>
    obtain ⟨j, A, c, L, l, rfl, rfl, hog, hL, HLL, HW⟩ := hrel
    rcases Nat.lt_or_ge j k1 with hlt | hge
    · have hdj : decide (j < k1) = true := decide_eq_true hlt
      have hdi : decide ((j : Int) < (k1 : Int)) = true := decide_eq_true (by omega)
      have him := HN.out.im
      obtain ⟨xi, ⟨ri, ra, rn, rc⟩, bx, ox, hxi, _, hX⟩ := him.get hlt
      have HXI := Lib.hid hxi
      have eA := hX.a
      simp only at eA
      subst eA
      obtain ⟨z1, z2, _⟩ := HI.out j xi hxi
      obtain ⟨kx, hkx⟩ : ∃ kx : Nat, xi.k = (kx : Int) := ⟨xi.k.toNat, by omega⟩
      have hkx8 : kx < 256 := by omega
      have HKX := Lib.hid hkx
      have HL := Lib.hid hX.li.len
      simp only at HL
      have hrn : rn = 32 := by have := HL.out; omega
      subst hrn
      have K0 : Hid (∀ V, Below w0.heap.size w0 V → V.cell? ⟨bx, ox + j * 2, none⟩ = some (.int .i64 (kx : Int))) := Lib.hid (fun V hV => by rw [← hkx]; exact (hV.cell (p := ⟨bx, ox + j * 2, none⟩) hX.lt).trans hX.c0)
      have K1 : Hid (∀ V, Below w0.heap.size w0 V → V.cell? ⟨bx, ox + j * 2 + 1, none⟩ = some (.slice ra 32 rc)) := Lib.hid (fun V hV => (hV.cell (p := ⟨bx, ox + j * 2 + 1, none⟩) hX.lt).trans hX.c1)
      have K2 : Hid (∀ V, Below w0.heap.size w0 V → Rd V V.heap.size ra xi.d) := Lib.hid (fun V hV => hX.li.rd.up hV)
      have HI2 : Hid (imB xi = putB 1 kx ++ xi.d) := Lib.hid (by unfold imB; rw [HKX.out]; rfl)
      have y0 := K0.out _ HW.out.below
      have y1 := K1.out _ HW.out.below
      clear hxi hX z1 z2 hkx him
      go_upto_region 9 with fail
      have HK := Lib.hid (Bk.new wr #[.int .i64 (kx : Int), .slice ra 32 rc] 51)
      have HW6 := Lib.hid (HW.out.up (below_new wr (.cells #[.int .i64 (kx : Int), .slice ra 32 rc] 51)))
      have HLT := Lib.hid HW.out.lt
      clear HW y0 y1
      obtain ⟨g, hg⟩ : ∃ g, g = wr.heap.size := ⟨_, rfl⟩
      rw [← hg] at HK HLT ⊢
      clear hg
      generalize wr.alloc (.cells #[.int .i64 (kx : Int), .slice ra 32 rc] 51) = w6 at *
      have y0 : w6.cell? ⟨g, 0, none⟩ = some (.int .i64 (kx : Int)) := HK.out.c 0 _ rfl
      go_wp2_with fail
      refine (pput_new w6 kx (by omega) 1 1 rfl (by omega)).mono ?_
      rintro e w7 ⟨A7, c7, rfl, HR7, HL7, HB7⟩
      have HW7 := Lib.hid (HW6.out.up HB7.out)
      have HK7 := Lib.hid (HK.out.below HB7.out)
      clear HW6 y0 HK
      go_upto_region 10 with (at_builtin; refine wpList_app_row2 HW7.out rfl (.tmp 34) (.tmp 38) rfl rfl A7 _ 1 c7 rfl HR7.out HL7.out (by omega) ?_; intro A8 c8 w8 hw8 hg8; have HW8 := Lib.hid hw8; have HK8 := Lib.hid (HK7.out.far hg8 (fun e => by have := HLT.out g e.symm; omega)); clear hw8 hg8)
      have y1 : w8.cell? ⟨g, 1, none⟩ = some (.slice ra 32 rc) := HK8.out.c 1 _ rfl
      go_wp2_with (at_builtin; refine wpList_app_row HW8.out rfl (.tmp 40) (.tmp 42) rfl rfl ra xi.d 32 rc rfl (K2.out _ HW8.out.below) HL.out (by omega) ?_; intro A9 c9 w9 hw9; have HW9 := Lib.hid hw9; clear hw9)
      go_roundg (gk - 1)
      case measure => omega
      case rel => exact ⟨j + 1, A9, c9, L + 1 + 32, _, by go_num, rfl, by omega, by omega, Lib.hid (by rw [HLL.out, take_step HXI.out, ims_step, HI2.out]; simp), HW9⟩
    · obtain rfl : j = k1 := by omega
      clear hge
      have HX1 := Lib.hid (HX.out.below HW.out.below)
      have a3 := HX1.out.c3
      simp only at a3
      have HIM : Hid (l = encH ⟨(K : Int), (S : Int), im, op⟩ ++ ims im) := Lib.hid (by rw [HLL.out, List.take_of_length_le (by have := HLN.out.1; omega)])
      clear HLL
      go_wp2_with fail
      refine (pput_wr HW.out (by omega) l1 (by omega) 2 2 rfl (by omega)).mono ?_
      rintro e w8 ⟨A8, c8, rfl, HW8⟩
      clear HX1 HW a3
      have HX8 := Lib.hid (HX.out.below HW8.out.below)
      have a3 := HX8.out.c3
      simp only at a3
      go_wp2_with fail
      clear a3 HX8
      go_loopg [4, 54] l1 (fun gn b i wr => ∃ (u : Nat) (A : Option Addr) (c L : Nat) (q : List UInt8), i = .int .i64 (u : Int) ∧ b = .slice A L c ∧ u + gn = l1 ∧ L ≤ 11 + 33 * j + 9 * u ∧ Hid (q = encH ⟨(K : Int), (S : Int), im, op⟩ ++ ims im ++ putB 2 l1 ++ ops (op.take u)) ∧ Hid (Wr w0 wr A c L q))
      case atStart => exact ⟨0, A8, c8, L + 2, _, rfl, rfl, by omega, by omega, Lib.hid (by rw [HIM.out]; simp [ops]), HW8⟩
      case round =>
        obtain ⟨u, A, c, L, q, rfl, rfl, hog2, hL2, HLL, HW⟩ := hrel
        rcases Nat.lt_or_ge u l1 with hlt | hge
        · have hdj : decide (u < l1) = true := decide_eq_true hlt
          have hdi : decide ((u : Int) < (l1 : Int)) = true := decide_eq_true (by omega)
          obtain ⟨xo, bo, oo, hxo, hO⟩ := HN.out.op.get hlt
          have HXO := Lib.hid hxo
          have eA := hO.a
          simp only at eA
          subst eA
          have z1 := HO.out u xo hxo
          obtain ⟨kx, hkx⟩ : ∃ kx : Nat, xo.c = (kx : Int) := ⟨xo.c.toNat, by omega⟩
          have hkx8 : kx < 256 := by omega
          have HKX := Lib.hid hkx
          have K0 : Hid (∀ V, Below w0.heap.size w0 V → V.cell? ⟨bo, oo + u * 2, none⟩ = some (.int .i64 (kx : Int))) := Lib.hid (fun V hV => by rw [← hkx]; exact (hV.cell (p := ⟨bo, oo + u * 2, none⟩) hO.lt).trans hO.c0)
          have K1 : Hid (∀ V, Below w0.heap.size w0 V → V.cell? ⟨bo, oo + u * 2 + 1, none⟩ = some (.int .i64 xo.b)) := Lib.hid (fun V hV => (hV.cell (p := ⟨bo, oo + u * 2 + 1, none⟩) hO.lt).trans hO.c1)
          have HI2 : Hid (opB xo = putB 1 kx ++ putB 8 (sgn xo.b)) := Lib.hid (by unfold opB; rw [HKX.out]; rfl)
          have y0 := K0.out _ HW.out.below
          have y1 := K1.out _ HW.out.below
          clear hxo hO z1 hkx
          go_upto_region 16 with fail
          have HK := Lib.hid (Bk.new wr #[.int .i64 (kx : Int), .int .i64 xo.b] 53)
          have HW6 := Lib.hid (HW.out.up (below_new wr (.cells #[.int .i64 (kx : Int), .int .i64 xo.b] 53)))
          have HLT := Lib.hid HW.out.lt
          clear HW y0 y1
          obtain ⟨g, hg⟩ : ∃ g, g = wr.heap.size := ⟨_, rfl⟩
          rw [← hg] at HK HLT ⊢
          clear hg
          generalize wr.alloc (.cells #[.int .i64 (kx : Int), .int .i64 xo.b] 53) = w6 at *
          have y0 : w6.cell? ⟨g, 0, none⟩ = some (.int .i64 (kx : Int)) := HK.out.c 0 _ rfl
          go_wp2_with fail
          refine (pput_new w6 kx (by omega) 1 1 rfl (by omega)).mono ?_
          rintro e w7 ⟨A7, c7, rfl, HR7, HL7, HB7⟩
          have HW7 := Lib.hid (HW6.out.up HB7.out)
          have HK7 := Lib.hid (HK.out.below HB7.out)
          clear HW6 y0 HK
          go_upto_region 17 with (at_builtin; refine wpList_app_row2 HW7.out rfl (.tmp 58) (.tmp 62) rfl rfl A7 _ 1 c7 rfl HR7.out HL7.out (by omega) ?_; intro A8 c8 w8 hw8 hg8; have HW8 := Lib.hid hw8; have HK8 := Lib.hid (HK7.out.far hg8 (fun e => by have := HLT.out g e.symm; omega)); clear hw8 hg8)
          have y1 : w8.cell? ⟨g, 1, none⟩ = some (.int .i64 xo.b) := HK8.out.c 1 _ rfl
          go_wp2_with fail
          refine (psigned_new w8 xo.b).mono ?_
          rintro e w9 ⟨A9, c9, rfl, HR9, HL9, HB9⟩
          have HW9 := Lib.hid (HW8.out.up HB9.out)
          clear HW8 y1 HK8
          go_wp2_with (at_builtin; refine wpList_app_row HW9.out rfl (.tmp 64) (.tmp 67) rfl rfl A9 _ 8 c9 rfl HR9.out HL9.out (by omega) ?_; intro Aa ca wa hwa; have HWa := Lib.hid hwa; clear hwa)
          go_roundg (gk - 1)
          case measure => omega
          case rel => exact ⟨u + 1, Aa, ca, L + 1 + 8, _, by go_num, rfl, by omega, by omega, Lib.hid (by rw [HLL.out, take_step HXO.out, ops_step, HI2.out]; simp), HWa⟩
        · obtain rfl : u = l1 := by omega
          clear hge
          go_wp2_with fail
          have e : q = enc ⟨(K : Int), (S : Int), im, op⟩ := by
            rw [HLL.out, List.take_of_length_le (by have := HLN.out.2; omega)]
            unfold enc
            simp only
            rw [HLN.out.2]
          have HE := Lib.hid e
          clear e
          go_ret2
          rw [← HE.out]
          exact ⟨A, L, c, rfl, HW.out.own.len.symm, HW.out.own.base_le HB.out.size, HB.out.trans (HW.out.below.mono HB.out.size)⟩

set_option maxHeartbeats 1000000 in
theorem penc_no (x : Nt) (r : Nr) (w : World) (hx : NtAt w x r) (hsm : SmallN x) (hs : ¬ San x) : Calls Try.prog 11 #[ntV x r] w (BytesOut w [] 1) := by
  obtain ⟨A1, k1, c1, B1, l1, d1, e1⟩ := r
  obtain ⟨HX, HB, HN⟩ := nt_boxed w x _ hx 32
  clear hx
  unfold ntV
  obtain ⟨C, hC⟩ : ∃ C, C = ntC x ⟨A1, k1, c1, B1, l1, d1, e1⟩ := ⟨_, rfl⟩
  rw [← hC] at HX HB HN ⊢
  clear hC
  have HSY : Hid (sane x = false) := Lib.hid (sane_no hs)
  have HSM := Lib.hid hsm
  clear hs hsm
  go_enter Try.func11, Try.ntmps11
  go_upto_region 1 with fail
  generalize w.alloc (.cells C 32) = w0 at *
  have a0 := HX.out.c0
  have a1 := HX.out.c1
  have a2 := HX.out.c2
  have a3 := HX.out.c3
  simp only at a0 a1 a2 a3
  go_wp2_with fail
  refine (psane_any x ⟨A1, k1, c1, B1, l1, d1, e1⟩ w0 HN.out HSM.out).mono ?_
  rintro e w1 ⟨rfl, hb1⟩
  rw [HSY.out]
  have HB1 := Lib.hid (HB.out.trans (hb1.mono HB.out.size))
  clear hb1 a0 a1 a2 a3
  go_wp2_with fail
  go_ret2
  exact ⟨none, 0, 0, rfl, rfl, World.ownsRow_nil _ _ _ _, HB1.out⟩

theorem penc_any (x : Nt) (r : Nr) (w : World) (hx : NtAt w x r) (hsm : SmallN x) : Calls Try.prog 11 #[ntV x r] w (BytesOut w (encB x) (encE x)) := by
  by_cases hs : San x
  · rw [encB_yes hs, encE_yes hs]
    obtain ⟨K, S, im, op, rfl⟩ := kind_nat hs
    exact penc_yes K S im op r w hx hs
  · rw [encB_no hs, encE_no hs]
    exact penc_no x r w hx hsm hs

theorem enc_size {x : Nt} {n m : Nat} (hn : x.im.length = n) (hm : x.op.length = m) (h : San x) : (encB x).length = 11 + n * 33 + m * 9 := by
  rw [encB_yes h]
  subst hn hm
  have h2 := enc_len h
  omega
theorem enc_size_no {x : Nt} (h : ¬ San x) : (encB x).length = 0 := by rw [encB_no h]; rfl

set_option maxHeartbeats 1000000 in
theorem psize_any (x : Nt) (r : Nr) (w : World) (hx : NtAt w x r) (hsm : SmallN x) : Calls Try.prog 20 #[ntV x r] w fun e w' => e = .returned (.int .i64 ((encB x).length : Int)) ∧ Below w.heap.size w w' := by
  obtain ⟨A1, k1, c1, B1, l1, d1, e1⟩ := r
  obtain ⟨HX, HB, HN⟩ := nt_boxed w x _ hx 32
  clear hx
  unfold ntV
  obtain ⟨C, hC⟩ : ∃ C, C = ntC x ⟨A1, k1, c1, B1, l1, d1, e1⟩ := ⟨_, rfl⟩
  rw [← hC] at HX HB HN ⊢
  clear hC
  obtain ⟨n1, n2, n3, n4⟩ := HN.out.n_
  simp only at n1 n2 n3 n4
  have hk1 : k1 ≤ 1000 := by have := hsm.1; omega
  have hl1 : l1 ≤ 1000 := by have := hsm.2.1; omega
  have HSM := Lib.hid hsm
  obtain ⟨N, hN⟩ : ∃ N, N = (encB x).length := ⟨_, rfl⟩
  rw [← hN]
  by_cases hs : San x
  · have HE : Hid (N = 11 + k1 * 33 + l1 * 9) := Lib.hid (by rw [hN]; exact enc_size n1 n3 hs)
    have HSY : Hid (sane x = true) := Lib.hid (sane_yes hs)
    clear hs hsm n1 n3 hN
    go_enter Try.func20, Try.ntmps20
    go_upto_region 1 with fail
    generalize w.alloc (.cells C 32) = w0 at *
    have a0 := HX.out.c0
    have a1 := HX.out.c1
    have a2 := HX.out.c2
    have a3 := HX.out.c3
    simp only at a0 a1 a2 a3
    go_wp2_with fail
    refine (psane_any x ⟨A1, k1, c1, B1, l1, d1, e1⟩ w0 HN.out HSM.out).mono ?_
    rintro e w1 ⟨rfl, hb1⟩
    rw [HSY.out]
    have HB1 := Lib.hid (HB.out.trans (hb1.mono HB.out.size))
    have HX1 := Lib.hid (HX.out.below hb1)
    clear hb1 a0 a1 a2 a3
    have a2 := HX1.out.c2
    have a3 := HX1.out.c3
    simp only at a2 a3
    go_wp2_with fail
    go_ret
    exact ⟨by rw [HE.out]; rfl, HB1.out⟩
  · have HE : Hid (N = 0) := Lib.hid (by rw [hN]; exact enc_size_no hs)
    have HSY : Hid (sane x = false) := Lib.hid (sane_no hs)
    clear hs hsm n1 n3 hN
    go_enter Try.func20, Try.ntmps20
    go_upto_region 1 with fail
    generalize w.alloc (.cells C 32) = w0 at *
    have a0 := HX.out.c0
    have a1 := HX.out.c1
    have a2 := HX.out.c2
    have a3 := HX.out.c3
    simp only at a0 a1 a2 a3
    go_wp2_with fail
    refine (psane_any x ⟨A1, k1, c1, B1, l1, d1, e1⟩ w0 HN.out HSM.out).mono ?_
    rintro e w1 ⟨rfl, hb1⟩
    rw [HSY.out]
    have HB1 := Lib.hid (HB.out.trans (hb1.mono HB.out.size))
    clear hb1 a0 a1 a2 a3
    go_wp2_with fail
    go_ret
    exact ⟨by rw [HE.out]; rfl, HB1.out⟩
end Go.Proofs.Ytjpnihmijnpjcaa
