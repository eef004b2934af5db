/-
  WireBack: the walk: numbers and bytes that are laid are read as they were, and nothing is left; of a byte less, the last one is too short.
-/
import Derived.Test.YtgmnhaohbpclkaaStaysWalk
import Derived.Test.YtgmnhaohbpclkaaPieces
namespace Go.Proofs.Ytgmnhaohbpclkaa
open Go.RowKit Wm

theorem sgn_back (s : Int) (h1 : -9223372036854775808 ≤ s) (h2 : s ≤ 9223372036854775807) : sgnI (sgn s : Int) = s ∧ sgn s < 18446744073709551616 := by
  obtain ⟨b1, b2⟩ := wrap_u64_bd s
  have e : ((sgn s : Nat) : Int) = IntKind.u64.wrap s := Int.toNat_of_nonneg b1
  have e2 : IntKind.u64.wrap s = s % 18446744073709551616 := by
    simp only [IntKind.wrap, IntKind.bits, IntKind.signed]
    simp
  unfold sgnI wrap64
  rw [e, e2]
  constructor
  · omega
  · omega

/-- what WireBack lays: a number of K bytes, a signed one, a list -/
def backB (K v : Nat) (s : Int) (l : List UInt8) : List UInt8 := putB K v ++ (putB 8 (sgn s) ++ (putB 2 l.length ++ l))

theorem backB_len (K v : Nat) (s : Int) (l : List UInt8) : (backB K v s l).length = K + 8 + 2 + l.length := by
  simp [backB, length_putB]; omega
theorem backB_num (K v : Nat) (s : Int) (l : List UInt8) : valB (((backB K v s l).drop 0).take K) = v % 256 ^ K := by
  rw [backB, piece1 _ _ _ _ (length_putB _ _), val_putB]
theorem backB_sgn (K v : Nat) (s : Int) (l : List UInt8) (h1 : -9223372036854775808 ≤ s) (h2 : s ≤ 9223372036854775807) : sgnI (valB (((backB K v s l).drop K).take 8) : Int) = s := by
  have h := sgn_back s h1 h2
  have e : (256 : Nat) ^ 8 = 18446744073709551616 := by decide
  rw [backB, piece2 _ _ _ _ 8 (length_putB _ _) (length_putB _ _), val_putB, e, Nat.mod_eq_of_lt h.2]
  exact h.1
theorem backB_cnt (K v : Nat) (s : Int) (l : List UInt8) (h : l.length ≤ 65535) : cntB (backB K v s l) (K + 8) = l.length := by
  have e : (256 : Nat) ^ 2 = 65536 := by decide
  unfold cntB
  rw [backB, piece3 _ _ _ _ _ (by simp [length_putB]), List.take_append_of_le_length (by simp [length_putB]), List.take_of_length_le (by simp [length_putB]), val_putB, e, Nat.mod_eq_of_lt (by omega)]
theorem backB_list (K v : Nat) (s : Int) (l : List UInt8) : ((backB K v s l).drop (K + 8 + 2)).take l.length = l := by
  have e : backB K v s l = (putB K v ++ putB 8 (sgn s)) ++ (putB 2 l.length ++ l) := by simp [backB]
  rw [e, piece3 _ _ _ _ _ (by simp [length_putB]), List.take_of_length_le (Nat.le_refl _)]

theorem conv_own {w1 W : World} {base : Nat} {A : Option Addr} {c n : Nat} {l : List UInt8} (h : Owns w1 base A c n l) (hb : Below w1.heap.size w1 W) :
    (convert 22 9 (.slice A n c)).run Try.prog W = .ok (.string ⟨l.toArray⟩) W :=
  run_string_rd (h.read.up hb) _ _ Try.underlying22 Try.underlying5 Try.underlying9 n c h.len

theorem get_okI {w : World} {r cap n k : Nat} {A : Option Addr} {l : List UInt8} (h : Cur w r 57 A cap n k l) (mi : Int) (m : Nat) (e : mi = m) (h1 : 1 ≤ m) (h2 : m ≤ 8) (hm : m ≤ n - k) :
    Calls Try.prog 17 #[.pointer (some ⟨r, 0, none⟩), .int .i64 mi] w (NumOk w r 57 A cap n k m l) := by
  subst e
  exact get_ok h m h1 h2 hm

/-- 'v & (1<<uint(8*k) - 1)' -/
theorem want_mask (v K : Nat) (y : Int) (hv : v ≤ 18446744073709551615) (hK : K < 8) (hy : 1 + y = K) : bits .and .u64 (v : Int) (IntKind.u64.wrap (IntKind.u64.wrap (2 ^ (8 * (1 + y)).toNat) - 1)) = ((v % 256 ^ K : Nat) : Int) := by
  have e1 : (8 * (1 + y)).toNat = 8 * K := by omega
  have e2 : ((2 : Int) ^ (8 * K)) = ((2 ^ (8 * K) : Nat) : Int) := by simp
  have h1 : (2 : Nat) ^ (8 * K) ≤ 2 ^ 56 := Nat.pow_le_pow_right (by omega) (by omega)
  have h2 : (2 : Nat) ^ 56 = 72057594037927936 := by decide
  have h3 : 0 < (2 : Nat) ^ (8 * K) := Nat.pos_of_ne_zero (by simp)
  rw [e1, e2, pow256]
  have e4 := Nat.and_two_pow_sub_one_eq_mod v (8 * K)
  generalize (2 : Nat) ^ (8 * K) = z at *
  have e5 : IntKind.u64.wrap (z : Int) = z := IntWalk.u64_in _ ⟨by omega, by omega⟩
  have e6 : ((z : Int) - 1) = ((z - 1 : Nat) : Int) := by omega
  rw [e5, e6]
  have e7 : IntKind.u64.wrap ((z - 1 : Nat) : Int) = ((z - 1 : Nat) : Int) := IntWalk.u64_in _ ⟨by omega, by omega⟩
  rw [e7, u64_and_nat _ _ (by omega) (by omega), e4]

section
variable {w : World} {r cap n k : Nat} {A : Option Addr} {l : List UInt8}
/-- a number, by its value -/
theorem get_val (h : Cur w r 57 A cap n k l) (mi : Int) (m : Nat) (e : mi = m) (h1 : 1 ≤ m) (h2 : m ≤ 8) (hm : m ≤ n - k) (x : Nat) (hx : valB ((l.drop k).take m) = x) (j : Nat) (hj : j = k + m) :
    Calls Try.prog 17 #[.pointer (some ⟨r, 0, none⟩), .int .i64 mi] w fun e w' => e = .returned (.tuple #[.int .u64 (x : Int), .int .i64 0]) ∧ Cur w' r 57 A cap n j l ∧ w.grownBy w' (some r) := by
  subst hx hj
  exact get_okI h mi m e h1 h2 hm
theorem sgn_val (h : Cur w r 57 A cap n k l) (hm : 8 ≤ n - k) (x : Int) (hx : sgnI (valB ((l.drop k).take 8) : Int) = x) (j : Nat) (hj : j = k + 8) :
    Calls Try.prog 19 #[.pointer (some ⟨r, 0, none⟩)] w fun e w' => e = .returned (.tuple #[.int .i64 x, .int .i64 0]) ∧ Cur w' r 57 A cap n j l ∧ w.grownBy w' (some r) := by
  subst hx hj
  exact rsigned_ok h hm
theorem list_val (h : Cur w r 57 A cap n k l) (most : Int) (hm : 2 ≤ n - k) (m : Nat) (hmc : cntB l k = m) (hc : (m : Int) ≤ most) (hn : m ≤ n - (k + 2)) (bs : List UInt8) (hbs : (l.drop (k + 2)).take m = bs) (j : Nat) (hj : j = k + 2 + m) :
    Calls Try.prog 21 #[.pointer (some ⟨r, 0, none⟩), .int .i64 most] w fun e w' => ∃ A' c', e = .returned (.tuple #[.slice A' m c', .int .i64 0]) ∧ Owns w' w.heap.size A' c' m bs ∧ Cur w' r 57 A cap n j l ∧ w.grownBy w' (some r) := by
  subst hmc hbs hj
  exact rlist_ok h most hm hc hn
end

/-- a list of which the last byte lacks -/
theorem list_torn {w : World} {r cap n k : Nat} {A : Option Addr} {l : List UInt8} (h : Cur w r 57 A cap n k l) (most : Int) (M : Nat) (hm : (M : Int) ≤ most) (h1 : n ≤ k + 1 + M) (h2 : k + 1 + M ≤ n) (hc : 1 ≤ M → cntB l k = M) (_ : k ≤ n) :
    Calls Try.prog 21 #[.pointer (some ⟨r, 0, none⟩), .int .i64 most] w fun e w' => e = .returned (.tuple #[.slice none 0 0, .int .i64 2]) ∧ Below w.heap.size w w' := by
  rcases Nat.eq_zero_or_pos M with h0 | h0
  · exact rlist_short h most (by omega)
  · have hcn := hc h0
    exact rlist_less h most (by omega) (by omega) (by omega)

theorem Owns.cap_le {w : World} {base : Nat} {A : Option Addr} {c n : Nat} {l : List UInt8} (h : Owns w base A c n l) : n ≤ c := by
  rcases h.2 with ⟨e, h0⟩ | ⟨g, c', cur, e, _, _, hn, _⟩
  · omega
  · injection e with _ _ e3
    omega

theorem belowMore {B : Nat} {w0 w w' : World} (h : Below B w0 w) {r : Nat} (hB : B ≤ w0.heap.size) (hr : B ≤ r) (hg : w.grownBy w' (some r)) : Below B w0 w' := h.grown hg (Nat.le_trans hB h.size) (fun k hk => by injection hk with hk; omega)

set_option maxHeartbeats 4000000 in
theorem back_walk (v : Nat) (n s : Int) (A : Option Addr) (c M : Nat) (l : List UInt8) (HM : Hid (l.length = M)) (w : World) (hr : Rd w w.heap.size A l) (hv : v ≤ 18446744073709551615) (hs1 : -9223372036854775808 ≤ s) (hs2 : s ≤ 9223372036854775807) :
    Calls Try.prog 5 #[.int .u64 v, .int .i64 n, .int .i64 s, .slice A M c] w fun e w' => e = .returned (.bool true) ∧ Below w.heap.size w w' := by
  by_cases hlen : M ≤ 1000
  · obtain ⟨y, K, hy, hy1, hy2, hK1, hK8⟩ : ∃ (y : Int) (K : Nat), y = n % 8 ∧ (K : Int) ≤ 1 + y ∧ 1 + y ≤ K ∧ 1 ≤ K ∧ K ≤ 8 := ⟨n % 8, (1 + n % 8).toNat, rfl, by omega, by omega, by omega, by omega⟩
    have hand : bits .and .i64 n 7 = y := by rw [and7, hy]
    clear hy
    go_enter Try.func5, Try.ntmps5
    go_wp2_with fail
    refine (awake_any w).mono ?_
    rintro e w0 ⟨rfl, hb0⟩
    go_wp2_with fail
    refine (put_core none 0 0 [] rfl v (1 + y) K w0 (Rd.nil _ _ _) (by omega) hv hK8 (by omega)).mono ?_
    rintro e w1 ⟨A1, c1, rfl, ho1, hb1⟩
    go_wp2_with fail
    refine (signed_any A1 c1 K (putB K v) (length_putB K v) s w1 ho1.read (by omega)).mono ?_
    rintro e w2 ⟨A2, c2, rfl, ho2, hb2⟩
    go_wp2_with fail
    have hb02 : Below w.heap.size w w2 := (hb0.trans (hb1.mono hb0.size)).trans (hb2.mono (Nat.le_trans hb0.size hb1.size))
    refine (list_any A2 c2 (K + 8) (putB K v ++ putB 8 (sgn s)) (by simp [Hid, length_putB]) A c M l HM w2 ho2.read (hr.up hb02) (by omega) (by omega)).mono ?_
    rw [if_pos (by omega)]
    rintro e w3 ⟨A3, c3, rfl, ho3, hb3⟩
    have B3 : Below w.heap.size w w3 := hb02.trans (hb3.mono hb02.size)
    have hbb : (putB K v ++ putB 8 (sgn s)) ++ listB l = backB K v s l := by
      unfold backB listB
      rw [HM.out, if_pos (by omega), List.append_assoc]
    rw [hbb] at ho3
    clear hbb hb3 ho2 hb2 ho1 hb1 hb0 hb02
    go_wp2_with fail
    have hcl := ho3.cap_le
    have HT : Hid ((backB K v s l).length = K + 8 + (2 + M)) := ho3.len
    have hr3 := ho3.read
    clear ho3
    generalize hT : K + 8 + (2 + M) = T at *
    have hT1 : K + 10 + M ≤ T := by omega
    have hT2 : T ≤ K + 10 + M := by omega
    clear hT
    refine (new_any HT hcl (by omega) hr3).mono ?_
    rintro e w4 ⟨r, rfl, hcur4, hb4, hr4⟩
    have B4 := hide2 hb4
    have HB3 := hide2 B3
    clear B3
    clear hb4
    obtain ⟨x, hx, hx2⟩ : ∃ x, Hid (x = v % 256 ^ K) ∧ x ≤ v := ⟨_, rfl, Nat.mod_le _ _⟩
    have R1 := hide2 (backB_num K v s l)
    have R2 := hide2 (backB_sgn K v s l hs1 hs2)
    have R3 := hide2 (backB_cnt K v s l (by rw [HM.out]; omega))
    have R4 := hide2 (backB_list K v s l)
    have hr3' := hide2 hr3
    clear hr3
    generalize backB K v s l = bb at *
    go_wp2_with fail
    refine (get_val hcur4 (1 + y) K (by omega) hK1 hK8 (by omega) x (by rw [R1.out, hx.out]) K (by omega)).mono ?_
    rintro e w5 ⟨rfl, hcur5, hg5⟩
    have B5 := hide2 (belowMore B4.out (Nat.le_refl _) hr4 hg5)
    clear hcur4 hg5 B4
    go_wp2_with fail
    refine (sgn_val hcur5 (by omega) s R2.out (K + 8) rfl).mono ?_
    rintro e w6 ⟨rfl, hcur6, hg6⟩
    have B6 := hide2 (belowMore B5.out (Nat.le_refl _) hr4 hg6)
    clear hcur5 hg6 B5
    go_wp2_with fail
    refine (list_val hcur6 _ (by omega) M (by rw [R3.out, HM.out]) (by omega) (by omega) l (by rw [← HM.out]; exact R4.out) T (by omega)).mono ?_
    rintro e w7 ⟨A7, c7, rfl, ho7, hcur7, hg7⟩
    have B7 := hide2 (belowMore B6.out (Nat.le_refl _) hr4 hg7)
    clear hcur6 hg7 B6
    go_wp2_with fail
    refine (rend_done hcur7 (Nat.le_refl _)).mono ?_
    rintro e w8 ⟨rfl, hb8⟩
    have B8 := hide2 (B7.out.trans (hb8.mono B7.out.size))
    have D8 := hide2 (HB3.out.trans (B8.out.mono HB3.out.size))
    have hcv1 : (convert 22 9 (.slice A7 M c7)).run Try.prog w8 = .ok (.string ⟨l.toArray⟩) w8 := conv_own ho7 hb8
    have hcv2 : (convert 22 9 (.slice A M c)).run Try.prog w8 = .ok (.string ⟨l.toArray⟩) w8 := run_string_rd (hr.up D8.out) _ _ Try.underlying22 Try.underlying5 Try.underlying9 M c HM.out
    clear hcur7 hb8 B7 ho7
    have fin : ∀ W, Below w8.heap.size w8 W → True := fun _ _ => trivial
    clear fin
    have hr8 : Rd w8 w3.heap.size A3 (bb.take (T - 1)) := by
      have h1 : Rd w8 w3.heap.size A3 bb := hr3'.out.below B8.out
      have h2 := Rd.cut h1 0 (T - 1) A3 (fun b o e _ => e)
      rwa [List.drop_zero] at h2
    have HT2 : Hid ((bb.take (T - 1)).length = T - 1) := by show _ = _; rw [List.length_take, HT.out]; omega
    have hrr : Hid (Rd w8 w8.heap.size A3 (bb.take (T - 1))) := hr8.more B8.out.size
    clear hr8
    have R1' : Hid (valB (((bb.take (T - 1)).drop 0).take K) = x) := by show _ = _; rw [take_cut _ _ _ _ (by omega), R1.out, hx.out]
    have R2' : Hid (sgnI (valB (((bb.take (T - 1)).drop K).take 8) : Int) = s) := by show _ = _; rw [take_cut _ _ _ _ (by omega), R2.out]
    have R3' : Hid (1 ≤ M → cntB (bb.take (T - 1)) (K + 8) = M) := fun h1 => by unfold cntB; rw [take_cut _ _ _ _ (by omega)]; exact R3.out.trans HM.out
    generalize bb.take (T - 1) = dd at *
    obtain ⟨S, hS1, hS2⟩ : ∃ S, S + 1 ≤ T ∧ T ≤ S + 1 := ⟨T - 1, by omega, by omega⟩
    have HS : Hid (T - 1 = S) := by show _ = _; omega
    have hfin : ((T : Int) == 1 + y + 8 + 2 + (M : Int)) = true := beq_iff_eq.2 (by omega)
    have HX : Hid (8 ≤ K → x = v) := fun h8 => by
      have e : (256 : Nat) ^ 8 = 18446744073709551616 := by decide
      rw [hx.out, show K = 8 from by omega, e, Nat.mod_eq_of_lt (by omega)]
    have HW : Hid (K < 8 → bits .and .u64 (v : Int) (IntKind.u64.wrap (IntKind.u64.wrap (2 ^ (8 * (1 + y)).toNat) - 1)) = (x : Int)) := fun hK => by rw [want_mask v K y hv hK (by omega), hx.out]
    have HD : (K < 8 ∧ bits .and .u64 (v : Int) (IntKind.u64.wrap (IntKind.u64.wrap (2 ^ (8 * (1 + y)).toNat) - 1)) = (x : Int)) ∨ (8 ≤ K ∧ (x : Int) = (v : Int)) := by
      rcases Nat.lt_or_ge K 8 with hK | hK
      · exact .inl ⟨hK, HW.out hK⟩
      · exact .inr ⟨hK, by rw [HX.out hK]⟩
    rcases HD with ⟨hK, hw⟩ | ⟨hK, hw⟩
    all_goals
      go_wp2_with fail
      rw [HS.out]
      refine (new_any (HS.out ▸ HT2) (by omega) (by omega) hrr.out).mono ?_
      rintro e w9 ⟨q, rfl, hcur9, hb9, hq9⟩
      have D9 := hide2 (D8.out.trans (hb9.mono D8.out.size))
      have hqB : w.heap.size ≤ q := Nat.le_trans D8.out.size hq9
      clear hb9
      go_wp2_with fail
      refine (get_val hcur9 (1 + y) K (by omega) hK1 hK8 (by omega) x R1'.out K (by omega)).mono ?_
      rintro e w10 ⟨rfl, hcur10, hg10⟩
      have D10 := hide2 (belowMore D9.out (Nat.le_refl _) hqB hg10)
      clear hcur9 hg10 D9
      go_wp2_with fail
      refine (sgn_val hcur10 (by omega) s R2'.out (K + 8) rfl).mono ?_
      rintro e w11 ⟨rfl, hcur11, hg11⟩
      have D11 := hide2 (belowMore D10.out (Nat.le_refl _) hqB hg11)
      clear hcur10 hg11 D10
      go_wp2_with fail
      refine (list_torn hcur11 _ M (by omega) (by omega) (by omega) R3'.out (by omega)).mono ?_
      rintro e w12 ⟨rfl, hb12⟩
      have D12 := hide2 (D11.out.trans (hb12.mono D11.out.size))
      clear hcur11 hb12 D11
      go_wp2_with fail
      go_ret
      exact ⟨rfl, D12.out⟩
  · go_enter Try.func5, Try.ntmps5
    go_wp2_with fail
    refine (awake_any w).mono ?_
    rintro e w0 ⟨rfl, hb0⟩
    go_wp2_with fail
    go_ret
    exact ⟨rfl, hb0⟩
end Go.Proofs.Ytgmnhaohbpclkaa
