/-
  The edges between IDs; who waits for its kids.
-/
import Derived.Test.YtbokhhialfbjcaaGreatEdg11
import Derived.Test.YtbokhhialfbjcaaGreatRowsB
namespace Go.Proofs.YtbokhhialfbjcaaGreat
set_option maxRecDepth 100000
set_option linter.unusedVariables false
set_option linter.unusedSimpArgs false
open Go.RowKit Go.Shelf Go.Sort

theorem amongw_high (a b : Int) (h : b ≤ a) (w : World) : Calls Tryz.prog 44 #[.int .i64 a, .int .i64 b] w fun e w' => e = .returned (.bool false) ∧ w' = w := by
  rcases Int.lt_or_le a 0 with h0 | h0
  · exact amongw_low a b h0 w
  have h1 : decide (a < b) = false := decide_eq_false (by omega)
  have h2 : decide (0 ≤ a) = true := decide_eq_true h0
  have h3 : decide (a ≥ 0) = true := decide_eq_true h0
  go_enter Tryz.func44, Tryz.ntmps44
  go_wp2
  go_ret
  exact ⟨rfl, rfl⟩
theorem amongw_nat (a n : Nat) (w : World) : Calls Tryz.prog 44 #[.int .i64 (a : Int), .int .i64 (n : Int)] w fun e w' => e = .returned (.bool (decide (a < n))) ∧ w' = w := by
  by_cases h : a < n
  · rw [decide_eq_true h]; exact amongw_yes _ _ (by omega) w
  · rw [decide_eq_false h]; exact amongw_high _ _ (by omega) w

/-- no edge between IDs -/
def notB (N : Nat) (e : Nat × Nat) : Bool := !decide (e.1 < N) || !decide (e.2 < N)
def efL (N : Nat) (E : List (Nat × Nat)) : List (Nat × Nat) := E.filter fun e => !notB N e
theorem mem_efL {N : Nat} {E : List (Nat × Nat)} {a b : Nat} : (a, b) ∈ efL N E ↔ (a, b) ∈ E ∧ a < N ∧ b < N := by
  unfold efL notB
  rw [List.mem_filter]
  simp

abbrev Xb (W : World) (g : Nat) (Ax : Option Addr) (N cap : Nat) (c : Int) : Prop := Bk W g #[.slice Ax N cap, .int .i64 c] 31

theorem eof1_any (y : Nat × Nat) (g5 : Nat) (Ax : Option Addr) (N cap : Nat) (c : Int) (W : World) (hx : Xb W g5 Ax N cap c) :
    Calls Tryz.prog 43 #[.agg #[.int .i64 (y.1 : Int), .int .i64 (y.2 : Int)], .pointer (some ⟨g5, 0, none⟩)] W fun e w' => e = .returned (.bool (notB N y)) ∧ Below W.heap.size W w' := by
  rcases y with ⟨a, b⟩
  show Calls Tryz.prog 43 #[.agg #[.int .i64 (a : Int), .int .i64 (b : Int)], .pointer (some ⟨g5, 0, none⟩)] W _
  obtain ⟨W1, hW1⟩ : ∃ W1, W1 = W.alloc (.cells #[.int .i64 (a : Int), .int .i64 (b : Int)] 61) := ⟨_, rfl⟩
  have hb1 : Below W.heap.size W W1 := by rw [hW1]; exact below_new _ _
  have hk : Bk W1 W.heap.size #[.int .i64 (a : Int), .int .i64 (b : Int)] 61 := by rw [hW1]; exact Bk.new W _ _
  have c0 := hk.c 0 _ rfl
  have c1 := hk.c 1 _ rfl
  have c2 := (hx.below hb1).c 0 _ rfl
  have HB := Lib.hid hb1
  have H1 := Lib.hid (amongw_nat a N W1)
  have H2 := Lib.hid (amongw_nat b N W1)
  unfold notB
  simp only
  obtain ⟨p, hp⟩ : ∃ p, p = decide (a < N) := ⟨_, rfl⟩
  obtain ⟨q, hq⟩ : ∃ q, q = decide (b < N) := ⟨_, rfl⟩
  rw [← hp, ← hq]
  rw [← hp] at H1
  rw [← hq] at H2
  clear hp hq hb1 hk hx
  cases p
  · go_enter Tryz.func43, Tryz.ntmps43
    go_upto_region 1 with fail
    rw [← hW1]
    clear hW1
    go_wp2_with fail
    refine H1.out.mono ?_
    rintro e w' ⟨rfl, hw⟩
    replace hw := hw.symm
    subst hw
    go_wp2_with fail
    go_ret
    exact ⟨by simp, HB.out⟩
  · go_enter Tryz.func43, Tryz.ntmps43
    go_upto_region 1 with fail
    rw [← hW1]
    clear hW1
    go_wp2_with fail
    refine H1.out.mono ?_
    rintro e w' ⟨rfl, hw⟩
    replace hw := hw.symm
    subst hw
    go_wp2_with fail
    refine H2.out.mono ?_
    rintro e w' ⟨rfl, hw⟩
    replace hw := hw.symm
    subst hw
    go_wp2_with fail
    go_ret
    exact ⟨by simp, HB.out⟩

theorem edgL_len {T : Tr} {L : List Lk} {Q : List Wn} : (edgL T L Q).length ≤ Q.length * (L.length + Q.length) := by
  unfold edgL
  have : ∀ k, (edgN T L Q k).length ≤ k * (L.length + Q.length) := by
    intro k
    induction k with
    | zero => simp [edgN]
    | succ k ih =>
      rw [edgN_succ, List.length_append, List.length_map, Nat.succ_mul]
      have := outN_len (T := T) (L := L) (Q := Q) k
      omega
  exact this _

set_option maxHeartbeats 2000000 in
theorem edgesOf_any (Aq : Option Addr) (Q : List Wn) (nq kq : Nat) (A : Option Addr) (L : List Lk) (na ka : Nat) (Ax : Option Addr) (T : Tr) (N cap : Nat) (c : Int)
    (hQ : SQ Q) (hnq : Q.length = nq) (hL : LG L) (hna : L.length = na) (hnka : na ≤ ka) (hG : Good T) (hN : T.l.length = N) (w : World) (hrq : RW.At w Aq Q) (hrt : LkAt w A L) (hrx : TxAt w Ax T.l) :
    Calls Tryz.prog 17 #[.agg #[.slice Aq nq kq], .agg #[.slice A na ka], .agg #[.slice Ax N cap, .int .i64 c]] w fun e w' => ∃ v, e = .returned v ∧ RE.Own w' w.heap.size v (efL N (edgL T L Q)) ∧ Below w.heap.size w w' := by
  obtain ⟨w1, hw1⟩ : ∃ w1, w1 = ((w.alloc (.cells #[.slice Aq nq kq] 28)).alloc (.cells #[.slice A na ka] 34)).alloc (.cells #[.slice Ax N cap, .int .i64 c] 31) := ⟨_, rfl⟩
  have b1 : Below w.heap.size w w1 := by rw [hw1]; exact below_two (below_two (below_new _ _) (below_new _ _)) (below_new _ _)
  have kx : Xb w1 (w.heap.size + 1 + 1) Ax N cap c := by
    have h := Bk.new ((w.alloc (.cells #[.slice Aq nq kq] 28)).alloc (.cells #[.slice A na ka] 34)) #[.slice Ax N cap, .int .i64 c] 31
    rw [World.size_alloc, World.size_alloc] at h
    rw [hw1]; exact h
  have HED := Lib.hid (edges_any Aq Q nq kq A L na ka Ax T N cap c hQ hnq hL hna hnka hG hN w1 (hrq.below b1) (hrt.below b1) (hrx.below b1))
  have hlen := edgL_len (T := T) (L := L) (Q := Q)
  have hl2 : (edgL T L Q).length ≤ 10000000 := by
    have h1 : Q.length * (L.length + Q.length) ≤ 64 * (L.length + Q.length) := Nat.mul_le_mul_right _ hQ.n
    have h2 := hL.len
    have h3 := hQ.n
    omega
  have HB1 := Lib.hid b1
  have HKX := Lib.hid kx
  have HL2 := Lib.hid hl2
  clear hQ hnq hL hna hnka hG hN hrq hrt hrx b1 kx hlen hl2
  go_enter Tryz.func17, Tryz.ntmps17
  go_wp2_with fail
  rw [← hw1]
  clear hw1
  refine HED.out.mono ?_
  rintro e w2 ⟨v2, rfl, ho2, hb2⟩
  obtain ⟨A2, c2, rfl, hc2, hat2, _⟩ := Rk.Own.form re_ok ho2
  have HDL := Lib.hid (deleteE_any (w.heap.size + 1 + 1) (notB N) (edgL T L Q) A2 (edgL T L Q).length c2 w1.heap.size rfl HL2.out w2 ho2 hb2.size (fun V hV y hy => eof1_any y (w.heap.size + 1 + 1) Ax N cap c V ((HKX.out.below hb2).turn hV (by have := HKX.out.lt; omega))))
  have HB2 := Lib.hid hb2
  clear ho2 hb2 hat2 hc2
  go_wp2_with fail
  refine HDL.out.mono ?_
  rintro e w3 ⟨A3, n3, k3, rfl, ho3, hb3⟩
  have HO3 := Lib.hid ho3
  have HB3 := Lib.hid hb3
  clear ho3 hb3
  go_wp2_with fail
  go_ret
  exact ⟨_, rfl, Rk.Own.le HO3.out HB1.out.size, HB1.out.trans ((HB2.out.trans HB3.out).mono HB1.out.size)⟩

/-- who waits for its kids -/
def kidN (T : Tr) (n : Nat) : List (Nat × Nat) := ((List.range n).filter fun i => decide ((T.tx i).s = 1 ∧ 0 ≤ (T.tx i).p)).map fun i => ((T.tx i).p.toNat, i)
theorem kidN_succ (T : Tr) (n : Nat) : kidN T (n + 1) = kidN T n ++ (if (T.tx n).s = 1 ∧ 0 ≤ (T.tx n).p then [((T.tx n).p.toNat, n)] else []) := by
  unfold kidN
  rw [List.range_succ, List.filter_append, List.map_append]
  congr 1
  by_cases h : (T.tx n).s = 1 ∧ 0 ≤ (T.tx n).p
  · rw [if_pos h]; simp [h]
  · rw [if_neg h]
    rw [List.filter_cons_of_neg (by simpa using h)]; rfl
theorem kidN_len (T : Tr) (n : Nat) : (kidN T n).length ≤ n := by
  unfold kidN
  rw [List.length_map]
  have := List.length_filter_le (fun i => decide ((T.tx i).s = 1 ∧ 0 ≤ (T.tx i).p)) (List.range n)
  simpa using this
theorem mem_kidN {T : Tr} (hG : Good T) {a b : Nat} : (a, b) ∈ kidN T T.l.length ↔ a < T.l.length ∧ b < T.l.length ∧ kidOf T a b := by
  unfold kidN kidOf
  rw [List.mem_map]
  constructor
  · rintro ⟨i, hi, e⟩
    injection e with e1 e2
    subst e2
    obtain ⟨h1, h2⟩ := List.mem_filter.1 hi
    have h1 := List.mem_range.1 h1
    simp at h2
    have hp := hG.par i h1
    have hpa : (T.tx i).p = (a : Int) := by omega
    have hal : a < i := by omega
    have hn := hG.nest i h1 a (by rw [wayN_up (f := T.par) hpa hal]; exact List.mem_cons_of_mem _ (wayN_self _ _))
    exact ⟨by omega, h1, hn.1 h2.1, h2.1, hpa⟩
  · rintro ⟨h1, h2, h3, h4, h5⟩
    exact ⟨b, List.mem_filter.2 ⟨List.mem_range.2 h2, by simp [h4, h5]⟩, by rw [h5]; simp⟩

set_option maxHeartbeats 2000000 in
theorem kids_any (Ax : Option Addr) (T : Tr) (N cap : Nat) (c : Int) (hG : Good T) (hN : T.l.length = N) (w : World) (hrx : TxAt w Ax T.l) :
    Calls Tryz.prog 18 #[.agg #[.slice Ax N cap, .int .i64 c]] w fun e w' => ∃ v, e = .returned v ∧ RE.Own w' w.heap.size v (kidN T N) ∧ Below w.heap.size w w' := by
  have hN64 : N ≤ 64 := by have := hG.n; omega
  have HX := Lib.hid (Bk.new w #[.slice Ax N cap, .int .i64 c] 31)
  have HB := Lib.hid (below_new w (.cells #[.slice Ax N cap, .int .i64 c] 31))
  have HG := Lib.hid hG
  have HN := Lib.hid hN
  have HR := Lib.hid hrx
  clear hG hN hrx
  go_enter Tryz.func18, Tryz.ntmps18
  go_wp2_with fail
  go_loopw [3, 10] (fun lv iv wr => ∃ j : Nat, iv = .int .i64 (j : Int) ∧ j ≤ N ∧ Hid (RE.Own wr (w.heap.size + 1) lv (kidN T j)) ∧ Hid (Xb wr w.heap.size Ax N cap c) ∧ Hid (Below w.heap.size w wr)) (fun _ iv _ => N - (intOf iv).toNat)
  case atStart => exact ⟨0, rfl, Nat.zero_le _, Rk.Own.nil _ _ _, HX.out, HB.out⟩
  case round =>
    obtain ⟨j, rfl, hj, ho, hx, hb⟩ := hrel
    clear HX HB
    rcases Nat.lt_or_ge j N with hlt | hge
    · have hjl : j < T.l.length := by rw [HN.out]; exact hlt
      obtain ⟨b, rfl, _, p0, p1, p2, p3⟩ := (HR.out.below hb.out).get hjl
      have hp := HG.out.par j hjl
      have hks := kidN_succ T j
      have hkl := kidN_len T j
      have HKL := Lib.hid hkl
      obtain ⟨wz, hwz⟩ : ∃ wz, wz = wr.alloc (.cells #[.int .i64 (T.tx j).p, .int .i64 (T.tx j).s, .int .i64 (T.tx j).b, .int .i64 (T.tx j).e] 78) := ⟨_, rfl⟩
      have bz : Below wr.heap.size wr wz := by rw [hwz]; exact below_new _ _
      have kz : Bk wz wr.heap.size #[.int .i64 (T.tx j).p, .int .i64 (T.tx j).s, .int .i64 (T.tx j).b, .int .i64 (T.tx j).e] 78 := by rw [hwz]; exact Bk.new wr _ _
      have z0 := kz.c 0 _ rfl
      have z1 := kz.c 1 _ rfl
      have zx := (hx.out.below bz).c 0 _ rfl
      have HOZ := Lib.hid (ho.out.below bz)
      have HXZ := Lib.hid (hx.out.below bz)
      have HBZ := Lib.hid (hb.out.trans (bz.mono hb.out.size))
      have HKS := Lib.hid hks
      have HSZ := Lib.hid (show w.heap.size + 1 ≤ wz.heap.size from by have h1 := hx.out.lt; have h2 := bz.size; omega)
      obtain ⟨st, hst⟩ : ∃ st, st = (T.tx j).s := ⟨_, rfl⟩
      obtain ⟨pa, hpa⟩ : ∃ pa, pa = (T.tx j).p := ⟨_, rfl⟩
      rw [← hst] at hwz z1 p1
      rw [← hpa] at hwz z0 p0 hp
      by_cases hs1 : st = 1
      · rcases Int.lt_or_le pa 0 with hp0 | hp0
        · have hno : ¬ ((T.tx j).s = 1 ∧ 0 ≤ (T.tx j).p) := by rw [← hpa]; omega
          have HK := Lib.hid (show kidN T (j + 1) = kidN T j by rw [HKS.out, if_neg hno, List.append_nil])
          have HAM := Lib.hid (amongw_low pa (N : Int) hp0 wz)
          rw [hs1] at hwz z1 p1
          clear hst hpa hs1 hno kz bz hks hkl
          go_upto_region 5 with fail
          rw [← hwz]
          clear hwz p0 p1 p2 p3
          go_wp2_with fail
          refine HAM.out.mono ?_
          rintro e w' ⟨rfl, hw⟩
          replace hw := hw.symm
          subst hw
          go_wp2_with fail
          go_roundw
          case rel => exact ⟨j + 1, by simp, by omega, by show RE.Own _ _ _ (kidN T (j + 1)); rw [HK.out]; exact HOZ.out, HXZ.out, HBZ.out⟩
          case measure => simp [intOf]; omega
        · obtain ⟨q, rfl⟩ : ∃ q : Nat, pa = (q : Int) := ⟨pa.toNat, by omega⟩
          have hyes : (T.tx j).s = 1 ∧ 0 ≤ (T.tx j).p := by rw [← hpa, ← hst]; exact ⟨hs1, hp0⟩
          have hql : q < T.l.length := by omega
          have hqs : (T.tx q).s = 1 := ((HG.out.nest j hjl q (by rw [wayN_up (f := T.par) hpa.symm (by omega)]; exact List.mem_cons_of_mem _ (wayN_self _ _))).1) (by rw [← hst]; exact hs1)
          have HK := Lib.hid (show kidN T (j + 1) = kidN T j ++ [(q, j)] by rw [HKS.out, if_pos hyes, ← hpa]; simp)
          obtain ⟨b2, e2, _, _, q1, _, _⟩ := (HR.out.below HBZ.out).get hql
          injection e2 with e2
          injection e2 with e2
          subst e2
          rw [hqs] at q1
          have HAM := Lib.hid (amongw_yes (q : Int) (N : Int) (by omega) wz)
          rw [hs1] at hwz z1 p1
          obtain ⟨wy, hwy⟩ : ∃ wy, wy = wz.alloc (.cells #[.int .i64 (q : Int), .int .i64 (j : Int)] 61) := ⟨_, rfl⟩
          have HAY := Lib.hid (show RE.At wy (some ⟨wz.heap.size, 0, none⟩) [(q, j)] by rw [hwy]; exact Rk.At.new re_ok wz (q, j) _)
          have HBY := Lib.hid (show Below wz.heap.size wz wy by rw [hwy]; exact below_new _ _)
          clear hst hpa hs1 hyes kz bz hks hkl hqs
          go_upto_region 5 with fail
          rw [← hwz]
          clear hwz p0 p1 p2 p3
          go_wp2_with fail
          refine HAM.out.mono ?_
          rintro e w' ⟨rfl, hw⟩
          replace hw := hw.symm
          subst hw
          go_wp2_with (first | (refine Rk.wpList_append re_ok rfl _ _ rfl (w.heap.size + 1) _ (kidN T j) [(q, j)] rfl (HOZ.out.below (below_new _ _)) _ 1 1 rfl (by have h := HAY.out; rw [hwy] at h; exact h) rfl (.inr ⟨_, _, rfl⟩) (by have := HKL.out; simp; omega) (by have := HSZ.out; simp; omega) ?_; intro v8 w8 ho8 hg8 hv8; rw [← hwy] at hg8; have HO8 := Lib.hid ho8; have HG8 := Lib.hid hg8; clear ho8 hg8 hv8) | fail)
          go_roundw
          case rel =>
            have T8 : Turn (fun k => w.heap.size + 1 ≤ k) wz w8 := (Turn.ofBelow HBY.out).trans ((Turn.refl _ _).grown HG8.out (fun k e => .inl (HOZ.out.lt k e).1))
            exact ⟨j + 1, by simp, by omega, by show RE.Own _ _ _ (kidN T (j + 1)); rw [HK.out]; exact HO8.out, HXZ.out.turn T8 (by omega), HBZ.out.trans (T8.below (fun k e => by omega) HBZ.out.size)⟩
          case measure => simp [intOf]; omega
      · have hno : ¬ ((T.tx j).s = 1 ∧ 0 ≤ (T.tx j).p) := by rw [← hst]; exact fun h => hs1 h.1
        have HK := Lib.hid (show kidN T (j + 1) = kidN T j by rw [HKS.out, if_neg hno, List.append_nil])
        have hsb : (st == 1) = false := by simpa using hs1
        clear hst hpa hno kz bz hks hkl
        go_upto_region 5 with fail
        rw [← hwz]
        clear hwz p0 p1 p2 p3
        go_wp2_with fail
        go_roundw
        case rel => exact ⟨j + 1, by simp, by omega, by show RE.Own _ _ _ (kidN T (j + 1)); rw [HK.out]; exact HOZ.out, HXZ.out, HBZ.out⟩
        case measure => simp [intOf]; omega
    · obtain rfl : j = N := by omega
      go_wp2
      go_ret
      exact ⟨_, rfl, ho.out.le (by omega), hb.out⟩
end Go.Proofs.YtbokhhialfbjcaaGreat
