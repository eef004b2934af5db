/-
  Rows copied; what a transaction has pending; how far a counter may go.
-/
import Derived.Test.YtogngghfdcpeaaaKj
import Derived.Test.YtogngghfdcpeaaaRk
namespace Go.Proofs.Ytogngghfdcpeaaa
set_option maxRecDepth 100000
set_option linter.unusedVariables false
set_option linter.unusedSimpArgs false
open Go.RowKit

theorem run_nil_eql (t e : TypeId) (A : Option Addr) (n a : Nat) (h : Try.prog.underlying t = some (.slice e)) (V : World) : (binOp .eql t (.slice A n a) (.slice none 0 0)).run Try.prog V = .ok (.bool A.isNone) V := by
  simp only [binOp]
  simp [run_equal_slice_nil V t e A n a h]

theorem own_litPo (w : World) (base : Nat) (h : base ≤ w.heap.size) : RPo.Own (w.alloc (.cells #[] 75)) base (.slice (some ⟨w.heap.size, 0, none⟩) 0 0) [] :=
  World.ownsRow_lit w #[] 0 h (by simp [maxLen]) rfl
theorem cloneP_any (A : Option Addr) (n a : Nat) (l : List Pd) (hn : l.length = n) (hm : n ≤ 100000) (hsp : l = [] ∨ Sp A) (w : World) (hl : RPo.At w A l) :
    Calls Try.prog 49 #[.slice A n a] w fun e w' => ∃ v, e = .returned v ∧ RPo.Own w' w.heap.size v l ∧ Below w.heap.size w w' := by
  have HN := Lib.hid hn
  have HSP := Lib.hid hsp
  have HL := Lib.hid hl
  clear hn hsp hl
  cases A with
  | none =>
    have hl0 : l = [] := by
      rcases HL.out with h | ⟨b, o, e, _⟩
      · exact h
      · cases e
    subst hl0
    have hn0 : n = 0 := by have := HN.out; simpa using this.symm
    subst hn0
    have hnil := fun V => run_nil_eql 32 _ none 0 a Try.underlying32 V
    simp only [Option.isNone_some, Option.isNone_none] at hnil
    go_enter Try.func49, Try.ntmps49
    go_wp2_with fail
    go_ret
    exact ⟨_, rfl, Rk.Own.nil _ _ _, Below.refl _ _⟩
  | some ad =>
    have hnil := fun V => run_nil_eql 32 _ (some ad) n a Try.underlying32 V
    simp only [Option.isNone_some, Option.isNone_none] at hnil
    go_enter Try.func49, Try.ntmps49
    go_wp2_with (first
      | (at_builtin; refine Rk.wpList_append2 rp_oko rfl (.tmp 5) (.tmp 6) rfl w.heap.size (.slice (some ⟨w.heap.size, 0, none⟩) 0 0) [] l rfl (own_litPo w _ (Nat.le_refl _)) (some ad) n a rfl (HL.out.below (below_new w _)) HN.out HSP.out (by have := HN.out; rw [List.length_nil]; omega) (below_new w _).size ?_; intro v7 w7 hx1 hg1 ha1; have HO7 := Lib.hid hx1; have HG7 := Lib.hid hg1; clear hx1 hg1 ha1)
      | fail)
    go_ret
    exact ⟨_, rfl, by have := HO7.out; rwa [List.nil_append] at this, Below.grown (below_new w _) HG7.out (below_new w _).size (fun q e => by have e2 : w.heap.size = q := Option.some.inj e; omega)⟩

theorem own_litCo (w : World) (base : Nat) (h : base ≤ w.heap.size) : RCo.Own (w.alloc (.cells #[] 67)) base (.slice (some ⟨w.heap.size, 0, none⟩) 0 0) [] :=
  World.ownsRow_lit w #[] 0 h (by simp [maxLen]) rfl
theorem cloneC_any (A : Option Addr) (n a : Nat) (l : List Ct) (hn : l.length = n) (hm : n ≤ 100000) (hsp : l = [] ∨ Sp A) (w : World) (hl : RCo.At w A l) :
    Calls Try.prog 32 #[.slice A n a] w fun e w' => ∃ v, e = .returned v ∧ RCo.Own w' w.heap.size v l ∧ Below w.heap.size w w' := by
  have HN := Lib.hid hn
  have HSP := Lib.hid hsp
  have HL := Lib.hid hl
  clear hn hsp hl
  cases A with
  | none =>
    have hl0 : l = [] := by
      rcases HL.out with h | ⟨b, o, e, _⟩
      · exact h
      · cases e
    subst hl0
    have hn0 : n = 0 := by have := HN.out; simpa using this.symm
    subst hn0
    have hnil := fun V => run_nil_eql 31 _ none 0 a Try.underlying31 V
    simp only [Option.isNone_some, Option.isNone_none] at hnil
    go_enter Try.func32, Try.ntmps32
    go_wp2_with fail
    go_ret
    exact ⟨_, rfl, Rk.Own.nil _ _ _, Below.refl _ _⟩
  | some ad =>
    have hnil := fun V => run_nil_eql 31 _ (some ad) n a Try.underlying31 V
    simp only [Option.isNone_some, Option.isNone_none] at hnil
    go_enter Try.func32, Try.ntmps32
    go_wp2_with (first
      | (at_builtin; refine Rk.wpList_append2 rc_oko rfl (.tmp 5) (.tmp 6) rfl w.heap.size (.slice (some ⟨w.heap.size, 0, none⟩) 0 0) [] l rfl (own_litCo w _ (Nat.le_refl _)) (some ad) n a rfl (HL.out.below (below_new w _)) HN.out HSP.out (by have := HN.out; rw [List.length_nil]; omega) (below_new w _).size ?_; intro v7 w7 hx1 hg1 ha1; have HO7 := Lib.hid hx1; have HG7 := Lib.hid hg1; clear hx1 hg1 ha1)
      | fail)
    go_ret
    exact ⟨_, rfl, by have := HO7.out; rwa [List.nil_append] at this, Below.grown (below_new w _) HG7.out (below_new w _).size (fun q e => by have e2 : w.heap.size = q := Option.some.inj e; omega)⟩

set_option maxHeartbeats 1000000 in
theorem of_any (A B : Option Addr) (n a m b : Nat) (P : List Pd) (x : Int) (hP : P.length = m) (hm : m ≤ 1000) (w : World) (hl : RPo.At w B P) :
    Calls Try.prog 24 #[tbV A n a B m b, .int .i64 x] w fun e w' => ∃ v, e = .returned v ∧ RPo.Own w' (w.heap.size + 1) v (ofL P x) ∧ Below w.heap.size w w' ∧ w.heap.size + 1 ≤ w'.heap.size := by
  have HP := Lib.hid hP
  have HL := Lib.hid hl
  have HX := Lib.hid (Bk.new w (tbC A n a B m b) 34)
  have HB := Lib.hid (below_new w (.cells (tbC A n a B m b) 34))
  clear hP hl
  go_enter Try.func24, Try.ntmps24
  go_wp2_with fail
  go_loopw [5, 11] (fun v u wr => ∃ j : Nat, u = .int .i64 (j : Int) ∧ j ≤ m ∧ Hid (RPo.Own wr (w.heap.size + 1) v (ofL (P.take j) x)) ∧ Hid (Below w.heap.size w wr) ∧ Hid (w.heap.size + 1 ≤ wr.heap.size)) (fun _ u _ => m - (intOf u).toNat)
  case atStart => exact ⟨0, rfl, Nat.zero_le _, Rk.Own.nil _ _ _, HB, by show w.heap.size + 1 ≤ _; simp⟩
  case round =>
    obtain ⟨j, rfl, hj, HOj, HBj, HSj⟩ := hrel
    rcases Nat.lt_or_ge j m with hlt | hge
    · obtain ⟨b2, o, hA, hbl, hget, q0, q1, q2, q3⟩ := pd_o HL.out HP.out hlt
      subst hA
      have HSJ := Lib.hid (ofL_take (x := x) hget)
      have HLN : Hid ((ofL (P.take j) x).length ≤ 1000) := by have h := ofL_len (P.take j) x; rw [List.length_take] at h; show _ ≤ _; omega
      generalize P.getD j pdD = p at *
      obtain ⟨pc, px, u, d⟩ := p
      simp only at HSJ q0 q1 q2 q3
      have c0 := (HBj.out.cell (p := ⟨b2, o + j * 4, none⟩) hbl).trans q0
      have c1 := (HBj.out.cell (p := ⟨b2, o + j * 4 + 1, none⟩) hbl).trans q1
      have c2 := (HBj.out.cell (p := ⟨b2, o + j * 4 + 2, none⟩) hbl).trans q2
      have c3 := (HBj.out.cell (p := ⟨b2, o + j * 4 + 3, none⟩) hbl).trans q3
      have hd4 : decide ((j : Int) < (m : Int)) = true := decide_eq_true (by omega)
      have hd5 : decide (j < m) = true := decide_eq_true hlt
      have hi1 : (j : Int) < (m : Int) := by omega
      generalize ofL (P.take j) x = acc at *
      clear q0 q1 q2 q3 hbl hget
      rcases Classical.em (px = x) with hk | hk
      · rw [if_pos hk] at HSJ
        have hq : (px == x) = true := by simpa using hk
        clear hk
        go_wp2_with (first
          | (at_builtin; refine Rk.wpList_append rp_oko rfl (.tmp 19) (.tmp 21) rfl (w.heap.size + 1) u5 acc [⟨pc, px, u, d⟩] rfl ((HOj.out.below (below_new wr (.cells (pdC pc px u d) 75))).below (below_new _ _)) _ 1 1 rfl (pdo_at (wr.alloc (.cells (pdC pc px u d) 75)) (wr.heap.size + 1) (by simp) pc px u d) rfl (.inr ⟨_, _, rfl⟩) (by have := HLN.out; rw [List.length_singleton]; omega) (by have := HSj.out; simp; omega) ?_; intro v7 w7 hx1 hg1 ha1; have HO7 := Lib.hid hx1; have HG7 := Lib.hid hg1; clear hx1 hg1 ha1)
          | fail)
        have HT7 : Hid (Turn (fun q => u5.ownBlock = some q) wr w7) := Lib.hid (((Turn.ofBelow (S := fun q => u5.ownBlock = some q) (below_two (below_new wr (.cells (pdC pc px u d) 75)) (below_new _ (.cells (pdC pc px u d) 75)))).grown HG7.out (fun j e => .inl e)))
        exact ⟨⟨j + 1, rfl, hlt, by rw [HSJ.out]; exact HO7, Lib.hid (HBj.out.trans (HT7.out.below (B := w.heap.size) (fun q e => by have := (HOj.out.lt _ e).1; omega) HBj.out.size)), Lib.hid (Nat.le_trans HSj.out HT7.out.size)⟩, by simp [intOf]; omega⟩
      · rw [if_neg hk] at HSJ
        have hq : (px == x) = false := by simpa using hk
        clear hk
        go_wp2_with fail
        exact ⟨⟨j + 1, rfl, hlt, by rw [HSJ.out]; exact HOj.out.below (below_new wr _), Lib.hid (HBj.out.trans ((below_new wr _).mono HBj.out.size)), Lib.hid (Nat.le_trans HSj.out (below_new wr _).size)⟩, by simp [intOf]; omega⟩
    · obtain rfl : j = m := by omega
      have hd4 : decide ((j : Int) < (j : Int)) = false := decide_eq_false (by omega)
      have hd5 : decide (j < j) = false := decide_eq_false (by omega)
      have hlj : P.take j = P := List.take_of_length_le (by rw [HP.out]; exact Nat.le_refl _)
      rw [hlj] at HOj
      clear hlj
      go_wp2_with fail
      go_ret
      exact ⟨_, rfl, HOj.out, HBj.out, HSj.out⟩

set_option maxHeartbeats 2000000 in
theorem treach_any (A B : Option Addr) (n a m b : Nat) (t : Tb) (k : Int) (hm : m ≤ 1000) (hmb : m ≤ b) (hsp : b = 0 ∨ Sp B) (hr : Rise t.P) (hx : ∀ p ∈ t.P, 0 ≤ p.x) (hn6 : n ≤ 64) (w : World) (ht : TbAto w A n B m t) :
    Calls Try.prog 17 #[tbV A n a B m b, .int .i64 k] w fun e w' => e = .returned (spV (t.reach k).1 (t.reach k).2) ∧ Below w.heap.size w w' := by
  have HT := Lib.hid ht
  have HX := Lib.hid ((Bk.new w (tbC A n a B m b) 34).al (.cells (spC 0 0) 53))
  have HZ := Bk.new (w.alloc (.cells (tbC A n a B m b) 34)) (spC 0 0) 53
  rw [size_al] at HZ
  have HZ := Lib.hid HZ
  have HB := Lib.hid (below_two (below_new w (.cells (tbC A n a B m b) 34)) (below_new _ (.cells (spC 0 0) 53)))
  have HRE : Hid (t.reach k = if k < 0 ∨ (t.C.length : Int) ≤ k then (0, 0) else (reachL (t.C.getD k.toNat ctD).v (sumsOf t.P k), reachH (t.C.getD k.toNat ctD).v (sumsOf t.P k))) := rfl
  have HNN := Lib.hid (fun (h1 : -1000 ≤ k ∧ k ≤ 1000) V (hV : Below w.heap.size w V) => on_any A B n a m b t.P k h1 hr hx ht.pl (by omega) hmb hsp V (ht.atP.below hV))
  have ha := fun V => among_any k (n : Int) V
  clear ht hr hx hsp
  generalize t.reach k = re at *
  have x0 := HX.out.t0
  obtain ⟨r1, e1⟩ : ∃ q, amB k (n : Int) = q := ⟨_, rfl⟩
  rw [e1] at ha
  have E1 := Lib.hid e1
  clear e1
  go_enter Try.func17, Try.ntmps17
  go_wp2_with fail
  refine (ha _).mono ?_
  rintro e w1 ⟨rfl, hv⟩
  replace HX := Lib.hid (HX.out.below hv)
  replace HZ := Lib.hid (HZ.out.below hv)
  replace HB := Lib.hid (HB.out.trans (hv.mono HB.out.size))
  clear hv ha x0
  have x0 := HX.out.t0
  cases r1
  · have HE := Lib.hid (show re = (0, 0) from by rw [HRE.out, if_pos (by have := amB_no E1.out; rw [HT.out.cl]; exact this)])
    have z0 := HZ.out.s0
    have z1 := HZ.out.s1
    have f0 := HZ.out.fr 0
    have f1 := HZ.out.fr 1
    go_wp2_with fail
    refine bodyPost_ret (v := spV 0 0) (by rw [results_cell_one rfl]; go_simp; first | done | exact ⟨rfl, rfl⟩) rfl ⟨by rw [HE.out], (HB.out.setCell (show w.heap.size ≤ w.heap.size + 1 from by omega) _).setCell (show w.heap.size ≤ w.heap.size + 1 from by omega) _⟩
  have hk := amB_yes E1.out
  obtain ⟨kn, rfl⟩ : ∃ kn : Nat, k = kn := ⟨k.toNat, by omega⟩
  have hkn : kn < n := by omega
  have HON := Lib.hid (HNN.out ⟨by omega, by omega⟩)
  have HE := Lib.hid (show re = (reachL (t.C.getD kn ctD).v (amt (onL t.P (kn : Int))), reachH (t.C.getD kn ctD).v (amt (onL t.P (kn : Int)))) from by rw [HRE.out, if_neg (by rw [HT.out.cl]; omega), Int.toNat_natCast, amt_on])
  have HAO := Lib.hid (show (∀ x ∈ amt (onL t.P (kn : Int)), okI x) ∧ (onL t.P (kn : Int)).length ≤ 1000 from ⟨by rw [amt_on]; exact sumsOf_ok HT.out.okP _, by
    have : (onL t.P (kn : Int)).length ≤ t.P.length := List.length_filter_le ..
    rw [HT.out.pl] at this
    omega⟩)
  obtain ⟨b1, o1, hA, hbl, hget, h0, h1, h2⟩ := ct_cellso HT.out.atC HT.out.cl hkn
  subst hA
  have HBL := Lib.hid hbl
  have HC2 := Lib.hid h2
  have HV := Lib.hid (HT.out.okC _ (List.mem_of_getElem? hget)).v
  generalize (t.C.getD kn ctD).v = vv at *
  have hd1 : decide (kn < n) = true := decide_eq_true hkn
  have hi1 : (kn : Int) < (n : Int) := by omega
  generalize onL t.P (kn : Int) = ol at *
  clear h0 h1 h2 hbl hget hk HRE HNN
  have hr := fun A4 n4 c4 V (hV : Ls V A4 n4 (amt ol)) => reach_any vv HV.out A4 n4 c4 _ V hV
  unfold reV at hr
  generalize reachL vv (amt ol) = rl at *
  generalize reachH vv (amt ol) = rh at *
  generalize reachE vv (amt ol) = rx at *
  go_upto_region 3 with fail
  obtain ⟨wz, hwz⟩ : ∃ wz, wz = w1 := ⟨_, rfl⟩
  subst hwz
  have HZL := Lib.hid HZ.out.lt
  clear x0
  have X0 : ∀ V, Since wz V → V.cell? ⟨w.heap.size, 0, none⟩ = some (.slice (some ⟨b1, o1, none⟩) n a) := fun V hV => (HX.out.below hV).t0
  have X1 : ∀ V, Since wz V → V.cell? ⟨w.heap.size, 1, none⟩ = some (.slice B m b) := fun V hV => (HX.out.below hV).t1
  have X2 : ∀ V, Since wz V → V.cell? ⟨b1, o1 + kn * 3 + 2, none⟩ = some (.int .i64 vv) := fun V hV => (hV.cell (p := ⟨b1, o1 + kn * 3 + 2, none⟩) (Nat.lt_of_lt_of_le HBL.out HB.out.size)).trans ((HB.out.cell (p := ⟨b1, o1 + kn * 3 + 2, none⟩) HBL.out).trans HC2.out)
  refine wp_region_since (by kernel_rfl) ?_
  have hS : Since wz (World.drew wz) := (Below.refl _ _).drew
  refine wpAnyH_take (i := 0) (oi := ⟨some 15, _, _, _, _, _⟩) (v := ?_) rfl (by kernel_rfl) (by kernel_rfl) (by kernel_rfl) (fun _ _ _ h => h) (Or.inl ⟨by rfl, ?_⟩) hS ?_
  rotate_left
  · intro W hW; go_simp; with_reducible rfl
  try simp only [Act.put, List.setIfInBounds_toArray, List.set_cons_zero, List.set_cons_succ]
  refine wpAnyH_take (i := 1) (oi := ⟨some 16, _, _, _, _, _⟩) (v := ?_) rfl (by kernel_rfl) (by kernel_rfl) (by kernel_rfl) (fun _ _ _ h => h) (Or.inl ⟨by rfl, ?_⟩) hS ?_
  rotate_left
  · intro W hW; go_simp; with_reducible rfl
  try simp only [Act.put, List.setIfInBounds_toArray, List.set_cons_zero, List.set_cons_succ]
  refine wpAnyH_take (i := 2) (oi := ⟨some 17, _, _, _, _, _⟩) (v := ?_) rfl (by kernel_rfl) (by kernel_rfl) (by kernel_rfl) (fun _ _ _ h => h) (Or.inl ⟨by rfl, ?_⟩) hS ?_
  rotate_left
  · intro W hW; go_simp; with_reducible rfl
  try simp only [Act.put, List.setIfInBounds_toArray, List.set_cons_zero, List.set_cons_succ]
  refine wpAnyH_take (i := 3) (oi := ⟨some 18, _, _, _, _, _⟩) (v := ?_) rfl (by kernel_rfl) (by kernel_rfl) (by kernel_rfl) (fun _ _ _ h => h) (Or.inl ⟨by rfl, ?_⟩) hS ?_
  rotate_left
  · intro W hW; go_simp; with_reducible rfl
  try simp only [Act.put, List.setIfInBounds_toArray, List.set_cons_zero, List.set_cons_succ]
  refine wpAnyH_take (i := 4) (oi := ⟨some 19, _, _, _, _, _⟩) (v := ?_) rfl (by kernel_rfl) (by kernel_rfl) (by kernel_rfl) (fun _ _ _ h => h) (Or.inl ⟨by rfl, ?_⟩) hS ?_
  rotate_left
  · intro W hW; go_simp; with_reducible rfl
  try simp only [Act.put, List.setIfInBounds_toArray, List.set_cons_zero, List.set_cons_succ]
  refine wpAnyH_take (i := 5) (oi := ⟨some 20, _, _, _, _, _⟩) (v := ?_) rfl (by kernel_rfl) (by kernel_rfl) (by kernel_rfl) (fun _ _ _ h => h) (Or.inl ⟨by rfl, ?_⟩) hS ?_
  rotate_left
  · intro W hW; go_simp; with_reducible rfl
  try simp only [Act.put, List.setIfInBounds_toArray, List.set_cons_zero, List.set_cons_succ]
  refine wpAnyH_take (i := 6) (oi := ⟨some 21, _, _, _, _, _⟩) (v := ?_) rfl (by kernel_rfl) (by kernel_rfl) (by kernel_rfl) (fun _ _ _ h => h) (Or.inl ⟨by rfl, ?_⟩) hS ?_
  rotate_left
  · intro W hW; go_simp; with_reducible rfl
  try simp only [Act.put, List.setIfInBounds_toArray, List.set_cons_zero, List.set_cons_succ]
  refine wpAnyH_take (i := 7) (oi := ⟨some 22, _, _, _, _, _⟩) (v := ?_) rfl (by kernel_rfl) (by kernel_rfl) (by kernel_rfl) (fun _ _ _ h => h) (Or.inl ⟨by rfl, ?_⟩) hS ?_
  rotate_left
  · intro W hW; go_simp; with_reducible rfl
  try simp only [Act.put, List.setIfInBounds_toArray, List.set_cons_zero, List.set_cons_succ]
  refine wpAnyH_ready (rs := [8, 14]) (by kernel_rfl) (by simp) ?_
  refine AllReadyH.cons (o := ⟨some 23, _, _, _, _, _⟩) rfl (fun Kr hKr => ?_) (AllReadyH.cons (o := ⟨some 5, _, _, _, _, _⟩) rfl (fun Kr hKr => ?_) AllReadyH.nil)
  · skip
    -- operation 8: a call
    go_simp
    refine (HON.out _ (HB.out.trans (Below.mono hS HB.out.size))).mono ?_
    rintro e V7 ⟨A3, n3, c3, rfl, hat3, hln3, hx⟩
    have HL3 := Lib.hid hln3
    have HA3 := Lib.hid hat3
    clear hat3 hln3
    try replace HAL := Lib.hid (HAL.out.below hx)
    show Kr _ _
    refine hKr.out _ _ ?_ (fun _ => ?_)
    · exact since_trans hS hx
    clear hKr Kr
    replace hS : Since wz V7 := since_trans hS hx
    try simp only [Act.put, List.setIfInBounds_toArray, List.set_cons_zero, List.set_cons_succ]
    refine wpAnyH_ready (rs := [9, 14]) (by kernel_rfl) (by simp) ?_
    refine AllReadyH.cons (o := ⟨some 24, _, _, _, _, _⟩) rfl (fun Kr hKr => ?_) (AllReadyH.cons (o := ⟨some 5, _, _, _, _, _⟩) rfl (fun Kr hKr => ?_) AllReadyH.nil)
    · skip
      -- operation 9: a call
      go_simp
      refine (amounts_any A3 n3 c3 _ HL3.out (by have h1 := HL3.out; have h2 := HAO.out.2; omega) _ HA3.out).mono ?_
      rintro e V8 ⟨lv, rfl, hown, hx⟩
      obtain ⟨A4, n4, c4, e4, en4, hl4⟩ := own_ls hown HAO.out.1
      subst e4
      have HL4 := Lib.hid hl4
      clear hown en4 hl4
      try replace HAL := Lib.hid (HAL.out.below hx)
      show Kr _ _
      refine hKr.out _ _ ?_ (fun _ => ?_)
      · exact since_trans hS hx
      clear hKr Kr
      replace hS : Since wz V8 := since_trans hS hx
      try simp only [Act.put, List.setIfInBounds_toArray, List.set_cons_zero, List.set_cons_succ]
      refine wpAnyH_ready (rs := [10, 14]) (by kernel_rfl) (by simp) ?_
      refine AllReadyH.cons (o := ⟨some 25, _, _, _, _, _⟩) rfl (fun Kr hKr => ?_) (AllReadyH.cons (o := ⟨some 5, _, _, _, _, _⟩) rfl (fun Kr hKr => ?_) AllReadyH.nil)
      · skip
        -- operation 10: a call
        go_simp
        refine (hr A4 n4 c4 _ HL4.out).mono ?_
        rintro e V9 ⟨rfl, hx⟩
        try replace HAL := Lib.hid (HAL.out.below hx)
        show Kr _ _
        refine hKr.out _ _ ?_ (fun _ => ?_)
        · exact since_trans hS hx
        clear hKr Kr
        replace hS : Since wz V9 := since_trans hS hx
        try simp only [Act.put, List.setIfInBounds_toArray, List.set_cons_zero, List.set_cons_succ]
        refine wpAnyH_take (i := 11) (oi := ⟨some 14, _, _, _, _, _⟩) (v := ?_) rfl (by kernel_rfl) (by kernel_rfl) (by kernel_rfl) (fun _ _ _ h => h) (Or.inl ⟨by rfl, ?_⟩) hS ?_
        rotate_left
        · intro W hW; go_simp; with_reducible rfl
        try simp only [Act.put, List.setIfInBounds_toArray, List.set_cons_zero, List.set_cons_succ]
        refine wpAnyH_take (i := 12) (oi := ⟨some 26, _, _, _, _, _⟩) (v := ?_) rfl (by kernel_rfl) (by kernel_rfl) (by kernel_rfl) (fun _ _ _ h => h) (Or.inl ⟨by rfl, ?_⟩) hS ?_
        rotate_left
        · intro W hW; go_simp; with_reducible rfl
        try simp only [Act.put, List.setIfInBounds_toArray, List.set_cons_zero, List.set_cons_succ]
        refine wpAnyH_take (i := 13) (oi := ⟨some 27, _, _, _, _, _⟩) (v := ?_) rfl (by kernel_rfl) (by kernel_rfl) (by kernel_rfl) (fun _ _ _ h => h) (Or.inl ⟨by rfl, ?_⟩) hS ?_
        rotate_left
        · intro W hW; go_simp; with_reducible rfl
        try simp only [Act.put, List.setIfInBounds_toArray, List.set_cons_zero, List.set_cons_succ]
        refine wpAnyH_ready (rs := [14]) (by kernel_rfl) (by simp) ?_
        refine AllReadyH.cons (o := ⟨some 5, _, _, _, _, _⟩) rfl (fun Kr hKr => ?_) AllReadyH.nil
        -- operation 14: a step
        try rw [if_pos (by kernel_rfl)]
        refine wp_alloc_bk 53 rfl (spC 0 0) (by kernel_rfl) ?_
        intro VA gb hbx hx hle
        have HAL : Hid (Bk VA gb (spC 0 0) 53) := hbx
        have HLE := Lib.hid (Nat.le_trans hS.size hle)
        try replace HL4 := Lib.hid (HL4.out.below hx)
        try replace HA3 := Lib.hid (HA3.out.below hx)
        show Kr _ _
        refine hKr.out _ _ ?_ (fun _ => ?_)
        · exact since_trans hS hx
        clear hKr Kr
        replace hS : Since wz VA := since_trans hS hx
        try simp only [Act.put, List.setIfInBounds_toArray, List.set_cons_zero, List.set_cons_succ]
        refine wpAnyH_ready (rs := [15]) (by kernel_rfl) (by simp) ?_
        refine AllReadyH.cons (o := ⟨none, _, _, _, _, _⟩) rfl (fun Kr hKr => ?_) AllReadyH.nil
        -- operation 15: a step
        try rw [if_pos (by kernel_rfl)]
        refine wp_store_bk 53 _ _ rfl gb (spC rl rh) rfl rfl 53 (spC 0 0) HAL.out (by kernel_rfl) rfl (by simp [Value.oneCell']) ?_
        intro VS hbx hg9
        have HBX : Hid (Bk VS gb (spC rl rh) 53) := hbx
        show Kr _ _
        refine hKr.out _ _ ?_ (fun _ => ?_)
        · exact Below.grown hS hg9 hS.size (fun q e => by injection e with e; have := HLE.out; omega)
        clear hKr Kr
        replace hS : Since wz VS := Below.grown hS hg9 hS.size (fun q e => by injection e with e; have := HLE.out; omega)
        try simp only [Act.put]
        refine wpAnyH_take (i := 16) (oi := ⟨some 6, _, _, _, _, _⟩) (v := ?_) rfl (by kernel_rfl) (by kernel_rfl) (by kernel_rfl) (fun _ _ _ h => h) (Or.inl ⟨by rfl, ?_⟩) hS ?_
        rotate_left
        · intro W hW; go_simp; with_reducible rfl
        try simp only [Act.put, List.setIfInBounds_toArray, List.set_cons_zero, List.set_cons_succ]
        refine wpAnyH_done (by kernel_rfl) ?_ _
        have HS := Lib.hid hS
        have HZS := Lib.hid (HZ.out.below hS)
        clear hS hr X0 X1 X2
        have y0 := HBX.out.s0
        have y1 := HBX.out.s1
        have z0 := HZS.out.s0
        have z1 := HZS.out.s1
        have f0 := HZS.out.fr 0
        have f1 := HZS.out.fr 1
        go_wp2_with fail
        refine bodyPost_ret (v := spV rl rh) (by rw [results_cell_one rfl]; go_simp; first | done | exact ⟨rfl, rfl⟩) rfl ⟨by rw [HE.out], (((HB.out.trans (HS.out.mono HB.out.size)).setCell (show w.heap.size ≤ w.heap.size + 1 from by omega) _).setCell (show w.heap.size ≤ w.heap.size + 1 from by omega) _)⟩
      · skip
        -- operation 14: a step
        try rw [if_pos (by kernel_rfl)]
        refine wp_alloc_bk 53 rfl (spC 0 0) (by kernel_rfl) ?_
        intro VA gb hbx hx hle
        have HAL : Hid (Bk VA gb (spC 0 0) 53) := hbx
        have HLE := Lib.hid (Nat.le_trans hS.size hle)
        try replace HL4 := Lib.hid (HL4.out.below hx)
        try replace HA3 := Lib.hid (HA3.out.below hx)
        show Kr _ _
        refine hKr.out _ _ ?_ (fun _ => ?_)
        · exact since_trans hS hx
        clear hKr Kr
        replace hS : Since wz VA := since_trans hS hx
        try simp only [Act.put, List.setIfInBounds_toArray, List.set_cons_zero, List.set_cons_succ]
        refine wpAnyH_ready (rs := [10]) (by kernel_rfl) (by simp) ?_
        refine AllReadyH.cons (o := ⟨some 25, _, _, _, _, _⟩) rfl (fun Kr hKr => ?_) AllReadyH.nil
        -- operation 10: a call
        go_simp
        refine (hr A4 n4 c4 _ HL4.out).mono ?_
        rintro e V9 ⟨rfl, hx⟩
        try replace HAL := Lib.hid (HAL.out.below hx)
        show Kr _ _
        refine hKr.out _ _ ?_ (fun _ => ?_)
        · exact since_trans hS hx
        clear hKr Kr
        replace hS : Since wz V9 := since_trans hS hx
        try simp only [Act.put, List.setIfInBounds_toArray, List.set_cons_zero, List.set_cons_succ]
        refine wpAnyH_take (i := 11) (oi := ⟨some 14, _, _, _, _, _⟩) (v := ?_) rfl (by kernel_rfl) (by kernel_rfl) (by kernel_rfl) (fun _ _ _ h => h) (Or.inl ⟨by rfl, ?_⟩) hS ?_
        rotate_left
        · intro W hW; go_simp; with_reducible rfl
        try simp only [Act.put, List.setIfInBounds_toArray, List.set_cons_zero, List.set_cons_succ]
        refine wpAnyH_take (i := 12) (oi := ⟨some 26, _, _, _, _, _⟩) (v := ?_) rfl (by kernel_rfl) (by kernel_rfl) (by kernel_rfl) (fun _ _ _ h => h) (Or.inl ⟨by rfl, ?_⟩) hS ?_
        rotate_left
        · intro W hW; go_simp; with_reducible rfl
        try simp only [Act.put, List.setIfInBounds_toArray, List.set_cons_zero, List.set_cons_succ]
        refine wpAnyH_take (i := 13) (oi := ⟨some 27, _, _, _, _, _⟩) (v := ?_) rfl (by kernel_rfl) (by kernel_rfl) (by kernel_rfl) (fun _ _ _ h => h) (Or.inl ⟨by rfl, ?_⟩) hS ?_
        rotate_left
        · intro W hW; go_simp; with_reducible rfl
        try simp only [Act.put, List.setIfInBounds_toArray, List.set_cons_zero, List.set_cons_succ]
        refine wpAnyH_ready (rs := [15]) (by kernel_rfl) (by simp) ?_
        refine AllReadyH.cons (o := ⟨none, _, _, _, _, _⟩) rfl (fun Kr hKr => ?_) AllReadyH.nil
        -- operation 15: a step
        try rw [if_pos (by kernel_rfl)]
        refine wp_store_bk 53 _ _ rfl gb (spC rl rh) rfl rfl 53 (spC 0 0) HAL.out (by kernel_rfl) rfl (by simp [Value.oneCell']) ?_
        intro VS hbx hg9
        have HBX : Hid (Bk VS gb (spC rl rh) 53) := hbx
        show Kr _ _
        refine hKr.out _ _ ?_ (fun _ => ?_)
        · exact Below.grown hS hg9 hS.size (fun q e => by injection e with e; have := HLE.out; omega)
        clear hKr Kr
        replace hS : Since wz VS := Below.grown hS hg9 hS.size (fun q e => by injection e with e; have := HLE.out; omega)
        try simp only [Act.put]
        refine wpAnyH_take (i := 16) (oi := ⟨some 6, _, _, _, _, _⟩) (v := ?_) rfl (by kernel_rfl) (by kernel_rfl) (by kernel_rfl) (fun _ _ _ h => h) (Or.inl ⟨by rfl, ?_⟩) hS ?_
        rotate_left
        · intro W hW; go_simp; with_reducible rfl
        try simp only [Act.put, List.setIfInBounds_toArray, List.set_cons_zero, List.set_cons_succ]
        refine wpAnyH_done (by kernel_rfl) ?_ _
        have HS := Lib.hid hS
        have HZS := Lib.hid (HZ.out.below hS)
        clear hS hr X0 X1 X2
        have y0 := HBX.out.s0
        have y1 := HBX.out.s1
        have z0 := HZS.out.s0
        have z1 := HZS.out.s1
        have f0 := HZS.out.fr 0
        have f1 := HZS.out.fr 1
        go_wp2_with fail
        refine bodyPost_ret (v := spV rl rh) (by rw [results_cell_one rfl]; go_simp; first | done | exact ⟨rfl, rfl⟩) rfl ⟨by rw [HE.out], (((HB.out.trans (HS.out.mono HB.out.size)).setCell (show w.heap.size ≤ w.heap.size + 1 from by omega) _).setCell (show w.heap.size ≤ w.heap.size + 1 from by omega) _)⟩
    · skip
      -- operation 14: a step
      try rw [if_pos (by kernel_rfl)]
      refine wp_alloc_bk 53 rfl (spC 0 0) (by kernel_rfl) ?_
      intro VA gb hbx hx hle
      have HAL : Hid (Bk VA gb (spC 0 0) 53) := hbx
      have HLE := Lib.hid (Nat.le_trans hS.size hle)
      try replace HL4 := Lib.hid (HL4.out.below hx)
      try replace HA3 := Lib.hid (HA3.out.below hx)
      show Kr _ _
      refine hKr.out _ _ ?_ (fun _ => ?_)
      · exact since_trans hS hx
      clear hKr Kr
      replace hS : Since wz VA := since_trans hS hx
      try simp only [Act.put, List.setIfInBounds_toArray, List.set_cons_zero, List.set_cons_succ]
      refine wpAnyH_ready (rs := [9]) (by kernel_rfl) (by simp) ?_
      refine AllReadyH.cons (o := ⟨some 24, _, _, _, _, _⟩) rfl (fun Kr hKr => ?_) AllReadyH.nil
      -- operation 9: a call
      go_simp
      refine (amounts_any A3 n3 c3 _ HL3.out (by have h1 := HL3.out; have h2 := HAO.out.2; omega) _ HA3.out).mono ?_
      rintro e V8 ⟨lv, rfl, hown, hx⟩
      obtain ⟨A4, n4, c4, e4, en4, hl4⟩ := own_ls hown HAO.out.1
      subst e4
      have HL4 := Lib.hid hl4
      clear hown en4 hl4
      try replace HAL := Lib.hid (HAL.out.below hx)
      show Kr _ _
      refine hKr.out _ _ ?_ (fun _ => ?_)
      · exact since_trans hS hx
      clear hKr Kr
      replace hS : Since wz V8 := since_trans hS hx
      try simp only [Act.put, List.setIfInBounds_toArray, List.set_cons_zero, List.set_cons_succ]
      refine wpAnyH_ready (rs := [10]) (by kernel_rfl) (by simp) ?_
      refine AllReadyH.cons (o := ⟨some 25, _, _, _, _, _⟩) rfl (fun Kr hKr => ?_) AllReadyH.nil
      -- operation 10: a call
      go_simp
      refine (hr A4 n4 c4 _ HL4.out).mono ?_
      rintro e V9 ⟨rfl, hx⟩
      try replace HAL := Lib.hid (HAL.out.below hx)
      show Kr _ _
      refine hKr.out _ _ ?_ (fun _ => ?_)
      · exact since_trans hS hx
      clear hKr Kr
      replace hS : Since wz V9 := since_trans hS hx
      try simp only [Act.put, List.setIfInBounds_toArray, List.set_cons_zero, List.set_cons_succ]
      refine wpAnyH_take (i := 11) (oi := ⟨some 14, _, _, _, _, _⟩) (v := ?_) rfl (by kernel_rfl) (by kernel_rfl) (by kernel_rfl) (fun _ _ _ h => h) (Or.inl ⟨by rfl, ?_⟩) hS ?_
      rotate_left
      · intro W hW; go_simp; with_reducible rfl
      try simp only [Act.put, List.setIfInBounds_toArray, List.set_cons_zero, List.set_cons_succ]
      refine wpAnyH_take (i := 12) (oi := ⟨some 26, _, _, _, _, _⟩) (v := ?_) rfl (by kernel_rfl) (by kernel_rfl) (by kernel_rfl) (fun _ _ _ h => h) (Or.inl ⟨by rfl, ?_⟩) hS ?_
      rotate_left
      · intro W hW; go_simp; with_reducible rfl
      try simp only [Act.put, List.setIfInBounds_toArray, List.set_cons_zero, List.set_cons_succ]
      refine wpAnyH_take (i := 13) (oi := ⟨some 27, _, _, _, _, _⟩) (v := ?_) rfl (by kernel_rfl) (by kernel_rfl) (by kernel_rfl) (fun _ _ _ h => h) (Or.inl ⟨by rfl, ?_⟩) hS ?_
      rotate_left
      · intro W hW; go_simp; with_reducible rfl
      try simp only [Act.put, List.setIfInBounds_toArray, List.set_cons_zero, List.set_cons_succ]
      refine wpAnyH_ready (rs := [15]) (by kernel_rfl) (by simp) ?_
      refine AllReadyH.cons (o := ⟨none, _, _, _, _, _⟩) rfl (fun Kr hKr => ?_) AllReadyH.nil
      -- operation 15: a step
      try rw [if_pos (by kernel_rfl)]
      refine wp_store_bk 53 _ _ rfl gb (spC rl rh) rfl rfl 53 (spC 0 0) HAL.out (by kernel_rfl) rfl (by simp [Value.oneCell']) ?_
      intro VS hbx hg9
      have HBX : Hid (Bk VS gb (spC rl rh) 53) := hbx
      show Kr _ _
      refine hKr.out _ _ ?_ (fun _ => ?_)
      · exact Below.grown hS hg9 hS.size (fun q e => by injection e with e; have := HLE.out; omega)
      clear hKr Kr
      replace hS : Since wz VS := Below.grown hS hg9 hS.size (fun q e => by injection e with e; have := HLE.out; omega)
      try simp only [Act.put]
      refine wpAnyH_take (i := 16) (oi := ⟨some 6, _, _, _, _, _⟩) (v := ?_) rfl (by kernel_rfl) (by kernel_rfl) (by kernel_rfl) (fun _ _ _ h => h) (Or.inl ⟨by rfl, ?_⟩) hS ?_
      rotate_left
      · intro W hW; go_simp; with_reducible rfl
      try simp only [Act.put, List.setIfInBounds_toArray, List.set_cons_zero, List.set_cons_succ]
      refine wpAnyH_done (by kernel_rfl) ?_ _
      have HS := Lib.hid hS
      have HZS := Lib.hid (HZ.out.below hS)
      clear hS hr X0 X1 X2
      have y0 := HBX.out.s0
      have y1 := HBX.out.s1
      have z0 := HZS.out.s0
      have z1 := HZS.out.s1
      have f0 := HZS.out.fr 0
      have f1 := HZS.out.fr 1
      go_wp2_with fail
      refine bodyPost_ret (v := spV rl rh) (by rw [results_cell_one rfl]; go_simp; first | done | exact ⟨rfl, rfl⟩) rfl ⟨by rw [HE.out], (((HB.out.trans (HS.out.mono HB.out.size)).setCell (show w.heap.size ≤ w.heap.size + 1 from by omega) _).setCell (show w.heap.size ≤ w.heap.size + 1 from by omega) _)⟩
  · skip
    -- operation 14: a step
    try rw [if_pos (by kernel_rfl)]
    refine wp_alloc_bk 53 rfl (spC 0 0) (by kernel_rfl) ?_
    intro VA gb hbx hx hle
    have HAL : Hid (Bk VA gb (spC 0 0) 53) := hbx
    have HLE := Lib.hid (Nat.le_trans hS.size hle)
    try replace HL4 := Lib.hid (HL4.out.below hx)
    try replace HA3 := Lib.hid (HA3.out.below hx)
    show Kr _ _
    refine hKr.out _ _ ?_ (fun _ => ?_)
    · exact since_trans hS hx
    clear hKr Kr
    replace hS : Since wz VA := since_trans hS hx
    try simp only [Act.put, List.setIfInBounds_toArray, List.set_cons_zero, List.set_cons_succ]
    refine wpAnyH_ready (rs := [8]) (by kernel_rfl) (by simp) ?_
    refine AllReadyH.cons (o := ⟨some 23, _, _, _, _, _⟩) rfl (fun Kr hKr => ?_) AllReadyH.nil
    -- operation 8: a call
    go_simp
    refine (HON.out _ (HB.out.trans (Below.mono hS HB.out.size))).mono ?_
    rintro e V7 ⟨A3, n3, c3, rfl, hat3, hln3, hx⟩
    have HL3 := Lib.hid hln3
    have HA3 := Lib.hid hat3
    clear hat3 hln3
    try replace HAL := Lib.hid (HAL.out.below hx)
    show Kr _ _
    refine hKr.out _ _ ?_ (fun _ => ?_)
    · exact since_trans hS hx
    clear hKr Kr
    replace hS : Since wz V7 := since_trans hS hx
    try simp only [Act.put, List.setIfInBounds_toArray, List.set_cons_zero, List.set_cons_succ]
    refine wpAnyH_ready (rs := [9]) (by kernel_rfl) (by simp) ?_
    refine AllReadyH.cons (o := ⟨some 24, _, _, _, _, _⟩) rfl (fun Kr hKr => ?_) AllReadyH.nil
    -- operation 9: a call
    go_simp
    refine (amounts_any A3 n3 c3 _ HL3.out (by have h1 := HL3.out; have h2 := HAO.out.2; omega) _ HA3.out).mono ?_
    rintro e V8 ⟨lv, rfl, hown, hx⟩
    obtain ⟨A4, n4, c4, e4, en4, hl4⟩ := own_ls hown HAO.out.1
    subst e4
    have HL4 := Lib.hid hl4
    clear hown en4 hl4
    try replace HAL := Lib.hid (HAL.out.below hx)
    show Kr _ _
    refine hKr.out _ _ ?_ (fun _ => ?_)
    · exact since_trans hS hx
    clear hKr Kr
    replace hS : Since wz V8 := since_trans hS hx
    try simp only [Act.put, List.setIfInBounds_toArray, List.set_cons_zero, List.set_cons_succ]
    refine wpAnyH_ready (rs := [10]) (by kernel_rfl) (by simp) ?_
    refine AllReadyH.cons (o := ⟨some 25, _, _, _, _, _⟩) rfl (fun Kr hKr => ?_) AllReadyH.nil
    -- operation 10: a call
    go_simp
    refine (hr A4 n4 c4 _ HL4.out).mono ?_
    rintro e V9 ⟨rfl, hx⟩
    try replace HAL := Lib.hid (HAL.out.below hx)
    show Kr _ _
    refine hKr.out _ _ ?_ (fun _ => ?_)
    · exact since_trans hS hx
    clear hKr Kr
    replace hS : Since wz V9 := since_trans hS hx
    try simp only [Act.put, List.setIfInBounds_toArray, List.set_cons_zero, List.set_cons_succ]
    refine wpAnyH_take (i := 11) (oi := ⟨some 14, _, _, _, _, _⟩) (v := ?_) rfl (by kernel_rfl) (by kernel_rfl) (by kernel_rfl) (fun _ _ _ h => h) (Or.inl ⟨by rfl, ?_⟩) hS ?_
    rotate_left
    · intro W hW; go_simp; with_reducible rfl
    try simp only [Act.put, List.setIfInBounds_toArray, List.set_cons_zero, List.set_cons_succ]
    refine wpAnyH_take (i := 12) (oi := ⟨some 26, _, _, _, _, _⟩) (v := ?_) rfl (by kernel_rfl) (by kernel_rfl) (by kernel_rfl) (fun _ _ _ h => h) (Or.inl ⟨by rfl, ?_⟩) hS ?_
    rotate_left
    · intro W hW; go_simp; with_reducible rfl
    try simp only [Act.put, List.setIfInBounds_toArray, List.set_cons_zero, List.set_cons_succ]
    refine wpAnyH_take (i := 13) (oi := ⟨some 27, _, _, _, _, _⟩) (v := ?_) rfl (by kernel_rfl) (by kernel_rfl) (by kernel_rfl) (fun _ _ _ h => h) (Or.inl ⟨by rfl, ?_⟩) hS ?_
    rotate_left
    · intro W hW; go_simp; with_reducible rfl
    try simp only [Act.put, List.setIfInBounds_toArray, List.set_cons_zero, List.set_cons_succ]
    refine wpAnyH_ready (rs := [15]) (by kernel_rfl) (by simp) ?_
    refine AllReadyH.cons (o := ⟨none, _, _, _, _, _⟩) rfl (fun Kr hKr => ?_) AllReadyH.nil
    -- operation 15: a step
    try rw [if_pos (by kernel_rfl)]
    refine wp_store_bk 53 _ _ rfl gb (spC rl rh) rfl rfl 53 (spC 0 0) HAL.out (by kernel_rfl) rfl (by simp [Value.oneCell']) ?_
    intro VS hbx hg9
    have HBX : Hid (Bk VS gb (spC rl rh) 53) := hbx
    show Kr _ _
    refine hKr.out _ _ ?_ (fun _ => ?_)
    · exact Below.grown hS hg9 hS.size (fun q e => by injection e with e; have := HLE.out; omega)
    clear hKr Kr
    replace hS : Since wz VS := Below.grown hS hg9 hS.size (fun q e => by injection e with e; have := HLE.out; omega)
    try simp only [Act.put]
    refine wpAnyH_take (i := 16) (oi := ⟨some 6, _, _, _, _, _⟩) (v := ?_) rfl (by kernel_rfl) (by kernel_rfl) (by kernel_rfl) (fun _ _ _ h => h) (Or.inl ⟨by rfl, ?_⟩) hS ?_
    rotate_left
    · intro W hW; go_simp; with_reducible rfl
    try simp only [Act.put, List.setIfInBounds_toArray, List.set_cons_zero, List.set_cons_succ]
    refine wpAnyH_done (by kernel_rfl) ?_ _
    have HS := Lib.hid hS
    have HZS := Lib.hid (HZ.out.below hS)
    clear hS hr X0 X1 X2
    have y0 := HBX.out.s0
    have y1 := HBX.out.s1
    have z0 := HZS.out.s0
    have z1 := HZS.out.s1
    have f0 := HZS.out.fr 0
    have f1 := HZS.out.fr 1
    go_wp2_with fail
    refine bodyPost_ret (v := spV rl rh) (by rw [results_cell_one rfl]; go_simp; first | done | exact ⟨rfl, rfl⟩) rfl ⟨by rw [HE.out], (((HB.out.trans (HS.out.mono HB.out.size)).setCell (show w.heap.size ≤ w.heap.size + 1 from by omega) _).setCell (show w.heap.size ≤ w.heap.size + 1 from by omega) _)⟩
end Go.Proofs.Ytogngghfdcpeaaa
