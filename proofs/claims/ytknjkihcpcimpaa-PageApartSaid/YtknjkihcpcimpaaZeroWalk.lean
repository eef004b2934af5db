/-
  PageZero: the walk, over the words.
-/
import Derived.Test.YtknjkihcpcimpaaEq16
namespace Go.Proofs.Ytknjkihcpcimpaa
set_option maxRecDepth 100000
set_option linter.unusedVariables false
set_option linter.unusedSimpArgs false
open Go.RowKit Crc Wm Pg

/-- a load, by what it runs to -/
theorem exec_load {P : Program} {W : World} {o : Oper} {ρ : Operand → Value} {ty : TypeId} {x : Operand} {ad : Addr} {v : Value} (ho : o.op = .load ty x) (hx : ρ x = .pointer (some ad)) (hl : (loadVar ty ad).run P W = .ok v W) : (execOp ρ o).run P W = .ok (.value v) W := by
  unfold execOp
  simp only [ho, hx, Instr.loadAt, Instr.sureAddr, Sem.run_bind, Sem.run_pure, Result.andThen_ok, hl]

theorem zero_c3 (w : World) (t : TypeId) : C3At (w.alloc (.cells #[.int .i64 0, .int .i64 0, .int .i64 0, .int .i64 0, .int .i64 0, .int .i64 0] t)) w.heap.size t .zero := heap_alloc_new w _
theorem ofblock_nil (P : PageOk) {A : Option Addr} {c : Nat} {w : World} (hl : Lies w A c 64 nil64) : Calls Try.prog 14 #[.slice A 64 c] w fun e w' =>
    ∃ A' c', e = .returned (.tuple #[.int .i64 0, .slice A' 32 c', .int .i64 0]) ∧ Lies w' A' c' 32 z32 ∧ Below w.heap.size w w' := by
  refine (P.ofblock A c 64 _ w hl (by omega)).mono ?_
  rintro e w' ⟨A1, n1, c1, rfl, hn1, ho1, hb1⟩
  rw [obE_nil, obN_nil.1]
  rw [obN_nil.2] at hn1 ho1
  rw [List.length_replicate] at hn1
  subst hn1
  exact ⟨A1, c1, rfl, ho1.lies, hb1⟩
theorem ofblock_bad (P : PageOk) {A : Option Addr} {c n : Nat} {l : List UInt8} {w : World} (hl : Lies w A c n l) (hn : n ≤ 1000) {E : Int} (hE : obE l = E) (h0 : E ≠ 0) : Calls Try.prog 14 #[.slice A n c] w fun e w' =>
    ∃ A' c', e = .returned (.tuple #[.int .i64 0, .slice A' 0 c', .int .i64 E]) ∧ Below w.heap.size w w' := by
  refine (P.ofblock A c n _ w hl hn).mono ?_
  rintro e w' ⟨A1, n1, c1, rfl, hn1, ho1, hb1⟩
  obtain ⟨h1, h2⟩ := obN_not (l := l) (by rw [hE]; exact h0)
  rw [h1, hE]
  rw [h2] at hn1
  subst hn1
  exact ⟨A1, c1, rfl, hb1⟩
theorem ofcells_is (P : PageOk) {A : Option Addr} {c n : Nat} {l : List UInt8} {w : World} (hl : Lies w A c n l) (hn : n ≤ 1000) {E : Int} (hE : ocE l = E) {x : C3} (hx : oc3 l = x) : Calls Try.prog 16 #[.slice A n c] w fun e w' =>
    e = .returned (.tuple #[c3V x, .int .i64 E]) ∧ Below w.heap.size w w' := by
  refine (P.ofcells A c n _ w hl hn).mono ?_
  rintro e w' ⟨rfl, hb1⟩
  exact ⟨by rw [hE, hx], hb1⟩

set_option maxHeartbeats 2000000 in
theorem zero_walk (P : PageOk) (n : Int) (w : World) : Calls Try.prog 5 #[.int .i64 n] w fun e w' => e = .returned (.bool true) ∧ Below w.heap.size w w' := by
  have HP := Lib.hid P
  clear P
  obtain ⟨k, hk, hkn⟩ := low n 63 6 (by decide) (by omega)
  have hk : k ≤ 63 := by omega
  have HK2 : Hid (obE (List.replicate k 0) = 2) := Lib.hid (by rw [obE_why (by rw [whyE_short (by rw [List.length_replicate]; omega)]; decide), whyE_short (by rw [List.length_replicate]; omega)])
  have HC2 : Hid (ocE (List.replicate k 0) = 2) := Lib.hid (by rw [ocE_why (by rw [whyE_short (by rw [List.length_replicate]; omega)]; decide), whyE_short (by rw [List.length_replicate]; omega)])
  have HK3 : Hid (obE (List.replicate (65 + k) 0) = 3) := Lib.hid (by rw [obE_why (by rw [whyE_long (by rw [List.length_replicate]; omega)]; decide), whyE_long (by rw [List.length_replicate]; omega)])
  go_enter Try.func5, Try.ntmps5
  go_wp2_with fail
  refine (awake_any HP.out w).mono ?_
  rintro e w1 ⟨rfl, hb1⟩
  have HB1 := Lib.hid hb1
  clear hb1
  obtain ⟨w2, hm2, ho2, hb2⟩ := run_zeros w1 64 (by omega)
  have HM2 := Lib.hid hm2
  have HL2 := Lib.hid ho2.lies
  have HB2 := Lib.hid (HB1.out.trans (hb2.mono HB1.out.size))
  clear hm2 ho2 hb2 HB1
  go_wp2_with (at_make; refine wpList_make_run rfl 22 _ _ rfl rfl rfl HM2.out ?_)
  refine (ofblock_nil HP.out HL2.out).mono ?_
  rintro e w3 ⟨A3, c3, rfl, hl3, hb3⟩
  have HL3 := Lib.hid hl3
  have HB3 := Lib.hid (HB2.out.trans (hb3.mono HB2.out.size))
  clear hl3 hb3 HL2 HB2 HM2
  obtain ⟨w4, hm4, ho4, hb4⟩ := run_zeros w3 64 (by omega)
  have HM4 := Lib.hid hm4
  have HL4 := Lib.hid ho4.lies
  have HB4 := Lib.hid (HB3.out.trans (hb4.mono HB3.out.size))
  have HL3 := Lib.hid (HL3.out.up hb4)
  clear hm4 ho4 hb4 HB3
  go_wp2_with (at_make; refine wpList_make_run rfl 22 _ _ rfl rfl rfl HM4.out ?_)
  refine (ofcells_is HP.out HL4.out (by omega) ocE_nil oc3_nil).mono ?_
  rintro e w5 ⟨rfl, hb5⟩
  have HB5 := Lib.hid (HB4.out.trans (hb5.mono HB4.out.size))
  have HL3 := Lib.hid (HL3.out.up hb5)
  clear hb5 HL4 HB4 HM4
  have hbx := below_new w5 (.cells #[.int .i64 0, .int .i64 0, .int .i64 0, .int .i64 0, .int .i64 0, .int .i64 0] 32)
  have HBX := Lib.hid hbx
  clear hbx
  go_upto_region 5 with (refine wpList_store_c3 tyP (zero_c3 w5 _) rfl (.tmp 8) (.tmp 30) rfl rfl C3.zero rfl ?_; intro w6 hs6 hg6)
  have HS6 := Lib.hid hs6
  have hb6 := HBX.out.grown hg6 HBX.out.size (fun j hj => by injection hj with hj; omega)
  have HB6 := Lib.hid (HB5.out.trans (hb6.mono HB5.out.size))
  have HL3 := Lib.hid (HL3.out.up hb6)
  generalize w5.heap.size = g8 at *
  clear hs6 hg6 hb6 HB5 HBX
  obtain ⟨w7, hm7, ho7, hb7⟩ := run_zeros w6 k (by omega)
  have HM7 := Lib.hid hm7
  have HL7 := Lib.hid ho7.lies
  have HB7 := Lib.hid (HB6.out.trans (hb7.mono HB6.out.size))
  have HL3 := Lib.hid (HL3.out.up hb7)
  have HS7 := Lib.hid (HS6.out.below hb7)
  clear hm7 ho7 hb7 HB6 HS6
  go_wp2_with (at_make; refine wpList_make_run rfl 22 _ _ rfl rfl rfl HM7.out ?_)
  refine (ofblock_bad HP.out HL7.out (by omega) HK2.out (by decide)).mono ?_
  rintro e w8 ⟨A8, c8, rfl, hb8⟩
  have HB8 := Lib.hid (HB7.out.trans (hb8.mono HB7.out.size))
  have HL3 := Lib.hid (HL3.out.up hb8)
  have HS8 := Lib.hid (HS7.out.below hb8)
  clear hb8 HL7 HB7 HM7 HS7
  obtain ⟨w9, hm9, ho9, hb9⟩ := run_zeros w8 k (by omega)
  have HM9 := Lib.hid hm9
  have HL9 := Lib.hid ho9.lies
  have HB9 := Lib.hid (HB8.out.trans (hb9.mono HB8.out.size))
  have HL3 := Lib.hid (HL3.out.up hb9)
  have HS9 := Lib.hid (HS8.out.below hb9)
  clear hm9 ho9 hb9 HB8 HS8
  go_wp2_with (at_make; refine wpList_make_run rfl 22 _ _ rfl rfl rfl HM9.out ?_)
  refine (ofcells_is HP.out HL9.out (by omega) HC2.out (oc3_not (by rw [HC2.out]; decide))).mono ?_
  rintro e w10 ⟨rfl, hb10⟩
  have HB10 := Lib.hid (HB9.out.trans (hb10.mono HB9.out.size))
  have HL3 := Lib.hid (HL3.out.up hb10)
  have HS10 := Lib.hid (HS9.out.below hb10)
  clear hb10 HL9 HB9 HM9 HS9
  have hbx := below_new w10 (.cells #[.int .i64 0, .int .i64 0, .int .i64 0, .int .i64 0, .int .i64 0, .int .i64 0] 32)
  have HBX := Lib.hid hbx
  clear hbx
  go_upto_region 7 with (refine wpList_store_c3 tyP (zero_c3 w10 _) rfl (.tmp 13) (.tmp 43) rfl rfl C3.zero rfl ?_; intro w11 hs11 hg11)
  have hb11 := HBX.out.grown hg11 HBX.out.size (fun j hj => by injection hj with hj; omega)
  have HB11 := Lib.hid (HB10.out.trans (hb11.mono HB10.out.size))
  have HL3 := Lib.hid (HL3.out.up hb11)
  have HS11 := Lib.hid (HS10.out.below hb11)
  generalize w10.heap.size = g13 at *
  clear hs11 hg11 hb11 HB10 HBX HS10
  obtain ⟨w12, hm12, ho12, hb12⟩ := run_zeros w11 (65 + k) (by omega)
  rw [show ((65 + k : Nat) : Int) = 65 + (k : Int) from by omega] at hm12
  have HM12 := Lib.hid hm12
  have HL12 := Lib.hid ho12.lies
  have HB12 := Lib.hid (HB11.out.trans (hb12.mono HB11.out.size))
  have HL3 := Lib.hid (HL3.out.up hb12)
  have HS12 := Lib.hid (HS11.out.below hb12)
  clear hm12 ho12 hb12 HB11 HS11
  go_wp2_with (at_make; refine wpList_make_run rfl 22 _ _ rfl rfl rfl HM12.out ?_)
  refine (ofblock_bad HP.out HL12.out (by omega) HK3.out (by decide)).mono ?_
  rintro e w13 ⟨A13, c13, rfl, hb13⟩
  have HB13 := Lib.hid (HB12.out.trans (hb13.mono HB12.out.size))
  have HL3 := Lib.hid (HL3.out.up hb13)
  have HS13 := Lib.hid (HS12.out.below hb13)
  clear hb13 HL12 HB12 HM12 HS12 HK2 HC2 HK3
  obtain ⟨w14, hm14, ho14, hb14⟩ := run_zeros (World.drew w13) 32 (by omega)
  have HM14 := Lib.hid hm14
  have HB14 := Lib.hid hb14
  have HL14 := Lib.hid ho14.lies
  have hs14 : Since w13 w14 := (show Since w13 (World.drew w13) from (Below.refl _ _).drew).trans (hb14.mono (Nat.le_refl _))
  have HSN := Lib.hid hs14
  obtain ⟨d, hd⟩ : ∃ d, d = z32 := ⟨_, rfl⟩
  have HKA := Lib.hid (fun V (hV : Since w13 V) => show (convert 22 9 (.slice A3 32 c3)).run Try.prog V = .ok (.string ⟨d.toArray⟩) V from by rw [hd]; exact (HL3.out.up hV).conv)
  have HKB := Lib.hid (fun V (hV : Since w14 V) => show (convert 22 9 (.slice (some ⟨w13.heap.size, 0, none⟩) 32 32)).run Try.prog V = .ok (.string ⟨d.toArray⟩) V from by rw [hd]; exact (HL14.out.up hV).conv)
  have hdd : (d == d) = true := beq_self_eq_true d
  have HEQ : Hid (∀ W : World, (binOp .eql 32 (c3V .zero) (.agg #[.int .i64 0, .int .i64 0, .int .i64 0, .int .i64 0, .int .i64 0, .int .i64 0])).run Try.prog W = .ok (.bool true) W) := Lib.hid (fun W => by
    have h := run_c3P_eql .zero .zero W
    rw [c3Eq_self] at h
    exact h)
  have HGD : Hid (∀ (op : BinOp) (x y : Operand) (W : World), (eqGuard op 32 x y (c3V .zero) (.agg #[.int .i64 0, .int .i64 0, .int .i64 0, .int .i64 0, .int .i64 0, .int .i64 0])).run Try.prog W = .ok () W) := Lib.hid (fun op x y W => run_c3P_guard op x y .zero .zero W)
  clear hd
  have HLD := Lib.hid (fun V (hV : Since w14 V) => run_load_c3 tyP ((HS13.out.below hs14).below hV))
  clear hm14 hb14 ho14 hs14
  go_upto_region 8 with fail
  refine wp_region_since (by kernel_rfl) ?_
  have hS : Since w13 (World.drew w13) := (Below.refl _ _).drew
  refine wpAnyH_take (i := 0) (oi := ⟨some 53, _, _, _, _, _⟩) (v := ?_) rfl (by kernel_rfl) (by kernel_rfl) (by kernel_rfl) (fun _ _ _ h => h) (Or.inl ⟨by rfl, ?_⟩) hS ?_
  rotate_left
  · intro W hW; go_simp; with_reducible rfl
  try simp only [Act.put, List.setIfInBounds_toArray, List.set_cons_zero, List.set_cons_succ]
  refine wpAnyH_take (i := 1) (oi := ⟨some 54, _, _, _, _, _⟩) (v := ?_) rfl (by kernel_rfl) (by kernel_rfl) (by kernel_rfl) (fun _ _ _ h => h) (Or.inl ⟨by rfl, ?_⟩) hS ?_
  rotate_left
  · intro W hW; go_simp; with_reducible rfl
  try simp only [Act.put, List.setIfInBounds_toArray, List.set_cons_zero, List.set_cons_succ]
  refine wpAnyH_take (i := 2) (oi := ⟨some 55, _, _, _, _, _⟩) (v := ?_) rfl (by kernel_rfl) (by kernel_rfl) (by kernel_rfl) (fun _ _ _ h => h) (Or.inl ⟨by rfl, ?_⟩) hS ?_
  rotate_left
  · intro W hW; go_simp; with_reducible rfl
  try simp only [Act.put, List.setIfInBounds_toArray, List.set_cons_zero, List.set_cons_succ]
  refine wpAnyH_take (i := 3) (oi := ⟨some 56, _, _, _, _, _⟩) (v := ?_) rfl (by kernel_rfl) (by kernel_rfl) (by kernel_rfl) (fun _ _ _ h => h) (Or.inl ⟨by rfl, ?_⟩) hS ?_
  rotate_left
  · intro W hW; go_simp; with_reducible rfl
  try simp only [Act.put, List.setIfInBounds_toArray, List.set_cons_zero, List.set_cons_succ]
  refine wpAnyH_take (i := 4) (oi := ⟨some 57, _, _, _, _, _⟩) (v := ?_) rfl (by kernel_rfl) (by kernel_rfl) (by kernel_rfl) (fun _ _ _ h => h) (Or.inl ⟨by rfl, ?_⟩) hS ?_
  rotate_left
  · intro W hW; go_simp; with_reducible rfl
  try simp only [Act.put, List.setIfInBounds_toArray, List.set_cons_zero, List.set_cons_succ]
  refine wpAnyH_take (i := 5) (oi := ⟨some 58, _, _, _, _, _⟩) (v := ?_) rfl (by kernel_rfl) (by kernel_rfl) (by kernel_rfl) (fun _ _ _ h => h) (Or.inl ⟨by rfl, ?_⟩) hS ?_
  rotate_left
  · intro W hW; go_simp; with_reducible rfl
  try simp only [Act.put, List.setIfInBounds_toArray, List.set_cons_zero, List.set_cons_succ]
  refine wpAnyH_take (i := 6) (oi := ⟨some 59, _, _, _, _, _⟩) (v := ?_) rfl (by kernel_rfl) (by kernel_rfl) (by kernel_rfl) (fun _ _ _ h => h) (Or.inl ⟨by rfl, ?_⟩) hS ?_
  rotate_left
  · intro W hW; go_simp; with_reducible rfl
  try simp only [Act.put, List.setIfInBounds_toArray, List.set_cons_zero, List.set_cons_succ]
  refine wpAnyH_take (i := 7) (oi := ⟨some 60, _, _, _, _, _⟩) (v := ?_) rfl (by kernel_rfl) (by kernel_rfl) (by kernel_rfl) (fun _ _ _ h => h) (Or.inl ⟨by rfl, ?_⟩) hS ?_
  rotate_left
  · intro W hW; go_simp; with_reducible rfl
  try simp only [Act.put, List.setIfInBounds_toArray, List.set_cons_zero, List.set_cons_succ]
  refine wpAnyH_take (i := 8) (oi := ⟨some 61, _, _, _, _, _⟩) (v := ?_) rfl (by kernel_rfl) (by kernel_rfl) (by kernel_rfl) (fun _ _ _ h => h) (Or.inl ⟨by rfl, ?_⟩) hS ?_
  rotate_left
  · intro W hW; go_simp; with_reducible rfl
  try simp only [Act.put, List.setIfInBounds_toArray, List.set_cons_zero, List.set_cons_succ]
  refine wpAnyH_take (i := 9) (oi := ⟨some 62, _, _, _, _, _⟩) (v := ?_) rfl (by kernel_rfl) (by kernel_rfl) (by kernel_rfl) (fun _ _ _ h => h) (Or.inl ⟨by rfl, ?_⟩) hS ?_
  rotate_left
  · intro W hW; go_simp; with_reducible rfl
  try simp only [Act.put, List.setIfInBounds_toArray, List.set_cons_zero, List.set_cons_succ]
  refine wpAnyH_take (i := 10) (oi := ⟨some 63, _, _, _, _, _⟩) (v := ?_) rfl (by kernel_rfl) (by kernel_rfl) (by kernel_rfl) (fun _ _ _ h => h) (Or.inl ⟨by rfl, ?_⟩) hS ?_
  rotate_left
  · intro W hW; go_simp; with_reducible rfl
  try simp only [Act.put, List.setIfInBounds_toArray, List.set_cons_zero, List.set_cons_succ]
  refine wpAnyH_take (i := 11) (oi := ⟨some 64, _, _, _, _, _⟩) (v := ?_) rfl (by kernel_rfl) (by kernel_rfl) (by kernel_rfl) (fun _ _ _ h => h) (Or.inl ⟨by rfl, ?_⟩) hS ?_
  rotate_left
  · intro W hW; go_simp; with_reducible rfl
  try simp only [Act.put, List.setIfInBounds_toArray, List.set_cons_zero, List.set_cons_succ]
  refine wpAnyH_take (i := 12) (oi := ⟨some 65, _, _, _, _, _⟩) (v := ?_) rfl (by kernel_rfl) (by kernel_rfl) (by kernel_rfl) (fun _ _ _ h => h) (Or.inl ⟨by rfl, ?_⟩) hS ?_
  rotate_left
  · intro W hW; go_simp; with_reducible rfl
  try simp only [Act.put, List.setIfInBounds_toArray, List.set_cons_zero, List.set_cons_succ]
  refine wpAnyH_take (i := 13) (oi := ⟨some 66, _, _, _, _, _⟩) (v := ?_) rfl (by kernel_rfl) (by kernel_rfl) (by kernel_rfl) (fun _ _ _ h => h) (Or.inl ⟨by rfl, ?_⟩) hS ?_
  rotate_left
  · intro W hW; go_simp; with_reducible rfl
  try simp only [Act.put, List.setIfInBounds_toArray, List.set_cons_zero, List.set_cons_succ]
  refine wpAnyH_take (i := 14) (oi := ⟨some 67, _, _, _, _, _⟩) (v := ?_) rfl (by kernel_rfl) (by kernel_rfl) (by kernel_rfl) (fun _ _ _ h => h) (Or.inl ⟨by rfl, ?_⟩) hS ?_
  rotate_left
  · intro W hW; go_simp; with_reducible rfl
  try simp only [Act.put, List.setIfInBounds_toArray, List.set_cons_zero, List.set_cons_succ]
  refine wpAnyH_take (i := 15) (oi := ⟨some 68, _, _, _, _, _⟩) (v := ?_) rfl (by kernel_rfl) (by kernel_rfl) (by kernel_rfl) (fun _ _ _ h => h) (Or.inl ⟨by rfl, ?_⟩) hS ?_
  rotate_left
  · intro W hW
    have q0 := HKA.out W hW
    go_simp
    with_reducible rfl
  try simp only [Act.put, List.setIfInBounds_toArray, List.set_cons_zero, List.set_cons_succ]
  refine wpAnyH_ready (rs := [16]) (by kernel_rfl) (by simp) ?_
  refine AllReadyH.cons (o := ⟨some 69, _, _, _, _, _⟩) rfl (fun Kr hKr => ?_) AllReadyH.nil
  -- operation 16: a step
  rw [if_pos (by kernel_rfl)]
  refine wp_make 22 _ _ rfl rfl rfl HM14.out ?_
  show Kr _ _
  refine hKr.out _ _ ?_ (fun _ => ?_)
  · exact since_trans hS HB14.out
  clear hKr Kr
  refine wpAnyH_since (since_trans hS HB14.out) ?_
  clear hS
  have hS : Since w14 w14 := Below.refl _ _
  try simp only [Act.put, List.setIfInBounds_toArray, List.set_cons_zero, List.set_cons_succ]
  refine wpAnyH_take (i := 17) (oi := ⟨some 70, _, _, _, _, _⟩) (v := ?_) rfl (by kernel_rfl) (by kernel_rfl) (by kernel_rfl) (fun _ _ _ h => h) (Or.inl ⟨by rfl, ?_⟩) hS ?_
  rotate_left
  · intro W hW
    have q0 := HKB.out W hW
    go_simp
    with_reducible rfl
  try simp only [Act.put, List.setIfInBounds_toArray, List.set_cons_zero, List.set_cons_succ]
  refine wpAnyH_take (i := 18) (oi := ⟨some 71, _, _, _, _, _⟩) (v := ?_) rfl (by kernel_rfl) (by kernel_rfl) (by kernel_rfl) (fun _ _ _ h => h) (Or.inl ⟨by rfl, ?_⟩) hS ?_
  rotate_left
  · intro W hW; go_simp; with_reducible rfl
  try simp only [Act.put, List.setIfInBounds_toArray, List.set_cons_zero, List.set_cons_succ]
  refine wpAnyH_take (i := 19) (oi := ⟨some 72, _, _, _, _, _⟩) (v := ?_) rfl (by kernel_rfl) (by kernel_rfl) (by kernel_rfl) (fun _ _ _ h => h) (Or.inl ⟨by rfl, ?_⟩) hS ?_
  rotate_left
  · intro W hW; go_simp; with_reducible rfl
  try simp only [Act.put, List.setIfInBounds_toArray, List.set_cons_zero, List.set_cons_succ]
  refine wpAnyH_take (i := 20) (oi := ⟨some 73, _, _, _, _, _⟩) (v := ?_) rfl (by kernel_rfl) (by kernel_rfl) (by kernel_rfl) (fun _ _ _ h => h) (Or.inl ⟨by rfl, ?_⟩) hS ?_
  rotate_left
  · intro W hW; go_simp; with_reducible rfl
  try simp only [Act.put, List.setIfInBounds_toArray, List.set_cons_zero, List.set_cons_succ]
  refine wpAnyH_take (i := 21) (oi := ⟨some 74, _, _, _, _, _⟩) (v := (c3V C3.zero)) rfl (by kernel_rfl) (by kernel_rfl) (by kernel_rfl) (fun _ _ _ h => h) (Or.inl ⟨by rfl, fun W hW => exec_load rfl rfl (HLD.out W hW)⟩) hS ?_
  try simp only [Act.put, List.setIfInBounds_toArray, List.set_cons_zero, List.set_cons_succ]
  refine wpAnyH_take (i := 22) (oi := ⟨some 75, _, _, _, _, _⟩) (v := ?_) rfl (by kernel_rfl) (by kernel_rfl) (by kernel_rfl) (fun _ _ _ h => h) (Or.inl ⟨by rfl, ?_⟩) hS ?_
  rotate_left
  · intro W hW; go_simp; with_reducible rfl
  try simp only [Act.put, List.setIfInBounds_toArray, List.set_cons_zero, List.set_cons_succ]
  refine wpAnyH_take (i := 23) (oi := ⟨some 76, _, _, _, _, _⟩) (v := ?_) rfl (by kernel_rfl) (by kernel_rfl) (by kernel_rfl) (fun _ _ _ h => h) (Or.inl ⟨by rfl, ?_⟩) hS ?_
  rotate_left
  · intro W hW
    have q0 := HEQ.out W
    have q1 := HGD.out
    go_simp
    with_reducible rfl
  try simp only [Act.put, List.setIfInBounds_toArray, List.set_cons_zero, List.set_cons_succ]
  refine wpAnyH_take (i := 24) (oi := ⟨some 77, _, _, _, _, _⟩) (v := ?_) rfl (by kernel_rfl) (by kernel_rfl) (by kernel_rfl) (fun _ _ _ h => h) (Or.inl ⟨by rfl, ?_⟩) hS ?_
  rotate_left
  · intro W hW; go_simp; with_reducible rfl
  try simp only [Act.put, List.setIfInBounds_toArray, List.set_cons_zero, List.set_cons_succ]
  refine wpAnyH_take (i := 25) (oi := ⟨some 78, _, _, _, _, _⟩) (v := ?_) rfl (by kernel_rfl) (by kernel_rfl) (by kernel_rfl) (fun _ _ _ h => h) (Or.inl ⟨by rfl, ?_⟩) hS ?_
  rotate_left
  · intro W hW; go_simp; with_reducible rfl
  try simp only [Act.put, List.setIfInBounds_toArray, List.set_cons_zero, List.set_cons_succ]
  refine wpAnyH_take (i := 26) (oi := ⟨some 79, _, _, _, _, _⟩) (v := ?_) rfl (by kernel_rfl) (by kernel_rfl) (by kernel_rfl) (fun _ _ _ h => h) (Or.inl ⟨by rfl, ?_⟩) hS ?_
  rotate_left
  · intro W hW; go_simp; with_reducible rfl
  try simp only [Act.put, List.setIfInBounds_toArray, List.set_cons_zero, List.set_cons_succ]
  refine wpAnyH_take (i := 27) (oi := ⟨some 80, _, _, _, _, _⟩) (v := ?_) rfl (by kernel_rfl) (by kernel_rfl) (by kernel_rfl) (fun _ _ _ h => h) (Or.inl ⟨by rfl, ?_⟩) hS ?_
  rotate_left
  · intro W hW; go_simp; with_reducible rfl
  try simp only [Act.put, List.setIfInBounds_toArray, List.set_cons_zero, List.set_cons_succ]
  refine wpAnyH_take (i := 28) (oi := ⟨some 81, _, _, _, _, _⟩) (v := ?_) rfl (by kernel_rfl) (by kernel_rfl) (by kernel_rfl) (fun _ _ _ h => h) (Or.inl ⟨by rfl, ?_⟩) hS ?_
  rotate_left
  · intro W hW; go_simp; with_reducible rfl
  try simp only [Act.put, List.setIfInBounds_toArray, List.set_cons_zero, List.set_cons_succ]
  refine wpAnyH_take (i := 29) (oi := ⟨some 82, _, _, _, _, _⟩) (v := ?_) rfl (by kernel_rfl) (by kernel_rfl) (by kernel_rfl) (fun _ _ _ h => h) (Or.inl ⟨by rfl, ?_⟩) hS ?_
  rotate_left
  · intro W hW; go_simp; with_reducible rfl
  try simp only [Act.put, List.setIfInBounds_toArray, List.set_cons_zero, List.set_cons_succ]
  refine wpAnyH_take (i := 30) (oi := ⟨some 83, _, _, _, _, _⟩) (v := ?_) rfl (by kernel_rfl) (by kernel_rfl) (by kernel_rfl) (fun _ _ _ h => h) (Or.inl ⟨by rfl, ?_⟩) hS ?_
  rotate_left
  · intro W hW; go_simp; with_reducible rfl
  try simp only [Act.put, List.setIfInBounds_toArray, List.set_cons_zero, List.set_cons_succ]
  refine wpAnyH_take (i := 31) (oi := ⟨some 84, _, _, _, _, _⟩) (v := ?_) rfl (by kernel_rfl) (by kernel_rfl) (by kernel_rfl) (fun _ _ _ h => h) (Or.inl ⟨by rfl, ?_⟩) hS ?_
  rotate_left
  · intro W hW; go_simp; with_reducible rfl
  try simp only [Act.put, List.setIfInBounds_toArray, List.set_cons_zero, List.set_cons_succ]
  refine wpAnyH_take (i := 32) (oi := ⟨some 85, _, _, _, _, _⟩) (v := ?_) rfl (by kernel_rfl) (by kernel_rfl) (by kernel_rfl) (fun _ _ _ h => h) (Or.inl ⟨by rfl, ?_⟩) hS ?_
  rotate_left
  · intro W hW; go_simp; with_reducible rfl
  try simp only [Act.put, List.setIfInBounds_toArray, List.set_cons_zero, List.set_cons_succ]
  refine wpAnyH_take (i := 33) (oi := ⟨some 86, _, _, _, _, _⟩) (v := ?_) rfl (by kernel_rfl) (by kernel_rfl) (by kernel_rfl) (fun _ _ _ h => h) (Or.inl ⟨by rfl, ?_⟩) hS ?_
  rotate_left
  · intro W hW; go_simp; with_reducible rfl
  try simp only [Act.put, List.setIfInBounds_toArray, List.set_cons_zero, List.set_cons_succ]
  refine wpAnyH_take (i := 34) (oi := ⟨some 87, _, _, _, _, _⟩) (v := ?_) rfl (by kernel_rfl) (by kernel_rfl) (by kernel_rfl) (fun _ _ _ h => h) (Or.inl ⟨by rfl, ?_⟩) hS ?_
  rotate_left
  · intro W hW; go_simp; with_reducible rfl
  try simp only [Act.put, List.setIfInBounds_toArray, List.set_cons_zero, List.set_cons_succ]
  refine wpAnyH_take (i := 35) (oi := ⟨some 88, _, _, _, _, _⟩) (v := ?_) rfl (by kernel_rfl) (by kernel_rfl) (by kernel_rfl) (fun _ _ _ h => h) (Or.inl ⟨by rfl, ?_⟩) hS ?_
  rotate_left
  · intro W hW; go_simp; with_reducible rfl
  try simp only [Act.put, List.setIfInBounds_toArray, List.set_cons_zero, List.set_cons_succ]
  refine wpAnyH_take (i := 36) (oi := ⟨some 89, _, _, _, _, _⟩) (v := ?_) rfl (by kernel_rfl) (by kernel_rfl) (by kernel_rfl) (fun _ _ _ h => h) (Or.inl ⟨by rfl, ?_⟩) hS ?_
  rotate_left
  · intro W hW; go_simp; with_reducible rfl
  try simp only [Act.put, List.setIfInBounds_toArray, List.set_cons_zero, List.set_cons_succ]
  refine wpAnyH_take (i := 37) (oi := ⟨some 2, _, _, _, _, _⟩) (v := ?_) rfl (by kernel_rfl) (by kernel_rfl) (by kernel_rfl) (fun _ _ _ h => h) (Or.inl ⟨by rfl, ?_⟩) hS ?_
  rotate_left
  · intro W hW; go_simp; with_reducible rfl
  try simp only [Act.put, List.setIfInBounds_toArray, List.set_cons_zero, List.set_cons_succ]
  refine wpAnyH_done (by kernel_rfl) ?_ _
  clear hS
  go_wp2_with fail
  go_ret
  exact ⟨rfl, HB13.out.trans (Below.mono HSN.out HB13.out.size)⟩

end Go.Proofs.Ytknjkihcpcimpaa
