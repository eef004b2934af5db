/-
  The program's body of a piece that may be, and Write, of any piece.
-/
import Derived.Test.YtofekbipbndbbaaConcat6
namespace Go.Proofs.Ytofekbipbndbbaa
open Go.RowKit Crc Wm

theorem wp_make {P : Program} {o : Oper} {a : Act} {w w' : World} {K : Act → World → Prop} {Q : Exit → Act → World → Prop} (t : TypeId) (l c : Operand) (ho : o.op = .makeSlice t l c) {x y v : Value} (hl : a.eval l = x) (hc : a.eval c = y)
    (hrun : (Instr.makeSlice t x y).run P w = .ok v w') (h : K (a.put o.dst v) w') : o.wp P a w K Q := by
  unfold Oper.wp execOp
  simp only [ho, hl, hc, Sem.run_bind, Sem.run_pure, Result.andThen_ok, hrun]
  exact h

/-- 'make([]byte, n)', in any world -/
theorem run_zeros (w : World) (n : Nat) (hn : n ≤ 1000000) : ∃ w', (Instr.makeSlice 22 (.int .i64 (n : Int)) (.int .i64 (n : Int))).run Try.prog w = .ok (.slice (some ⟨w.heap.size, 0, none⟩) n n) w' ∧
    Owns w' w.heap.size (some ⟨w.heap.size, 0, none⟩) n n (zeroB n) ∧ Below w.heap.size w w' := by
  obtain ⟨i0, hi, hz0, hz1, hz2⟩ := info_parts byte_facts
  obtain ⟨w2, hmk, hown, hgr⟩ := run_make_full (P := Try.prog) w w.heap.size 22 5 i0 (.int .u8 0) 1 Try.underlying22 hi hz0 hz1 .i64 .i64 n (by rw [hz2]; omega) (by unfold maxLen; omega) (Nat.le_refl _)
  exact ⟨w2, hmk, made_zeros hown, (Below.refl _ _).grown hgr (Nat.le_refl _) (by simp)⟩

/-- a number of k bytes is put behind others -/
theorem put_k {A : Option Addr} {c L B : Nat} {l : List UInt8} {w : World} (ho : Owns w B A c L l) (v k : Nat) (n : Int) (hn : n = k) (hk : k ≤ 8) (hl : L ≤ 1073741824) (hv : v ≤ 18446744073709551615) :
    Calls Try.prog 39 #[.slice A L c, .int .u64 v, .int .i64 n] w (Made w (L + k) (l ++ putB k v)) :=
  put_core A c L l (Lib.hid ho.len) v n k w ho.read hl hv hk (.inr (.inl (by omega)))

/-- three slices laid side by side for a call -/
theorem parts_three {w : World} {A1 A2 A3 : Option Addr} {n1 c1 n2 c2 n3 c3 : Nat} {l1 l2 l3 : List UInt8} (h1 : Lies w A1 c1 n1 l1) (h2 : Lies w A2 c2 n2 l2) (h3 : Lies w A3 c3 n3 l3) (t : TypeId) (g : Nat) (hg : w.heap.size = g) :
    Parts (w.alloc (.cells #[.slice A1 n1 c1, .slice A2 n2 c2, .slice A3 n3 c3] t)) g 0 [l1, l2, l3] := by
  subst hg
  have hb := below_new w (.cells #[.slice A1 n1 c1, .slice A2 n2 c2, .slice A3 n3 c3] t)
  refine ⟨by simp, fun j x hx => ?_⟩
  rw [Nat.zero_add, cell_of_row _ _ _ _ _ _ (heap_alloc_new w _)]
  match j, hx with
  | 0, hx => simp at hx; subst hx; exact ⟨_, _, _, rfl, h1.up hb⟩
  | 1, hx => simp at hx; subst hx; exact ⟨_, _, _, rfl, h2.up hb⟩
  | 2, hx => simp at hx; subst hx; exact ⟨_, _, _, rfl, h3.up hb⟩
  | j + 3, hx => simp at hx
theorem parts_two {w : World} {A1 A2 : Option Addr} {n1 c1 n2 c2 : Nat} {l1 l2 : List UInt8} (h1 : Lies w A1 c1 n1 l1) (h2 : Lies w A2 c2 n2 l2) (t : TypeId) (g : Nat) (hg : w.heap.size = g) :
    Parts (w.alloc (.cells #[.slice A1 n1 c1, .slice A2 n2 c2] t)) g 0 [l1, l2] := by
  subst hg
  have hb := below_new w (.cells #[.slice A1 n1 c1, .slice A2 n2 c2] t)
  refine ⟨by simp, fun j x hx => ?_⟩
  rw [Nat.zero_add, cell_of_row _ _ _ _ _ _ (heap_alloc_new w _)]
  match j, hx with
  | 0, hx => simp at hx; subst hx; exact ⟨_, _, _, rfl, h1.up hb⟩
  | 1, hx => simp at hx; subst hx; exact ⟨_, _, _, rfl, h2.up hb⟩
  | j + 2, hx => simp at hx

/-- the same call, its own memory counted from an earlier world on -/
theorem Made.from {w w1 : World} {n : Nat} {l : List UInt8} {e : Ending} {w2 : World} (hb : Below w.heap.size w w1) (h : Made w1 n l e w2) : Made w n l e w2 := by
  obtain ⟨A, c, he, ho, hb2⟩ := h
  exact ⟨A, c, he, ho.base_le hb.size, below_two hb hb2⟩

set_option maxHeartbeats 4000000 in
set_option maxRecDepth 100000 in
theorem body_any (p : Pv) (D : List UInt8) (w : World) (hl : Lies w p.ad p.c p.n D) (hm : MayN p.E p.A p.I p.C p.n) :
    Calls Try.prog 26 #[pvV p] w (Made w 60 (Pc.body ⟨p.E, p.A, p.I, p.C, D⟩)) := by
  have HX := Lib.hid (Bp.new w p 31)
  have HB := Lib.hid (below_new w (.cells (pvC p) 31))
  have HLN := Lib.hid hl.len
  obtain ⟨E, A, I, C, ad, n, c⟩ := p
  obtain ⟨⟨e0, e1⟩, ⟨a0, a1⟩, ⟨k0, k1⟩, ⟨i0', i1⟩, hn⟩ := hm
  simp only at e0 e1 a0 a1 k0 k1 i0' i1 hn hl HLN
  obtain ⟨E, rfl⟩ := Int.eq_ofNat_of_zero_le e0
  obtain ⟨A, rfl⟩ := Int.eq_ofNat_of_zero_le a0
  obtain ⟨I, rfl⟩ := Int.eq_ofNat_of_zero_le i0'
  obtain ⟨C, rfl⟩ := Int.eq_ofNat_of_zero_le (by omega : 0 ≤ C)
  have hn44 : n ≤ 44 := by omega
  have h4 : E ≤ 4294967295 := by omega
  have h5 : A ≤ 2199023255552 := by omega
  have h6 : I ≤ 1024 := by omega
  have h7 : C ≤ 1024 := by omega
  obtain ⟨R, hR⟩ : ∃ R : Nat, (R : Int) = 44 - (n : Int) := ⟨44 - n, by omega⟩
  have hRw : IntKind.i64.wrap (44 - (n : Int)) = (R : Int) := by rw [IntKind.wrap_i64]; omega
  have HR := Lib.hid hR
  have hc60 : Hid ([putB 4 E ++ putB 6 A ++ putB 2 I ++ putB 2 C ++ putB 1 n ++ putB 1 0, D, zeroB R].flatten = Pc.body ⟨(E : Int), (A : Int), (I : Int), (C : Int), D⟩) := by
    show _ = _
    unfold Pc.body Pc.head
    simp only [List.flatten_cons, List.flatten_nil, List.append_nil, Int.toNat_natCast, HLN.out]
    rw [show 44 - n = R from by omega]
    simp only [List.append_assoc]
  have hc60l : Hid (([putB 4 E ++ putB 6 A ++ putB 2 I ++ putB 2 C ++ putB 1 n ++ putB 1 0, D, zeroB R].flatten).length = 60) := by
    show _ = _
    rw [hc60.out, length_body _ (by show D.length ≤ 44; rw [HLN.out]; omega)]
  have HL := Lib.hid hl
  clear hl e0 a0 i0' k0 e1 a1 i1 k1 hn hR
  have c0 := HX.out.c0
  go_enter Try.func26, Try.ntmps26
  go_wp2_with fail
  refine (put_core none 0 0 [] (Lib.hid rfl) E 4 4 _ (Rd.nil _ _ _) (by omega) (by omega) (by omega) (.inr (.inl (by omega)))).mono ?_
  rintro e w1 ⟨A1, b1, rfl, ho, hb⟩
  replace HX := Lib.hid (HX.out.below hb)
  replace HB := Lib.hid (below_two HB.out hb)
  have HO := Lib.hid ho
  clear ho hb c0
  have c0 := HX.out.c1
  go_wp2_with fail
  refine (put_k HO.out A 6 6 rfl (by omega) (by omega) (by omega)).mono ?_
  rintro e w2 ⟨A2, b2, rfl, ho, hb⟩
  replace HX := Lib.hid (HX.out.below hb)
  replace HB := Lib.hid (below_two HB.out hb)
  replace HO := Lib.hid ho
  clear ho hb c0
  have c0 := HX.out.c2
  go_wp2_with fail
  refine (put_k HO.out I 2 2 rfl (by omega) (by omega) (by omega)).mono ?_
  rintro e w3 ⟨A3, b3, rfl, ho, hb⟩
  replace HX := Lib.hid (HX.out.below hb)
  replace HB := Lib.hid (below_two HB.out hb)
  replace HO := Lib.hid ho
  clear ho hb c0
  have c0 := HX.out.c3
  go_wp2_with fail
  refine (put_k HO.out C 2 2 rfl (by omega) (by omega) (by omega)).mono ?_
  rintro e w4 ⟨A4, b4, rfl, ho, hb⟩
  replace HX := Lib.hid (HX.out.below hb)
  replace HB := Lib.hid (below_two HB.out hb)
  replace HO := Lib.hid ho
  clear ho hb c0
  have c0 := HX.out.c4
  go_wp2_with fail
  refine (put_k HO.out n 1 1 rfl (by omega) (by omega) (by omega)).mono ?_
  rintro e w5 ⟨A5, b5, rfl, ho, hb⟩
  replace HX := Lib.hid (HX.out.below hb)
  replace HB := Lib.hid (below_two HB.out hb)
  replace HO := Lib.hid ho
  clear ho hb c0
  go_wp2_with fail
  refine (put_k HO.out 0 1 1 rfl (by omega) (by omega) (by omega)).mono ?_
  rintro e w6 ⟨A6, b6, rfl, ho, hb⟩
  replace HX := Lib.hid (HX.out.below hb)
  replace HB := Lib.hid (below_two HB.out hb)
  replace HO := Lib.hid ho
  clear ho hb
  go_wp2_with fail
  have c0 : ∀ V, Since w6 V → V.cell? ⟨w.heap.size, 4, none⟩ = some (.slice ad n c) := fun V hV => (HX.out.below hV).c4
  obtain ⟨w7, hmk, hoz, hb7⟩ := run_zeros (World.drew w6) R (by have := HR.out; omega)
  have HMK := Lib.hid hmk
  have HZ := Lib.hid hoz
  have HB7 := Lib.hid hb7
  clear hmk hoz hb7
  have HB67 : Hid (Below w6.heap.size w6 w7) := Lib.hid (((Below.refl _ _).drew).trans HB7.out)
  simp only [List.nil_append, Nat.zero_add, Nat.reduceAdd] at HO
  have hl1 := Lib.hid (HO.out.lies.up HB67.out)
  have hl2 := Lib.hid ((HL.out.up HB.out).up HB67.out)
  have hl3 := Lib.hid (HZ.out.lies)
  refine wp_region_since (by kernel_rfl) ?_
  have hS : Since w6 (World.drew w6) := (Below.refl _ _).drew
  refine wpAnyH_take (i := 0) (oi := ⟨some 31, _, _, _, _, _⟩) (v := ?_) rfl (by kernel_rfl) (by kernel_rfl) (by kernel_rfl) (fun _ _ _ h => h) (Or.inl ⟨by rfl, ?_⟩) hS ?_
  rotate_left
  · intro W hW; go_simp; with_reducible rfl
  try simp only [Act.put, List.setIfInBounds_toArray, List.set_cons_zero, List.set_cons_succ]
  refine wpAnyH_take (i := 1) (oi := ⟨some 32, _, _, _, _, _⟩) (v := ?_) rfl (by kernel_rfl) (by kernel_rfl) (by kernel_rfl) (fun _ _ _ h => h) (Or.inl ⟨by rfl, ?_⟩) hS ?_
  rotate_left
  · intro W hW; go_simp; with_reducible rfl
  try simp only [Act.put, List.setIfInBounds_toArray, List.set_cons_zero, List.set_cons_succ]
  refine wpAnyH_take (i := 2) (oi := ⟨some 33, _, _, _, _, _⟩) (v := ?_) rfl (by kernel_rfl) (by kernel_rfl) (by kernel_rfl) (fun _ _ _ h => h) (Or.inl ⟨by rfl, ?_⟩) hS ?_
  rotate_left
  · intro W hW; go_simp; with_reducible rfl
  try simp only [Act.put, List.setIfInBounds_toArray, List.set_cons_zero, List.set_cons_succ]
  refine wpAnyH_take (i := 3) (oi := ⟨some 34, _, _, _, _, _⟩) (v := ?_) rfl (by kernel_rfl) (by kernel_rfl) (by kernel_rfl) (fun _ _ _ h => h) (Or.inl ⟨by rfl, ?_⟩) hS ?_
  rotate_left
  · intro W hW; go_simp; with_reducible rfl
  try simp only [Act.put, List.setIfInBounds_toArray, List.set_cons_zero, List.set_cons_succ]
  refine wpAnyH_take (i := 4) (oi := ⟨some 35, _, _, _, _, _⟩) (v := ?_) rfl (by kernel_rfl) (by kernel_rfl) (by kernel_rfl) (fun _ _ _ h => h) (Or.inl ⟨by rfl, ?_⟩) hS ?_
  rotate_left
  · intro W hW; go_simp; with_reducible rfl
  try simp only [Act.put, List.setIfInBounds_toArray, List.set_cons_zero, List.set_cons_succ]
  refine wpAnyH_take (i := 5) (oi := ⟨some 36, _, _, _, _, _⟩) (v := ?_) rfl (by kernel_rfl) (by kernel_rfl) (by kernel_rfl) (fun _ _ _ h => h) (Or.inl ⟨by rfl, ?_⟩) hS ?_
  rotate_left
  · intro W hW; go_simp; with_reducible rfl
  try simp only [Act.put, List.setIfInBounds_toArray, List.set_cons_zero, List.set_cons_succ]
  refine wpAnyH_take (i := 6) (oi := ⟨some 37, _, _, _, _, _⟩) (v := ?_) rfl (by kernel_rfl) (by kernel_rfl) (by kernel_rfl) (fun _ _ _ h => h) (Or.inl ⟨by rfl, ?_⟩) hS ?_
  rotate_left
  · intro W hW; go_simp; with_reducible rfl
  try simp only [Act.put, List.setIfInBounds_toArray, List.set_cons_zero, List.set_cons_succ]
  refine wpAnyH_ready (rs := [7]) (by kernel_rfl) (by simp) ?_
  refine AllReadyH.cons (o := ⟨some 38, _, _, _, _, _⟩) rfl (fun Kr hKr => ?_) AllReadyH.nil
  -- operation 7: a step
  rw [if_pos (by kernel_rfl)]
  refine wp_make 22 _ _ rfl rfl rfl HMK.out ?_
  show Kr _ _
  refine hKr.out _ _ ?_ (fun _ => ?_)
  · exact HB67.out
  clear hKr Kr
  replace hS : Since w6 w7 := HB67.out
  try simp only [Act.put, List.setIfInBounds_toArray, List.set_cons_zero, List.set_cons_succ]
  refine wpAnyH_ready (rs := [8]) (by kernel_rfl) (by simp) ?_
  refine AllReadyH.cons (o := ⟨some 39, _, _, _, _, _⟩) rfl (fun Kr hKr => ?_) AllReadyH.nil
  -- operation 8: a step
  go_simp
  show Kr _ _
  refine hKr.out _ _ ?_ (fun _ => ?_)
  · exact below_two HB67.out (below_new w7 _)
  clear hKr Kr
  replace hS : Since w6 (w7.alloc (.cells #[.slice A6 16 b6, .slice ad n c, .slice (some ⟨(World.drew w6).heap.size, 0, none⟩) R R] 22)) := below_two HB67.out (below_new w7 _)
  try simp only [Act.put, List.setIfInBounds_toArray, List.set_cons_zero, List.set_cons_succ]
  refine wpAnyH_ready (rs := [9]) (by kernel_rfl) (by simp) ?_
  refine AllReadyH.cons (o := ⟨some 40, _, _, _, _, _⟩) rfl (fun Kr hKr => ?_) AllReadyH.nil
  -- operation 9: a call
  go_simp
  refine (concat_any w7.heap.size 0 3 3 _ (Lib.hid rfl) (by omega) _ (Lib.hid (parts_three hl1.out hl2.out hl3.out _ _ rfl)) 60 hc60l (by omega) (by omega)).mono ?_
  rintro e w8 ⟨A8, b8, rfl, ho8, hb8⟩
  have HB8 := Lib.hid (below_two HB67.out (below_two (below_new w7 _) hb8))
  have HO8 := Lib.hid ho8
  clear ho8 hb8
  show Kr _ _
  refine hKr.out _ _ ?_ (fun _ => ?_)
  · exact HB8.out
  clear hKr Kr
  replace hS : Since w6 w8 := HB8.out
  try simp only [Act.put, List.setIfInBounds_toArray, List.set_cons_zero, List.set_cons_succ]
  refine wpAnyH_take (i := 10) (oi := ⟨some 2, _, _, _, _, _⟩) (v := ?_) rfl (by kernel_rfl) (by kernel_rfl) (by kernel_rfl) (fun _ _ _ h => h) (Or.inl ⟨by rfl, ?_⟩) hS ?_
  rotate_left
  · intro W hW; go_simp; with_reducible rfl
  try simp only [Act.put, List.setIfInBounds_toArray, List.set_cons_zero, List.set_cons_succ]
  refine wpAnyH_done (by kernel_rfl) ?_ _
  clear c0
  go_wp2_with fail
  go_ret
  refine ⟨A8, b8, rfl, ?_, below_two HB.out HB8.out⟩
  rw [← hc60.out]
  refine HO8.out.base_le ?_
  have h1 := HB.out.size
  have h2 := HB67.out.size
  simp
  omega

end Go.Proofs.Ytofekbipbndbbaa
