/-
  The program's stamps, its n-th piece of a list, and that piece's data, if its stamp is the one that is wanted.
-/
import Derived.Test.YtdjfahnnfhediaaGreatRows6
import Derived.Test.YtdjfahnnfhediaaGreatSince
import Derived.Laws.StructEq
namespace Go.Proofs.YtdjfahnnfhediaaGreat
set_option maxRecDepth 100000
open Go.RowKit Crc Wm

theorem run_eq_i64 (d : Nat) (x y : Int) (w : World) : (Op.equalIn (d + 1) 3 (.int .i64 x) (.int .i64 y)).run Tryz.prog w = .ok (x == y) w := by
  simp [Op.equalIn, run_underlying Tryz.underlying3]
theorem run_part_four (a b c d : Int) (w : World) : ((part 3 #[.int .i64 a, .int .i64 b, .int .i64 c, .int .i64 d] 0).run Tryz.prog w = .ok (.int .i64 a) w ∧ (part 3 #[.int .i64 a, .int .i64 b, .int .i64 c, .int .i64 d] 1).run Tryz.prog w = .ok (.int .i64 b) w) ∧ (part 3 #[.int .i64 a, .int .i64 b, .int .i64 c, .int .i64 d] 2).run Tryz.prog w = .ok (.int .i64 c) w ∧ (part 3 #[.int .i64 a, .int .i64 b, .int .i64 c, .int .i64 d] 3).run Tryz.prog w = .ok (.int .i64 d) w := by
  have hagg : (isAgg 3).run Tryz.prog w = .ok false w := by
    unfold isAgg
    rw [Sem.run_bind, run_underlying Tryz.underlying3 w]
    rfl
  refine ⟨⟨?_, ?_⟩, ?_, ?_⟩ <;> simp [part, Sem.run_bind, hagg]

def stampV (a b c d : Int) : Value := .agg #[.int .i64 a, .int .i64 b, .int .i64 c, .int .i64 d]

theorem run_stamp_neq (a b c d a' b' c' d' : Int) (w : World) : (binOp .neq 120 (stampV a b c d) (stampV a' b' c' d')).run Tryz.prog w = .ok (.bool (!decide (a = a' ∧ b = b' ∧ c = c' ∧ d = d'))) w := by
  have hf : Tryz.prog.underlying 120 = some (.struct (Tryz.prog.fieldsOf 120)) := by kernel_rfl
  obtain ⟨⟨h0, h1⟩, h2, h3⟩ := run_part_four a b c d w
  obtain ⟨⟨h0', h1'⟩, h2', h3'⟩ := run_part_four a' b' c' d' w
  have he : ∀ x y : Int, (Op.equalIn 9999 3 (.int .i64 x) (.int .i64 y)).run Tryz.prog w = .ok (x == y) w := fun x y => run_eq_i64 9998 x y w
  unfold stampV
  rw [run_neq_struct, run_equalIn_agg w 9999 _ _ _ hf (by kernel_rfl)]
  simp only [Program.fieldsOf, Tryz.underlying120]
  have hn : ∀ s : String, (s = "epoch" ∨ s = "at" ∨ s = "index" ∨ s = "count") → s ≠ "_" := by
    intro s hs e
    subst e
    rcases hs with hs | hs | hs | hs <;> exact absurd hs (by decide)
  simp only [Op.eqFields]
  rw [if_pos (hn _ (.inl rfl)), if_pos (hn _ (.inr (.inl rfl))), if_pos (hn _ (.inr (.inr (.inl rfl)))), if_pos (hn _ (.inr (.inr (.inr rfl))))]
  clear hn hf
  simp only [Sem.run_bind, h0, h0', Result.andThen_ok, he]
  by_cases e0 : a = a'
  · subst e0
    by_cases e1 : b = b'
    · subst e1
      by_cases e2 : c = c'
      · subst e2
        by_cases e3 : d = d'
        · subst e3
          simp [Sem.run_bind, *]
        · simp [Sem.run_bind, *]
      · simp [Sem.run_bind, *]
    · simp [Sem.run_bind, *]
  · simp [*]

set_option maxHeartbeats 400000 in
theorem stampof_any (p : Pv) (w : World) : Calls Tryz.prog 91 #[pvV p] w fun e w' => e = .returned (stampV p.E p.A p.I p.C) ∧ Below w.heap.size w w' := by
  have HX := Lib.hid (Bp.new w p 105)
  have HB := Lib.hid (below_two (below_new w (.cells (pvC p) 105)) (below_new _ (.cells #[.int .i64 p.E, .int .i64 p.A, .int .i64 p.I, .int .i64 p.C] 120)))
  obtain ⟨E, A, I, C, ad, n, c⟩ := p
  simp only at HB
  go_enter Tryz.func91, Tryz.ntmps91
  go_wp2_with fail
  refine bodyPost_ret (v := stampV E A I C) (by simp [results, Tryz.results91, go_sem, stampV]) rfl ⟨rfl, ?_⟩
  exact HB.out

def nthE (ls : List (List UInt8)) (i : Nat) : Int := match ls[i]? with | none => 2 | some x => readE x
def nthP (ls : List (List UInt8)) (i : Nat) : Pc := match ls[i]? with | none => Pc.none | some x => readP x

set_option maxHeartbeats 1500000 in
set_option maxRecDepth 100000 in
theorem nth_any (A : Option Addr) (c m : Nat) (ls : List (List UInt8)) (HM : Hid (ls.length = m)) (_hm : m ≤ 1000000) (hsm : Hid (∀ x ∈ ls, x.length ≤ 1000000)) (i : Nat) (_hi : i ≤ 1000000) (w : World) (hls : Ls w A ls) :
    Calls Tryz.prog 76 #[.slice A m c, .int .i64 (i : Int)] w (PieceOut w (nthP ls i) (nthE ls i)) := by
  have HY := Lib.hid (Bp.new w zp 105)
  have HB := Lib.hid (below_new w (.cells (pvC zp) 105))
  have HL := Lib.hid hls
  clear hls
  rcases Nat.lt_or_ge i m with hlt | hge
  · have hil : i < ls.length := by rw [HM.out]; exact hlt
    obtain ⟨b, o, Ax, n, cx, rfl, hb, hc, hlx⟩ := HL.out.at_ (List.getElem?_eq_getElem hil)
    have hnE : nthE ls i = readE ls[i] := by unfold nthE; rw [List.getElem?_eq_getElem hil]
    have hnP : nthP ls i = readP ls[i] := by unfold nthP; rw [List.getElem?_eq_getElem hil]
    have hn : n ≤ 1000000 := by rw [← hlx.len]; exact hsm.out _ (List.getElem_mem hil)
    rw [hnE, hnP]
    have hb1 := below_new w (.cells (pvC zp) 105)
    have hc1 := (hb1.cell (p := ⟨b, o + i, none⟩) hb).trans hc
    have hwl : w.heap.size < (w.alloc (.cells (pvC zp) 105)).heap.size := by simp
    have hcall := read_any Ax cx n ls[i] (w.alloc (.cells (pvC zp) 105)) (hlx.up hb1) (by omega)
    generalize ls[i] = x at *
    clear hil hnE hnP hb hc hb1 hlx
    have HCA := Lib.hid hcall
    have HWL := Lib.hid hwl
    clear hcall hwl
    unfold zp at hc1
    go_enter Tryz.func76, Tryz.ntmps76
    go_wp2_with fail
    refine (HCA.out).mono ?_
    rintro e w3 ⟨A3, n3, c3, rfl, ho3, hb3⟩
    have HY3 := Lib.hid (HY.out.below hb3)
    have HB3 := Lib.hid (below_two HB.out hb3)
    have HO3 := Lib.hid ho3
    clear ho3 hb3 HCA
    have y0 := HY3.out.c0
    have y1 := HY3.out.c1
    have y2 := HY3.out.c2
    have y3 := HY3.out.c3
    have y4 := HY3.out.c4
    have f0 := HY3.out.fr 0
    have f1 := HY3.out.fr 1
    have f2 := HY3.out.fr 2
    have f3 := HY3.out.fr 3
    have f4 := HY3.out.fr 4
    unfold zp at y0 y1 y2 y3 y4
    simp only at y0 y1 y2 y3 y4
    generalize readP x = p at *
    generalize readE x = E at *
    obtain ⟨PE, PA, PI, PC, PD⟩ := p
    simp only at HO3
    go_wp2_with fail
    refine bodyPost_ret (v := .tuple #[.agg #[.int .i64 PE, .int .i64 PA, .int .i64 PI, .int .i64 PC, .slice A3 n3 c3], .int .i64 E]) (by rw [results_cell_tmp rfl]; go_simp) rfl ⟨A3, n3, c3, rfl, ?_, results_five HB3.out _ _ _ _ _⟩
    have h0 : w.heap.size < (w.alloc (.cells (pvC zp) 105)).heap.size := HWL.out
    exact (((((HO3.out.setOld h0 _).setOld h0 _).setOld h0 _).setOld h0 _).setOld h0 _).base_le (Nat.le_of_lt h0)
  · have hnE : nthE ls i = 2 := by unfold nthE; rw [List.getElem?_eq_none (by rw [HM.out]; exact hge)]
    have hnP : nthP ls i = Pc.none := by unfold nthP; rw [List.getElem?_eq_none (by rw [HM.out]; exact hge)]
    rw [hnE, hnP]
    clear hnE hnP
    go_enter Tryz.func76, Tryz.ntmps76
    go_wp2_with fail
    exact bodyPost_ret (v := .tuple #[.agg #[.int .i64 0, .int .i64 0, .int .i64 0, .int .i64 0, .slice none 0 0], .int .i64 2]) (by rw [results_cell_tmp rfl]; go_simp) rfl ⟨none, 0, 0, rfl, ⟨rfl, .inl ⟨rfl, rfl⟩⟩, HB.out⟩

/-- the error of a piece whose stamp is wanted, and its data -/
def wantE (ls : List (List UInt8)) (i : Nat) (a b c d : Int) : Int :=
  if nthE ls i ≠ 0 then nthE ls i else if (nthP ls i).E = a ∧ (nthP ls i).A = b ∧ (nthP ls i).I = c ∧ (nthP ls i).C = d then 0 else 3
def wantB (ls : List (List UInt8)) (i : Nat) (a b c d : Int) : List UInt8 := if wantE ls i a b c d = 0 then (nthP ls i).D else []

set_option maxHeartbeats 1500000 in
set_option maxRecDepth 100000 in
theorem dataof_any (A : Option Addr) (c m : Nat) (ls : List (List UInt8)) (HM : Hid (ls.length = m)) (hm : m ≤ 1000000) (hsm : Hid (∀ x ∈ ls, x.length ≤ 1000000)) (i : Nat) (hi : i ≤ 1000000) (sa sb sc sd : Int) (w : World) (hls : Ls w A ls) :
    Calls Tryz.prog 77 #[.slice A m c, .int .i64 (i : Int), stampV sa sb sc sd] w (Gives w (wantB ls i sa sb sc sd) (wantE ls i sa sb sc sd)) := by
  have hb0 := below_new w (.cells #[.int .i64 sa, .int .i64 sb, .int .i64 sc, .int .i64 sd] 120)
  have hS : (w.alloc (.cells #[.int .i64 sa, .int .i64 sb, .int .i64 sc, .int .i64 sd] 120)).heap[w.heap.size]? = some (.cells #[.int .i64 sa, .int .i64 sb, .int .i64 sc, .int .i64 sd] 120 (0, 0)) := heap_alloc_new w _
  have HC := Lib.hid (nth_any A c m ls HM hm hsm i hi _ (hls.up hb0))
  have HB := Lib.hid hb0
  have HS := Lib.hid hS
  have HWE : Hid (wantE ls i sa sb sc sd = if nthE ls i ≠ 0 then nthE ls i else if (nthP ls i).E = sa ∧ (nthP ls i).A = sb ∧ (nthP ls i).I = sc ∧ (nthP ls i).C = sd then 0 else 3) := Lib.hid rfl
  have HWB : Hid (wantB ls i sa sb sc sd = if wantE ls i sa sb sc sd = 0 then (nthP ls i).D else []) := Lib.hid rfl
  generalize wantE ls i sa sb sc sd = WE at *
  generalize wantB ls i sa sb sc sd = WB at *
  generalize nthE ls i = E at *
  generalize nthP ls i = p at *
  obtain ⟨PE, PA, PI, PC, PD⟩ := p
  simp only at HWE HWB
  clear hb0 hS hls
  have hst : stampV sa sb sc sd = .agg #[.int .i64 sa, .int .i64 sb, .int .i64 sc, .int .i64 sd] := rfl
  rw [hst]
  clear hst
  go_enter Tryz.func77, Tryz.ntmps77
  go_wp2_with fail
  refine (HC.out).mono ?_
  rintro e w1 ⟨A1, n1, c1, rfl, ho1, hb1⟩
  have HO1 := Lib.hid (ho1.base_le HB.out.size)
  have hS1 := (hb1.block w.heap.size (lt_of_block HS.out)).trans HS.out
  replace HB := Lib.hid (below_two HB.out hb1)
  replace HS := Lib.hid hS1
  clear ho1 hb1 HC hS1
  by_cases hE : E = 0
  · subst hE
    have hb2 := below_new w1 (.cells (pvC ⟨PE, PA, PI, PC, A1, n1, c1⟩) 105)
    have HP := Lib.hid (Bp.new w1 ⟨PE, PA, PI, PC, A1, n1, c1⟩ 105)
    have HO2 := Lib.hid (HO1.out.below hb2)
    have hS2 := (hb2.block w.heap.size (lt_of_block HS.out)).trans HS.out
    replace HB := Lib.hid (below_two HB.out hb2)
    replace HS := Lib.hid hS2
    clear hb2 hS2 HO1
    have hne : ((0 : Int) != 0) = false := rfl
    go_wp2_with fail
    generalize hw2 : w1.alloc (.cells #[.int .i64 PE, .int .i64 PA, .int .i64 PI, .int .i64 PC, .slice A1 n1 c1] 105) = w2
    replace HP : Hid (Bp w2 w1.heap.size ⟨PE, PA, PI, PC, A1, n1, c1⟩ 105) := by rw [← hw2]; exact HP
    replace HO2 : Hid (Owns w2 w.heap.size A1 c1 n1 PD) := by rw [← hw2]; exact HO2
    replace HB : Hid (Below w.heap.size w w2) := by rw [← hw2]; exact HB
    replace HS : Hid (w2.heap[w.heap.size]? = some (.cells #[.int .i64 sa, .int .i64 sb, .int .i64 sc, .int .i64 sd] 120 (0, 0))) := by rw [← hw2]; exact HS
    clear hw2
    have p0 : ∀ V, Since w2 V → V.cell? ⟨w1.heap.size, 0, none⟩ = some (.int .i64 PE) := fun V hV => (HP.out.below hV).c0
    have p1 : ∀ V, Since w2 V → V.cell? ⟨w1.heap.size, 1, none⟩ = some (.int .i64 PA) := fun V hV => (HP.out.below hV).c1
    have p2 : ∀ V, Since w2 V → V.cell? ⟨w1.heap.size, 2, none⟩ = some (.int .i64 PI) := fun V hV => (HP.out.below hV).c2
    have p3 : ∀ V, Since w2 V → V.cell? ⟨w1.heap.size, 3, none⟩ = some (.int .i64 PC) := fun V hV => (HP.out.below hV).c3
    have p4 : ∀ V, Since w2 V → V.cell? ⟨w1.heap.size, 4, none⟩ = some (.slice A1 n1 c1) := fun V hV => (HP.out.below hV).c4
    have hsl := lt_of_block HS.out
    have s0 : ∀ V, Since w2 V → V.cell? ⟨w.heap.size, 0, none⟩ = some (.int .i64 sa) := fun V hV => by rw [cell_of_row _ _ _ _ _ _ ((hV.block w.heap.size hsl).trans HS.out)]; rfl
    have s1 : ∀ V, Since w2 V → V.cell? ⟨w.heap.size, 1, none⟩ = some (.int .i64 sb) := fun V hV => by rw [cell_of_row _ _ _ _ _ _ ((hV.block w.heap.size hsl).trans HS.out)]; rfl
    have s2 : ∀ V, Since w2 V → V.cell? ⟨w.heap.size, 2, none⟩ = some (.int .i64 sc) := fun V hV => by rw [cell_of_row _ _ _ _ _ _ ((hV.block w.heap.size hsl).trans HS.out)]; rfl
    have s3 : ∀ V, Since w2 V → V.cell? ⟨w.heap.size, 3, none⟩ = some (.int .i64 sd) := fun V hV => by rw [cell_of_row _ _ _ _ _ _ ((hV.block w.heap.size hsl).trans HS.out)]; rfl
    obtain ⟨q, HQ⟩ : ∃ q, Hid (q = decide (PE = sa ∧ PA = sb ∧ PI = sc ∧ PC = sd)) := ⟨_, Lib.hid rfl⟩
    have nq : ∀ V, Since w2 V → (binOp .neq 120 (stampV PE PA PI PC) (.agg #[.int .i64 sa, .int .i64 sb, .int .i64 sc, .int .i64 sd])).run Tryz.prog V = .ok (.bool (!q)) V := fun V _ => by rw [HQ.out]; exact run_stamp_neq PE PA PI PC sa sb sc sd V
    have ng : ∀ V, Since w2 V → (eqGuard .neq 120 (.tmp 20) (.tmp 21) (stampV PE PA PI PC) (.agg #[.int .i64 sa, .int .i64 sb, .int .i64 sc, .int .i64 sd])).run Tryz.prog V = .ok () V := fun V _ => run_eqGuard_agg (P := Tryz.prog) V _ _ _ _ _ _ (by kernel_rfl)
    refine wp_region_since (by kernel_rfl) ?_
    have hS : Since w2 (World.drew w2) := (Below.refl _ _).drew
    refine wpAnyH_take (i := 0) (oi := ⟨some 19, _, _, _, _, _⟩) (v := ?_) rfl (by kernel_rfl) (by kernel_rfl) (by kernel_rfl) (fun _ _ _ h => h) (Or.inl ⟨by rfl, ?_⟩) hS ?_
    rotate_left
    · intro W hW; go_simp; with_reducible rfl
    try simp only [Act.put, List.setIfInBounds_toArray, List.set_cons_zero, List.set_cons_succ]
    refine wpAnyH_take (i := 2) (oi := ⟨some 21, _, _, _, _, _⟩) (v := ?_) rfl (by kernel_rfl) (by kernel_rfl) (by kernel_rfl) (fun _ _ _ h => h) (Or.inl ⟨by rfl, ?_⟩) hS ?_
    rotate_left
    · intro W hW; go_simp; with_reducible rfl
    try simp only [Act.put, List.setIfInBounds_toArray, List.set_cons_zero, List.set_cons_succ]
    refine wpAnyH_ready (rs := [1]) (by kernel_rfl) (by simp) ?_
    refine AllReadyH.cons (o := ⟨some 20, _, _, _, _, _⟩) rfl (fun Kr hKr => ?_) AllReadyH.nil
    -- operation 1: a call
    go_simp
    refine (stampof_any ⟨PE, PA, PI, PC, A1, n1, c1⟩ _).mono ?_
    rintro e w3 ⟨rfl, hx⟩
    show Kr _ _
    refine hKr.out _ _ ?_ (fun _ => ?_)
    · exact since_trans hS hx
    clear hKr Kr
    replace hS : Since w2 w3 := since_trans hS hx
    skip
    refine wpAnyH_take (i := 3) (oi := ⟨some 22, _, _, _, _, _⟩) (v := ?_) rfl (by kernel_rfl) (by kernel_rfl) (by kernel_rfl) (fun _ _ _ h => h) (Or.inl ⟨by rfl, ?_⟩) hS ?_
    rotate_left
    · intro W hW; go_simp; with_reducible rfl
    try simp only [Act.put, List.setIfInBounds_toArray, List.set_cons_zero, List.set_cons_succ]
    refine wpAnyH_done (by kernel_rfl) ?_ _
    have HB3 := Lib.hid (below_two HB.out hS)
    have HO3 := Lib.hid (HO2.out.below hS)
    have q4 := p4 _ hS
    have HEQ : Hid ((if PE = sa ∧ PA = sb ∧ PI = sc ∧ PC = sd then (0 : Int) else 3) = WE) := by rw [HWE.out]; rfl
    clear p0 p1 p2 p3 p4 s0 s1 s2 s3 nq ng hS HP HS HB HO2
    by_cases hq : PE = sa ∧ PA = sb ∧ PI = sc ∧ PC = sd
    · have hd : q = true := by rw [HQ.out]; exact decide_eq_true hq
      rw [hd]
      have hE0 : WE = 0 := by rw [← HEQ.out, if_pos hq]
      have hB0 : WB = PD := by rw [HWB.out, if_pos hE0]
      have HE0 := Lib.hid hE0
      have HB0 := Lib.hid hB0
      clear hd hq HEQ hE0 hB0 HWE HWB HQ
      go_wp2_with fail
      go_ret2
      rw [HE0.out, HB0.out]
      exact ⟨A1, n1, c1, rfl, HO3.out, HB3.out⟩
    · have hd : q = false := by rw [HQ.out]; exact decide_eq_false hq
      rw [hd]
      have hE0 : WE = 3 := by rw [← HEQ.out, if_neg hq]
      have hB0 : WB = [] := by rw [HWB.out, if_neg (by rw [hE0]; decide)]
      have HE0 := Lib.hid hE0
      have HB0 := Lib.hid hB0
      clear hd hq HEQ hE0 hB0 HWE HWB HQ
      go_wp2_with fail
      go_ret2
      rw [HE0.out, HB0.out]
      exact ⟨none, 0, 0, rfl, ⟨rfl, .inl ⟨rfl, rfl⟩⟩, HB3.out⟩
  · have hne : (E != 0) = true := by rw [bne_iff_ne]; exact hE
    have hE0 : WE = E := by rw [HWE.out, if_pos hE]
    have hB0 : WB = [] := by rw [HWB.out, if_neg (by rw [hE0]; exact hE)]
    have HE0 := Lib.hid hE0
    have HB0 := Lib.hid hB0
    have HB1 := Lib.hid (below_two HB.out (below_new w1 (.cells #[.int .i64 PE, .int .i64 PA, .int .i64 PI, .int .i64 PC, .slice A1 n1 c1] 105)))
    clear hE hE0 hB0 HWE HWB
    go_wp2_with fail
    go_ret2
    rw [HE0.out, HB0.out]
    exact ⟨none, 0, 0, rfl, ⟨rfl, .inl ⟨rfl, rfl⟩⟩, HB1.out⟩

end Go.Proofs.YtdjfahnnfhediaaGreat
