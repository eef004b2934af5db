/-
  A note's variable; are two notes the same? The document's answer.
-/
import Derived.Test.YtjpnihmijnpjcaaNw
import Derived.Laws.StructEq
import Derived.ChangeKeysEq
namespace Go.Proofs.Ytjpnihmijnpjcaa
set_option maxRecDepth 100000
set_option linter.unusedVariables false
set_option linter.unusedSimpArgs false
open Go.RowKit Wm Nn

/-- a note in a block of its own -/
structure NtB (w : World) (g : Nat) (ty : TypeId) (x : Nt) (r : Nr) : Prop where
  bk : Bk w g (ntC x r) ty
section
variable {w V : World} {g : Nat} {ty : TypeId} {x : Nt} {r : Nr}
theorem NtB.c0 (h : NtB w g ty x r) : w.cell? ⟨g, 0, none⟩ = some (.int .i64 x.kind) := h.bk.c 0 _ rfl
theorem NtB.c1 (h : NtB w g ty x r) : w.cell? ⟨g, 1, none⟩ = some (.int .i64 x.seq) := h.bk.c 1 _ rfl
theorem NtB.c2 (h : NtB w g ty x r) : w.cell? ⟨g, 2, none⟩ = some (.slice r.A r.n r.c) := h.bk.c 2 _ rfl
theorem NtB.c3 (h : NtB w g ty x r) : w.cell? ⟨g, 3, none⟩ = some (.slice r.B r.m r.d) := h.bk.c 3 _ rfl
theorem NtB.below (h : NtB w g ty x r) (hb : Below w.heap.size w V) : NtB V g ty x r := ⟨h.bk.below hb⟩
theorem NtB.new (w : World) (ty : TypeId) (x : Nt) (r : Nr) : NtB (w.alloc (.cells (ntC x r) ty)) w.heap.size ty x r := ⟨Bk.new _ _ _⟩
end

theorem nt_ext {x y : Nt} (h1 : x.kind = y.kind) (h2 : x.seq = y.seq) (h3 : x.im = y.im) (h4 : x.op = y.op) : x = y := by
  cases x; cases y; simp_all
theorem im_ext {x y : Im} (h1 : x.k = y.k) (h2 : x.d = y.d) : x = y := by cases x; cases y; simp_all
theorem od_ext {x y : Od} (h1 : x.c = y.c) (h2 : x.b = y.b) : x = y := by cases x; cases y; simp_all
theorem same_no {x y : Nt} (h : x ≠ y) : sameB x y = false := by unfold sameB; simp [h]
theorem ne_yes {a b : Int} (h : a = b) : (a == b) = true ∧ (a != b) = false := by subst h; simp
theorem ne_no {a b : Int} (h : a ≠ b) : (a == b) = false ∧ (a != b) = true := by simp [h]

theorem od_facts : Try.prog.underlying 53 = some (.struct (Try.prog.fieldsOf 53)) ∧ Try.prog.stoodInHeld 53 = false ∧ (Try.prog.fieldsOf 53).toList.map (fun f => (f.name, f.type, f.offset)) = [("Counter", 3, 0), ("By", 3, 1)] := ⟨by kernel_rfl, by kernel_rfl, by kernel_rfl⟩
theorem run_agg_int (w : World) : (isAgg 3).run Try.prog w = .ok false w := by
  unfold isAgg
  rw [Sem.run_bind, run_underlying Try.underlying3 w]
  rfl
theorem run_eq_i64 (d : Nat) (x y : Int) (w : World) : (Op.equalIn (d + 1) 3 (.int .i64 x) (.int .i64 y)).run Try.prog w = .ok (x == y) w := by
  simp [Op.equalIn, run_underlying Try.underlying3]
def odV (x : Od) : Value := .agg #[.int .i64 x.c, .int .i64 x.b]
theorem run_od_in (x y : Od) (w : World) : (Op.equalIn 10000 53 (odV x) (odV y)).run Try.prog w = .ok (x.c == y.c && x.b == y.b) w := by
  have he : ∀ a b : Int, (Op.equalIn 9999 3 (.int .i64 a) (.int .i64 b)).run Try.prog w = .ok (a == b) w := fun a b => run_eq_i64 9998 a b w
  obtain ⟨hf, hs, hn⟩ := od_facts
  unfold odV
  rw [run_equalIn_struct (P := Try.prog) w 9999 _ _ _ hf hs]
  rcases hfs : (Try.prog.fieldsOf 53).toList with _ | ⟨f, _ | ⟨g, _ | ⟨k, r⟩⟩⟩
  · rw [hfs] at hn; simp at hn
  · rw [hfs] at hn; simp at hn
  · rw [hfs] at hn
    simp only [List.map_cons, List.map_nil, List.cons.injEq, Prod.mk.injEq, and_true] at hn
    obtain ⟨⟨n1, t1, o1⟩, n2, t2, o2⟩ := hn
    have p1 : ∀ a b : Int, (part 3 #[.int .i64 a, .int .i64 b] 0).run Try.prog w = .ok (.int .i64 a) w := fun a b => by
      simp [part, Sem.run_bind, run_agg_int]
    have p2 : ∀ a b : Int, (part 3 #[.int .i64 a, .int .i64 b] 1).run Try.prog w = .ok (.int .i64 b) w := fun a b => by
      simp [part, Sem.run_bind, run_agg_int]
    have e1 : f.name ≠ "_" := by rw [n1]; decide
    have e2 : g.name ≠ "_" := by rw [n2]; decide
    simp only [Op.eqFields]
    rw [if_pos e1, if_pos e2, t1, t2, o1, o2]
    simp only [Sem.run_bind, p1, p2, Result.andThen_ok, he]
    generalize (x.c == y.c) = p
    cases p
    · simp
    · by_cases h2 : x.b = y.b
      · simp [Sem.run_bind, p2, he, Result.andThen_ok, h2]
      · simp [Sem.run_bind, p2, he, Result.andThen_ok, h2]
  · rw [hfs] at hn; simp at hn
theorem run_od_neq (x y : Od) (w : World) : (binOp .neq 53 (odV x) (odV y)).run Try.prog w = .ok (.bool (!(x.c == y.c && x.b == y.b))) w := by
  have h := run_od_in x y w
  unfold odV at *
  rw [run_neq_struct, h]
  rfl
theorem run_od_guard (op : BinOp) (x y : Operand) (s t : Od) (w : World) : (eqGuard op 53 x y (odV s) (odV t)).run Try.prog w = .ok () w :=
  run_eqGuard_agg (P := Try.prog) w _ _ _ _ _ _ (by kernel_rfl)
theorem exec_neq_od {W : World} {o : Oper} {ρ : Operand → Value} {x y : Operand} {ty : TypeId} (ho : o.op = .binOp .neq 53 x y ty) {s t : Od} (hx : ρ x = odV s) (hy : ρ y = odV t) {b : Bool} (hb : (!(s.c == t.c && s.b == t.b)) = b) :
    (execOp ρ o).run Try.prog W = .ok (.value (.bool b)) W := by
  unfold execOp
  simp only [ho, hx, hy, Sem.run_bind, Sem.run_pure, run_od_guard, Result.andThen_ok, run_od_neq s t]
  rw [hb]
theorem exec_load {P : Program} {W : World} {o : Oper} {ρ : Operand → Value} {ty : TypeId} {x : Operand} {ad : Addr} {v : Value} (ho : o.op = .load ty x) (hx : ρ x = .pointer (some ad)) (hl : (loadVar ty ad).run P W = .ok v W) : (execOp ρ o).run P W = .ok (.value v) W := by
  unfold execOp
  simp only [ho, hx, Instr.loadAt, Instr.sureAddr, Sem.run_bind, Sem.run_pure, Result.andThen_ok, hl]
theorem run_load_od {w : World} {b o : Nat} {x : Od} (h0 : w.cell? ⟨b, o, none⟩ = some (.int .i64 x.c)) (h1 : w.cell? ⟨b, o + 1, none⟩ = some (.int .i64 x.b)) : (loadVar 53 ⟨b, o, none⟩).run Try.prog w = .ok (odV x) w := by
  have hl := run_loadCells_list (P := Try.prog) w ⟨b, o, none⟩ [.int .i64 x.c, .int .i64 x.b] (fun j v hv => by
    rw [addr_add]
    rcases j with _ | _ | j
    · simp at hv; subst hv; exact h0
    · simp at hv; subst hv; exact h1
    · simp at hv)
  have hi : (Try.prog.info? 53).map (·.size) = some 2 := by kernel_rfl
  obtain ⟨hf, _, _⟩ := od_facts
  cases hq : Try.prog.info? 53 with
  | none => rw [hq] at hi; cases hi
  | some i =>
    have hs : i.size = 2 := by rw [hq] at hi; exact Option.some.inj hi
    have hagg : (isAgg 53).run Try.prog w = .ok true w := by
      unfold isAgg
      rw [Sem.run_bind, run_underlying hf w]
      rfl
    simp only [List.length_cons, List.length_nil] at hl
    simp [loadVar, Sem.run_bind, hagg, sizeOf, typeInfo, hq, hs, hl]
    rfl

set_option maxHeartbeats 4000000 in
theorem same_any (x y : Nt) (r q : Nr) (w : World) (hx : NtAt w x r) (hy : NtAt w y q) (hsm : x.im.length ≤ 100000 ∧ x.op.length ≤ 100000) : Calls Try.prog 22 #[ntV x r, ntV y q] w fun e w' => e = .returned (.bool (sameB x y)) ∧ Below w.heap.size w w' := by
  obtain ⟨A1, k1, c1, B1, l1, d1, e1⟩ := r
  obtain ⟨A2, k2, c2, B2, l2, d2, e2⟩ := q
  have hb1 := NtB.new w 25 x ⟨A1, k1, c1, B1, l1, d1, e1⟩
  have hbe1 := below_new w (.cells (ntC x ⟨A1, k1, c1, B1, l1, d1, e1⟩) 25)
  have hb2 := NtB.new (w.alloc (.cells (ntC x ⟨A1, k1, c1, B1, l1, d1, e1⟩) 25)) 25 y ⟨A2, k2, c2, B2, l2, d2, e2⟩
  have hbe2 := below_new (w.alloc (.cells (ntC x ⟨A1, k1, c1, B1, l1, d1, e1⟩) 25)) (.cells (ntC y ⟨A2, k2, c2, B2, l2, d2, e2⟩) 25)
  have hsz : (w.alloc (.cells (ntC x ⟨A1, k1, c1, B1, l1, d1, e1⟩) 25)).heap.size = w.heap.size + 1 := by simp
  rw [hsz] at hb2
  have HX := Lib.hid (hb1.below hbe2)
  have HY := Lib.hid hb2
  have HB := Lib.hid (below_two hbe1 hbe2)
  have HNX := Lib.hid (hx.below (below_two hbe1 hbe2))
  have HNY := Lib.hid (hy.below (below_two hbe1 hbe2))
  clear hb1 hbe1 hb2 hbe2 hsz hx hy
  obtain ⟨o, ho⟩ : ∃ o, sameB x y = o := ⟨_, rfl⟩
  rw [ho]
  have HO := Lib.hid ho
  clear ho
  unfold ntV
  obtain ⟨C1, hC1⟩ : ∃ C1, C1 = ntC x ⟨A1, k1, c1, B1, l1, d1, e1⟩ := ⟨_, rfl⟩
  obtain ⟨C2, hC2⟩ : ∃ C2, C2 = ntC y ⟨A2, k2, c2, B2, l2, d2, e2⟩ := ⟨_, rfl⟩
  rw [← hC1, ← hC2] at HX HY HB HNX HNY ⊢
  clear hC1 hC2
  go_enter Try.func22, Try.ntmps22
  go_upto_region 1 with fail
  generalize (w.alloc (.cells C1 25)).alloc (.cells C2 25) = w0 at *
  have a0 := HX.out.c0
  have a1 := HX.out.c1
  have a2 := HX.out.c2
  have a3 := HX.out.c3
  simp only at a2 a3
  have b0 := HY.out.c0
  have b1 := HY.out.c1
  have b2 := HY.out.c2
  have b3 := HY.out.c3
  simp only at b2 b3
  obtain ⟨n1, n2, n3, n4⟩ := HNX.out.n_
  obtain ⟨m1, m2, m3, m4⟩ := HNY.out.n_
  have hk1 : k1 ≤ 100000 := by simp only at n1; omega
  have hl1 : l1 ≤ 100000 := by simp only at n3; omega
  clear hsm
  have HNN := Lib.hid (And.intro n1 (And.intro n3 (And.intro m1 m3)))
  clear n1 n3 m1 m3
  by_cases h1 : x.kind = y.kind
  · by_cases h2 : x.seq = y.seq
    · by_cases h3 : k1 = k2
      · by_cases h4 : l1 = l2
        · obtain ⟨e1, e1n⟩ := ne_yes h1
          obtain ⟨e2, e2n⟩ := ne_yes h2
          obtain ⟨e3, e3n⟩ := ne_yes (show (k1 : Int) = (k2 : Int) from by rw [h3])
          obtain ⟨e4, e4n⟩ := ne_yes (show (l1 : Int) = (l2 : Int) from by rw [h4])
          subst h3 h4
          have HH := Lib.hid (And.intro h1 h2)
          clear h1 h2
          go_wp2_with fail
          clear e1 e1n e2 e2n e3 e3n e4 e4n a0 a1 b0 b1 a2 a3 b2 b3
          go_loopg [5] k1 (fun gn i wr => ∃ (j : Nat), i = .int .i64 (j : Int) ∧ j + gn = k1 ∧ Hid (Below w0.heap.size w0 wr) ∧ Hid (∀ i, i < j → x.im[i]? = y.im[i]?))
          case atStart => exact ⟨0, rfl, by omega, Lib.hid (Below.refl _ _), Lib.hid (fun i hi => by omega)⟩
          case round =>
            obtain ⟨j, rfl, hog, HBW, HEQ⟩ := hrel
            have HB1 := Lib.hid (HB.out.trans (HBW.out.mono HB.out.size))
            have HX1 := Lib.hid (HX.out.below HBW.out)
            have HY1 := Lib.hid (HY.out.below HBW.out)
            have a2 := HX1.out.c2
            have b2 := HY1.out.c2
            simp only at a2 b2
            rcases Nat.lt_or_ge j k1 with hlt | hge
            · have hdj : decide (j < k1) = true := decide_eq_true hlt
              have hdi : decide ((j : Int) < (k1 : Int)) = true := decide_eq_true (by omega)
              have hji : (j : Int) < (k1 : Int) := by omega
              have him := HNX.out.im
              have hin := HNY.out.im
              obtain ⟨xi, ⟨ri, ra, rn, rc⟩, bx, ox, hxi, _, hX⟩ := (him.below HBW.out).get hlt
              obtain ⟨yi, ⟨si, sa, sn, sc⟩, bY, oY, hyi, _, hY⟩ := (hin.below HBW.out).get hlt
              have HXI := Lib.hid hxi
              have HYI := Lib.hid hyi
              have eA1 := hX.a
              have eA2 := hY.a
              simp only at eA1 eA2
              subst eA1 eA2
              have K1 : Hid (∀ V, Since wr V → V.cell? ⟨w.heap.size, 2, none⟩ = some (.slice (some ⟨bx, ox, none⟩) k1 c1)) := Lib.hid (fun V hV => (HX1.out.below hV).c2)
              have K2 : Hid (∀ V, Since wr V → V.cell? ⟨w.heap.size + 1, 2, none⟩ = some (.slice (some ⟨bY, oY, none⟩) k1 c2)) := Lib.hid (fun V hV => (HY1.out.below hV).c2)
              obtain ⟨kx, hkx⟩ : ∃ kx, kx = xi.k := ⟨_, rfl⟩
              obtain ⟨ky, hky⟩ : ∃ ky, ky = yi.k := ⟨_, rfl⟩
              obtain ⟨dx, hdx⟩ : ∃ dx, dx = xi.d := ⟨_, rfl⟩
              obtain ⟨dy, hdy⟩ : ∃ dy, dy = yi.d := ⟨_, rfl⟩
              have K3 : Hid (∀ V, Since wr V → V.cell? ⟨bx, ox + j * 2, none⟩ = some (.int .i64 kx)) := Lib.hid (fun V hV => by rw [hkx]; exact (hV.cell (p := ⟨bx, ox + j * 2, none⟩) hX.lt).trans hX.c0)
              have K4 : Hid (∀ V, Since wr V → V.cell? ⟨bY, oY + j * 2, none⟩ = some (.int .i64 ky)) := Lib.hid (fun V hV => by rw [hky]; exact (hV.cell (p := ⟨bY, oY + j * 2, none⟩) hY.lt).trans hY.c0)
              have K5 : Hid (∀ V, Since wr V → V.cell? ⟨bx, ox + j * 2 + 1, none⟩ = some (.slice ra rn rc)) := Lib.hid (fun V hV => (hV.cell (p := ⟨bx, ox + j * 2 + 1, none⟩) hX.lt).trans hX.c1)
              have K6 : Hid (∀ V, Since wr V → V.cell? ⟨bY, oY + j * 2 + 1, none⟩ = some (.slice sa sn sc)) := Lib.hid (fun V hV => (hV.cell (p := ⟨bY, oY + j * 2 + 1, none⟩) hY.lt).trans hY.c1)
              have K7 : Hid (∀ V, Since wr V → (convert 26 9 (.slice ra rn rc)).run Try.prog V = .ok (.string ⟨dx.toArray⟩) V) := Lib.hid (fun V hV => by rw [hdx]; exact (hX.li.up hV).conv)
              have K8 : Hid (∀ V, Since wr V → (convert 26 9 (.slice sa sn sc)).run Try.prog V = .ok (.string ⟨dy.toArray⟩) V) := Lib.hid (fun V hV => by rw [hdy]; exact (hY.li.up hV).conv)
              have HKX := Lib.hid (And.intro hkx (And.intro hky (And.intro hdx hdy)))
              clear him hin hX hY hxi hyi hkx hky hdx hdy
              by_cases hk : kx = ky
              · obtain ⟨q1, q1n⟩ := ne_yes hk
                by_cases hd : dx = dy
                · have q2 : (dx == dy) = true := by rw [hd]; exact beq_self_eq_true _
                  have HEJ : Hid (x.im[j]? = y.im[j]?) := Lib.hid (by
                    rw [HXI.out, HYI.out]
                    obtain ⟨z1, z2, z3, z4⟩ := HKX.out
                    rw [im_ext (x := xi) (y := yi) (by rw [← z1, ← z2, hk]) (by rw [← z3, ← z4, hd])])
                  clear hk hd
                  go_upto_region 6 with fail
                  clear a2 b2
                  refine wp_region_since (by kernel_rfl) ?_
                  have hS : Since wr (World.drew wr) := (Below.refl _ _).drew
                  refine wpAnyH_take (i := 0) (oi := ⟨some 44, _, _, _, _, _⟩) (v := ?_) rfl (by kernel_rfl) (by kernel_rfl) (by kernel_rfl) (fun _ _ _ h => h) (Or.inl ⟨by rfl, ?_⟩) hS ?_
                  rotate_left
                  · intro W hW; go_simp; with_reducible rfl
                  try simp only [Act.put, List.setIfInBounds_toArray, List.set_cons_zero, List.set_cons_succ]
                  refine wpAnyH_take (i := 1) (oi := ⟨some 45, _, _, _, _, _⟩) (v := ?_) rfl (by kernel_rfl) (by kernel_rfl) (by kernel_rfl) (fun _ _ _ h => h) (Or.inl ⟨by rfl, ?_⟩) hS ?_
                  rotate_left
                  · intro W hW
                    have q0 := K1.out W hW
                    go_simp
                    with_reducible rfl
                  try simp only [Act.put, List.setIfInBounds_toArray, List.set_cons_zero, List.set_cons_succ]
                  refine wpAnyH_take (i := 2) (oi := ⟨some 46, _, _, _, _, _⟩) (v := ?_) rfl (by kernel_rfl) (by kernel_rfl) (by kernel_rfl) (fun _ _ _ h => h) (Or.inl ⟨by rfl, ?_⟩) hS ?_
                  rotate_left
                  · intro W hW; go_simp; with_reducible rfl
                  try simp only [Act.put, List.setIfInBounds_toArray, List.set_cons_zero, List.set_cons_succ]
                  refine wpAnyH_take (i := 3) (oi := ⟨some 47, _, _, _, _, _⟩) (v := ?_) rfl (by kernel_rfl) (by kernel_rfl) (by kernel_rfl) (fun _ _ _ h => h) (Or.inl ⟨by rfl, ?_⟩) hS ?_
                  rotate_left
                  · intro W hW; go_simp; with_reducible rfl
                  try simp only [Act.put, List.setIfInBounds_toArray, List.set_cons_zero, List.set_cons_succ]
                  refine wpAnyH_take (i := 4) (oi := ⟨some 48, _, _, _, _, _⟩) (v := ?_) rfl (by kernel_rfl) (by kernel_rfl) (by kernel_rfl) (fun _ _ _ h => h) (Or.inl ⟨by rfl, ?_⟩) hS ?_
                  rotate_left
                  · intro W hW; go_simp; with_reducible rfl
                  try simp only [Act.put, List.setIfInBounds_toArray, List.set_cons_zero, List.set_cons_succ]
                  refine wpAnyH_take (i := 5) (oi := ⟨some 49, _, _, _, _, _⟩) (v := ?_) rfl (by kernel_rfl) (by kernel_rfl) (by kernel_rfl) (fun _ _ _ h => h) (Or.inl ⟨by rfl, ?_⟩) hS ?_
                  rotate_left
                  · intro W hW
                    have q0 := K3.out W hW
                    go_simp
                    with_reducible rfl
                  try simp only [Act.put, List.setIfInBounds_toArray, List.set_cons_zero, List.set_cons_succ]
                  refine wpAnyH_take (i := 6) (oi := ⟨some 50, _, _, _, _, _⟩) (v := ?_) rfl (by kernel_rfl) (by kernel_rfl) (by kernel_rfl) (fun _ _ _ h => h) (Or.inl ⟨by rfl, ?_⟩) hS ?_
                  rotate_left
                  · intro W hW; go_simp; with_reducible rfl
                  try simp only [Act.put, List.setIfInBounds_toArray, List.set_cons_zero, List.set_cons_succ]
                  refine wpAnyH_take (i := 7) (oi := ⟨some 51, _, _, _, _, _⟩) (v := ?_) rfl (by kernel_rfl) (by kernel_rfl) (by kernel_rfl) (fun _ _ _ h => h) (Or.inl ⟨by rfl, ?_⟩) hS ?_
                  rotate_left
                  · intro W hW
                    have q0 := K2.out W hW
                    go_simp
                    with_reducible rfl
                  try simp only [Act.put, List.setIfInBounds_toArray, List.set_cons_zero, List.set_cons_succ]
                  refine wpAnyH_take (i := 8) (oi := ⟨some 52, _, _, _, _, _⟩) (v := ?_) rfl (by kernel_rfl) (by kernel_rfl) (by kernel_rfl) (fun _ _ _ h => h) (Or.inl ⟨by rfl, ?_⟩) hS ?_
                  rotate_left
                  · intro W hW; go_simp; with_reducible rfl
                  try simp only [Act.put, List.setIfInBounds_toArray, List.set_cons_zero, List.set_cons_succ]
                  refine wpAnyH_take (i := 9) (oi := ⟨some 53, _, _, _, _, _⟩) (v := ?_) rfl (by kernel_rfl) (by kernel_rfl) (by kernel_rfl) (fun _ _ _ h => h) (Or.inl ⟨by rfl, ?_⟩) hS ?_
                  rotate_left
                  · intro W hW; go_simp; with_reducible rfl
                  try simp only [Act.put, List.setIfInBounds_toArray, List.set_cons_zero, List.set_cons_succ]
                  refine wpAnyH_take (i := 10) (oi := ⟨some 54, _, _, _, _, _⟩) (v := ?_) rfl (by kernel_rfl) (by kernel_rfl) (by kernel_rfl) (fun _ _ _ h => h) (Or.inl ⟨by rfl, ?_⟩) hS ?_
                  rotate_left
                  · intro W hW; go_simp; with_reducible rfl
                  try simp only [Act.put, List.setIfInBounds_toArray, List.set_cons_zero, List.set_cons_succ]
                  refine wpAnyH_take (i := 11) (oi := ⟨some 55, _, _, _, _, _⟩) (v := ?_) rfl (by kernel_rfl) (by kernel_rfl) (by kernel_rfl) (fun _ _ _ h => h) (Or.inl ⟨by rfl, ?_⟩) hS ?_
                  rotate_left
                  · intro W hW
                    have q0 := K4.out W hW
                    go_simp
                    with_reducible rfl
                  try simp only [Act.put, List.setIfInBounds_toArray, List.set_cons_zero, List.set_cons_succ]
                  refine wpAnyH_take (i := 12) (oi := ⟨some 56, _, _, _, _, _⟩) (v := ?_) rfl (by kernel_rfl) (by kernel_rfl) (by kernel_rfl) (fun _ _ _ h => h) (Or.inl ⟨by rfl, ?_⟩) hS ?_
                  rotate_left
                  · intro W hW; go_simp; with_reducible rfl
                  try simp only [Act.put, List.setIfInBounds_toArray, List.set_cons_zero, List.set_cons_succ]
                  refine wpAnyH_take (i := 13) (oi := ⟨some 57, _, _, _, _, _⟩) (v := ?_) rfl (by kernel_rfl) (by kernel_rfl) (by kernel_rfl) (fun _ _ _ h => h) (Or.inl ⟨by rfl, ?_⟩) hS ?_
                  rotate_left
                  · intro W hW; go_simp; with_reducible rfl
                  try simp only [Act.put, List.setIfInBounds_toArray, List.set_cons_zero, List.set_cons_succ]
                  refine wpAnyH_take (i := 14) (oi := ⟨some 58, _, _, _, _, _⟩) (v := ?_) rfl (by kernel_rfl) (by kernel_rfl) (by kernel_rfl) (fun _ _ _ h => h) (Or.inl ⟨by rfl, ?_⟩) hS ?_
                  rotate_left
                  · intro W hW; go_simp; with_reducible rfl
                  try simp only [Act.put, List.setIfInBounds_toArray, List.set_cons_zero, List.set_cons_succ]
                  refine wpAnyH_take (i := 15) (oi := ⟨some 59, _, _, _, _, _⟩) (v := ?_) rfl (by kernel_rfl) (by kernel_rfl) (by kernel_rfl) (fun _ _ _ h => h) (Or.inl ⟨by rfl, ?_⟩) hS ?_
                  rotate_left
                  · intro W hW
                    have q0 := K1.out W hW
                    go_simp
                    with_reducible rfl
                  try simp only [Act.put, List.setIfInBounds_toArray, List.set_cons_zero, List.set_cons_succ]
                  refine wpAnyH_take (i := 16) (oi := ⟨some 60, _, _, _, _, _⟩) (v := ?_) rfl (by kernel_rfl) (by kernel_rfl) (by kernel_rfl) (fun _ _ _ h => h) (Or.inl ⟨by rfl, ?_⟩) hS ?_
                  rotate_left
                  · intro W hW; go_simp; with_reducible rfl
                  try simp only [Act.put, List.setIfInBounds_toArray, List.set_cons_zero, List.set_cons_succ]
                  refine wpAnyH_take (i := 17) (oi := ⟨some 61, _, _, _, _, _⟩) (v := ?_) rfl (by kernel_rfl) (by kernel_rfl) (by kernel_rfl) (fun _ _ _ h => h) (Or.inl ⟨by rfl, ?_⟩) hS ?_
                  rotate_left
                  · intro W hW; go_simp; with_reducible rfl
                  try simp only [Act.put, List.setIfInBounds_toArray, List.set_cons_zero, List.set_cons_succ]
                  refine wpAnyH_take (i := 18) (oi := ⟨some 62, _, _, _, _, _⟩) (v := ?_) rfl (by kernel_rfl) (by kernel_rfl) (by kernel_rfl) (fun _ _ _ h => h) (Or.inl ⟨by rfl, ?_⟩) hS ?_
                  rotate_left
                  · intro W hW; go_simp; with_reducible rfl
                  try simp only [Act.put, List.setIfInBounds_toArray, List.set_cons_zero, List.set_cons_succ]
                  refine wpAnyH_take (i := 19) (oi := ⟨some 63, _, _, _, _, _⟩) (v := ?_) rfl (by kernel_rfl) (by kernel_rfl) (by kernel_rfl) (fun _ _ _ h => h) (Or.inl ⟨by rfl, ?_⟩) hS ?_
                  rotate_left
                  · intro W hW
                    have q0 := K5.out W hW
                    go_simp
                    with_reducible rfl
                  try simp only [Act.put, List.setIfInBounds_toArray, List.set_cons_zero, List.set_cons_succ]
                  refine wpAnyH_take (i := 20) (oi := ⟨some 64, _, _, _, _, _⟩) (v := ?_) rfl (by kernel_rfl) (by kernel_rfl) (by kernel_rfl) (fun _ _ _ h => h) (Or.inl ⟨by rfl, ?_⟩) hS ?_
                  rotate_left
                  · intro W hW
                    have q0 := K7.out W hW
                    go_simp
                    with_reducible rfl
                  try simp only [Act.put, List.setIfInBounds_toArray, List.set_cons_zero, List.set_cons_succ]
                  refine wpAnyH_take (i := 21) (oi := ⟨some 65, _, _, _, _, _⟩) (v := ?_) rfl (by kernel_rfl) (by kernel_rfl) (by kernel_rfl) (fun _ _ _ h => h) (Or.inl ⟨by rfl, ?_⟩) hS ?_
                  rotate_left
                  · intro W hW; go_simp; with_reducible rfl
                  try simp only [Act.put, List.setIfInBounds_toArray, List.set_cons_zero, List.set_cons_succ]
                  refine wpAnyH_take (i := 22) (oi := ⟨some 66, _, _, _, _, _⟩) (v := ?_) rfl (by kernel_rfl) (by kernel_rfl) (by kernel_rfl) (fun _ _ _ h => h) (Or.inl ⟨by rfl, ?_⟩) hS ?_
                  rotate_left
                  · intro W hW
                    have q0 := K2.out W hW
                    go_simp
                    with_reducible rfl
                  try simp only [Act.put, List.setIfInBounds_toArray, List.set_cons_zero, List.set_cons_succ]
                  refine wpAnyH_take (i := 23) (oi := ⟨some 67, _, _, _, _, _⟩) (v := ?_) rfl (by kernel_rfl) (by kernel_rfl) (by kernel_rfl) (fun _ _ _ h => h) (Or.inl ⟨by rfl, ?_⟩) hS ?_
                  rotate_left
                  · intro W hW; go_simp; with_reducible rfl
                  try simp only [Act.put, List.setIfInBounds_toArray, List.set_cons_zero, List.set_cons_succ]
                  refine wpAnyH_take (i := 24) (oi := ⟨some 68, _, _, _, _, _⟩) (v := ?_) rfl (by kernel_rfl) (by kernel_rfl) (by kernel_rfl) (fun _ _ _ h => h) (Or.inl ⟨by rfl, ?_⟩) hS ?_
                  rotate_left
                  · intro W hW; go_simp; with_reducible rfl
                  try simp only [Act.put, List.setIfInBounds_toArray, List.set_cons_zero, List.set_cons_succ]
                  refine wpAnyH_take (i := 25) (oi := ⟨some 69, _, _, _, _, _⟩) (v := ?_) rfl (by kernel_rfl) (by kernel_rfl) (by kernel_rfl) (fun _ _ _ h => h) (Or.inl ⟨by rfl, ?_⟩) hS ?_
                  rotate_left
                  · intro W hW; go_simp; with_reducible rfl
                  try simp only [Act.put, List.setIfInBounds_toArray, List.set_cons_zero, List.set_cons_succ]
                  refine wpAnyH_take (i := 26) (oi := ⟨some 70, _, _, _, _, _⟩) (v := ?_) rfl (by kernel_rfl) (by kernel_rfl) (by kernel_rfl) (fun _ _ _ h => h) (Or.inl ⟨by rfl, ?_⟩) hS ?_
                  rotate_left
                  · intro W hW
                    have q0 := K6.out W hW
                    go_simp
                    with_reducible rfl
                  try simp only [Act.put, List.setIfInBounds_toArray, List.set_cons_zero, List.set_cons_succ]
                  refine wpAnyH_take (i := 27) (oi := ⟨some 71, _, _, _, _, _⟩) (v := ?_) rfl (by kernel_rfl) (by kernel_rfl) (by kernel_rfl) (fun _ _ _ h => h) (Or.inl ⟨by rfl, ?_⟩) hS ?_
                  rotate_left
                  · intro W hW
                    have q0 := K8.out W hW
                    go_simp
                    with_reducible rfl
                  try simp only [Act.put, List.setIfInBounds_toArray, List.set_cons_zero, List.set_cons_succ]
                  refine wpAnyH_take (i := 28) (oi := ⟨some 72, _, _, _, _, _⟩) (v := ?_) rfl (by kernel_rfl) (by kernel_rfl) (by kernel_rfl) (fun _ _ _ h => h) (Or.inl ⟨by rfl, ?_⟩) hS ?_
                  rotate_left
                  · intro W hW; go_simp; with_reducible rfl
                  try simp only [Act.put, List.setIfInBounds_toArray, List.set_cons_zero, List.set_cons_succ]
                  refine wpAnyH_take (i := 29) (oi := ⟨some 73, _, _, _, _, _⟩) (v := ?_) rfl (by kernel_rfl) (by kernel_rfl) (by kernel_rfl) (fun _ _ _ h => h) (Or.inl ⟨by rfl, ?_⟩) hS ?_
                  rotate_left
                  · intro W hW; go_simp; with_reducible rfl
                  try simp only [Act.put, List.setIfInBounds_toArray, List.set_cons_zero, List.set_cons_succ]
                  refine wpAnyH_done (by kernel_rfl) ?_ _
                  have HB2 := Lib.hid (HBW.out.trans (Below.mono hS HBW.out.size))
                  clear hS q1 q1n q2 K1 K2 K3 K4 K5 K6 K7 K8
                  go_wp2_with fail
                  go_roundg (gk - 1)
                  case measure => omega
                  case rel => exact ⟨j + 1, by go_num, by omega, HB2, Lib.hid (fun i hi => by
                    rcases Nat.lt_or_ge i j with h | h
                    · exact HEQ.out i h
                    · obtain rfl : i = j := by omega
                      exact HEJ.out)⟩
                · have q2 : (dx == dy) = false := beq_eq_false_iff_ne.2 hd
                  have HO2 : o = false := by
                    rw [← HO.out]
                    refine same_no (fun e => hd ?_)
                    obtain ⟨z1, z2, z3, z4⟩ := HKX.out
                    have e2 := HXI.out
                    rw [e, HYI.out] at e2
                    injection e2 with e2
                    rw [z3, z4, e2]
                  subst HO2
                  clear hk hd
                  go_upto_region 6 with fail
                  clear a2 b2
                  refine wp_region_since (by kernel_rfl) ?_
                  have hS : Since wr (World.drew wr) := (Below.refl _ _).drew
                  refine wpAnyH_take (i := 0) (oi := ⟨some 44, _, _, _, _, _⟩) (v := ?_) rfl (by kernel_rfl) (by kernel_rfl) (by kernel_rfl) (fun _ _ _ h => h) (Or.inl ⟨by rfl, ?_⟩) hS ?_
                  rotate_left
                  · intro W hW; go_simp; with_reducible rfl
                  try simp only [Act.put, List.setIfInBounds_toArray, List.set_cons_zero, List.set_cons_succ]
                  refine wpAnyH_take (i := 1) (oi := ⟨some 45, _, _, _, _, _⟩) (v := ?_) rfl (by kernel_rfl) (by kernel_rfl) (by kernel_rfl) (fun _ _ _ h => h) (Or.inl ⟨by rfl, ?_⟩) hS ?_
                  rotate_left
                  · intro W hW
                    have q0 := K1.out W hW
                    go_simp
                    with_reducible rfl
                  try simp only [Act.put, List.setIfInBounds_toArray, List.set_cons_zero, List.set_cons_succ]
                  refine wpAnyH_take (i := 2) (oi := ⟨some 46, _, _, _, _, _⟩) (v := ?_) rfl (by kernel_rfl) (by kernel_rfl) (by kernel_rfl) (fun _ _ _ h => h) (Or.inl ⟨by rfl, ?_⟩) hS ?_
                  rotate_left
                  · intro W hW; go_simp; with_reducible rfl
                  try simp only [Act.put, List.setIfInBounds_toArray, List.set_cons_zero, List.set_cons_succ]
                  refine wpAnyH_take (i := 3) (oi := ⟨some 47, _, _, _, _, _⟩) (v := ?_) rfl (by kernel_rfl) (by kernel_rfl) (by kernel_rfl) (fun _ _ _ h => h) (Or.inl ⟨by rfl, ?_⟩) hS ?_
                  rotate_left
                  · intro W hW; go_simp; with_reducible rfl
                  try simp only [Act.put, List.setIfInBounds_toArray, List.set_cons_zero, List.set_cons_succ]
                  refine wpAnyH_take (i := 4) (oi := ⟨some 48, _, _, _, _, _⟩) (v := ?_) rfl (by kernel_rfl) (by kernel_rfl) (by kernel_rfl) (fun _ _ _ h => h) (Or.inl ⟨by rfl, ?_⟩) hS ?_
                  rotate_left
                  · intro W hW; go_simp; with_reducible rfl
                  try simp only [Act.put, List.setIfInBounds_toArray, List.set_cons_zero, List.set_cons_succ]
                  refine wpAnyH_take (i := 5) (oi := ⟨some 49, _, _, _, _, _⟩) (v := ?_) rfl (by kernel_rfl) (by kernel_rfl) (by kernel_rfl) (fun _ _ _ h => h) (Or.inl ⟨by rfl, ?_⟩) hS ?_
                  rotate_left
                  · intro W hW
                    have q0 := K3.out W hW
                    go_simp
                    with_reducible rfl
                  try simp only [Act.put, List.setIfInBounds_toArray, List.set_cons_zero, List.set_cons_succ]
                  refine wpAnyH_take (i := 6) (oi := ⟨some 50, _, _, _, _, _⟩) (v := ?_) rfl (by kernel_rfl) (by kernel_rfl) (by kernel_rfl) (fun _ _ _ h => h) (Or.inl ⟨by rfl, ?_⟩) hS ?_
                  rotate_left
                  · intro W hW; go_simp; with_reducible rfl
                  try simp only [Act.put, List.setIfInBounds_toArray, List.set_cons_zero, List.set_cons_succ]
                  refine wpAnyH_take (i := 7) (oi := ⟨some 51, _, _, _, _, _⟩) (v := ?_) rfl (by kernel_rfl) (by kernel_rfl) (by kernel_rfl) (fun _ _ _ h => h) (Or.inl ⟨by rfl, ?_⟩) hS ?_
                  rotate_left
                  · intro W hW
                    have q0 := K2.out W hW
                    go_simp
                    with_reducible rfl
                  try simp only [Act.put, List.setIfInBounds_toArray, List.set_cons_zero, List.set_cons_succ]
                  refine wpAnyH_take (i := 8) (oi := ⟨some 52, _, _, _, _, _⟩) (v := ?_) rfl (by kernel_rfl) (by kernel_rfl) (by kernel_rfl) (fun _ _ _ h => h) (Or.inl ⟨by rfl, ?_⟩) hS ?_
                  rotate_left
                  · intro W hW; go_simp; with_reducible rfl
                  try simp only [Act.put, List.setIfInBounds_toArray, List.set_cons_zero, List.set_cons_succ]
                  refine wpAnyH_take (i := 9) (oi := ⟨some 53, _, _, _, _, _⟩) (v := ?_) rfl (by kernel_rfl) (by kernel_rfl) (by kernel_rfl) (fun _ _ _ h => h) (Or.inl ⟨by rfl, ?_⟩) hS ?_
                  rotate_left
                  · intro W hW; go_simp; with_reducible rfl
                  try simp only [Act.put, List.setIfInBounds_toArray, List.set_cons_zero, List.set_cons_succ]
                  refine wpAnyH_take (i := 10) (oi := ⟨some 54, _, _, _, _, _⟩) (v := ?_) rfl (by kernel_rfl) (by kernel_rfl) (by kernel_rfl) (fun _ _ _ h => h) (Or.inl ⟨by rfl, ?_⟩) hS ?_
                  rotate_left
                  · intro W hW; go_simp; with_reducible rfl
                  try simp only [Act.put, List.setIfInBounds_toArray, List.set_cons_zero, List.set_cons_succ]
                  refine wpAnyH_take (i := 11) (oi := ⟨some 55, _, _, _, _, _⟩) (v := ?_) rfl (by kernel_rfl) (by kernel_rfl) (by kernel_rfl) (fun _ _ _ h => h) (Or.inl ⟨by rfl, ?_⟩) hS ?_
                  rotate_left
                  · intro W hW
                    have q0 := K4.out W hW
                    go_simp
                    with_reducible rfl
                  try simp only [Act.put, List.setIfInBounds_toArray, List.set_cons_zero, List.set_cons_succ]
                  refine wpAnyH_take (i := 12) (oi := ⟨some 56, _, _, _, _, _⟩) (v := ?_) rfl (by kernel_rfl) (by kernel_rfl) (by kernel_rfl) (fun _ _ _ h => h) (Or.inl ⟨by rfl, ?_⟩) hS ?_
                  rotate_left
                  · intro W hW; go_simp; with_reducible rfl
                  try simp only [Act.put, List.setIfInBounds_toArray, List.set_cons_zero, List.set_cons_succ]
                  refine wpAnyH_take (i := 13) (oi := ⟨some 57, _, _, _, _, _⟩) (v := ?_) rfl (by kernel_rfl) (by kernel_rfl) (by kernel_rfl) (fun _ _ _ h => h) (Or.inl ⟨by rfl, ?_⟩) hS ?_
                  rotate_left
                  · intro W hW; go_simp; with_reducible rfl
                  try simp only [Act.put, List.setIfInBounds_toArray, List.set_cons_zero, List.set_cons_succ]
                  refine wpAnyH_take (i := 14) (oi := ⟨some 58, _, _, _, _, _⟩) (v := ?_) rfl (by kernel_rfl) (by kernel_rfl) (by kernel_rfl) (fun _ _ _ h => h) (Or.inl ⟨by rfl, ?_⟩) hS ?_
                  rotate_left
                  · intro W hW; go_simp; with_reducible rfl
                  try simp only [Act.put, List.setIfInBounds_toArray, List.set_cons_zero, List.set_cons_succ]
                  refine wpAnyH_take (i := 15) (oi := ⟨some 59, _, _, _, _, _⟩) (v := ?_) rfl (by kernel_rfl) (by kernel_rfl) (by kernel_rfl) (fun _ _ _ h => h) (Or.inl ⟨by rfl, ?_⟩) hS ?_
                  rotate_left
                  · intro W hW
                    have q0 := K1.out W hW
                    go_simp
                    with_reducible rfl
                  try simp only [Act.put, List.setIfInBounds_toArray, List.set_cons_zero, List.set_cons_succ]
                  refine wpAnyH_take (i := 16) (oi := ⟨some 60, _, _, _, _, _⟩) (v := ?_) rfl (by kernel_rfl) (by kernel_rfl) (by kernel_rfl) (fun _ _ _ h => h) (Or.inl ⟨by rfl, ?_⟩) hS ?_
                  rotate_left
                  · intro W hW; go_simp; with_reducible rfl
                  try simp only [Act.put, List.setIfInBounds_toArray, List.set_cons_zero, List.set_cons_succ]
                  refine wpAnyH_take (i := 17) (oi := ⟨some 61, _, _, _, _, _⟩) (v := ?_) rfl (by kernel_rfl) (by kernel_rfl) (by kernel_rfl) (fun _ _ _ h => h) (Or.inl ⟨by rfl, ?_⟩) hS ?_
                  rotate_left
                  · intro W hW; go_simp; with_reducible rfl
                  try simp only [Act.put, List.setIfInBounds_toArray, List.set_cons_zero, List.set_cons_succ]
                  refine wpAnyH_take (i := 18) (oi := ⟨some 62, _, _, _, _, _⟩) (v := ?_) rfl (by kernel_rfl) (by kernel_rfl) (by kernel_rfl) (fun _ _ _ h => h) (Or.inl ⟨by rfl, ?_⟩) hS ?_
                  rotate_left
                  · intro W hW; go_simp; with_reducible rfl
                  try simp only [Act.put, List.setIfInBounds_toArray, List.set_cons_zero, List.set_cons_succ]
                  refine wpAnyH_take (i := 19) (oi := ⟨some 63, _, _, _, _, _⟩) (v := ?_) rfl (by kernel_rfl) (by kernel_rfl) (by kernel_rfl) (fun _ _ _ h => h) (Or.inl ⟨by rfl, ?_⟩) hS ?_
                  rotate_left
                  · intro W hW
                    have q0 := K5.out W hW
                    go_simp
                    with_reducible rfl
                  try simp only [Act.put, List.setIfInBounds_toArray, List.set_cons_zero, List.set_cons_succ]
                  refine wpAnyH_take (i := 20) (oi := ⟨some 64, _, _, _, _, _⟩) (v := ?_) rfl (by kernel_rfl) (by kernel_rfl) (by kernel_rfl) (fun _ _ _ h => h) (Or.inl ⟨by rfl, ?_⟩) hS ?_
                  rotate_left
                  · intro W hW
                    have q0 := K7.out W hW
                    go_simp
                    with_reducible rfl
                  try simp only [Act.put, List.setIfInBounds_toArray, List.set_cons_zero, List.set_cons_succ]
                  refine wpAnyH_take (i := 21) (oi := ⟨some 65, _, _, _, _, _⟩) (v := ?_) rfl (by kernel_rfl) (by kernel_rfl) (by kernel_rfl) (fun _ _ _ h => h) (Or.inl ⟨by rfl, ?_⟩) hS ?_
                  rotate_left
                  · intro W hW; go_simp; with_reducible rfl
                  try simp only [Act.put, List.setIfInBounds_toArray, List.set_cons_zero, List.set_cons_succ]
                  refine wpAnyH_take (i := 22) (oi := ⟨some 66, _, _, _, _, _⟩) (v := ?_) rfl (by kernel_rfl) (by kernel_rfl) (by kernel_rfl) (fun _ _ _ h => h) (Or.inl ⟨by rfl, ?_⟩) hS ?_
                  rotate_left
                  · intro W hW
                    have q0 := K2.out W hW
                    go_simp
                    with_reducible rfl
                  try simp only [Act.put, List.setIfInBounds_toArray, List.set_cons_zero, List.set_cons_succ]
                  refine wpAnyH_take (i := 23) (oi := ⟨some 67, _, _, _, _, _⟩) (v := ?_) rfl (by kernel_rfl) (by kernel_rfl) (by kernel_rfl) (fun _ _ _ h => h) (Or.inl ⟨by rfl, ?_⟩) hS ?_
                  rotate_left
                  · intro W hW; go_simp; with_reducible rfl
                  try simp only [Act.put, List.setIfInBounds_toArray, List.set_cons_zero, List.set_cons_succ]
                  refine wpAnyH_take (i := 24) (oi := ⟨some 68, _, _, _, _, _⟩) (v := ?_) rfl (by kernel_rfl) (by kernel_rfl) (by kernel_rfl) (fun _ _ _ h => h) (Or.inl ⟨by rfl, ?_⟩) hS ?_
                  rotate_left
                  · intro W hW; go_simp; with_reducible rfl
                  try simp only [Act.put, List.setIfInBounds_toArray, List.set_cons_zero, List.set_cons_succ]
                  refine wpAnyH_take (i := 25) (oi := ⟨some 69, _, _, _, _, _⟩) (v := ?_) rfl (by kernel_rfl) (by kernel_rfl) (by kernel_rfl) (fun _ _ _ h => h) (Or.inl ⟨by rfl, ?_⟩) hS ?_
                  rotate_left
                  · intro W hW; go_simp; with_reducible rfl
                  try simp only [Act.put, List.setIfInBounds_toArray, List.set_cons_zero, List.set_cons_succ]
                  refine wpAnyH_take (i := 26) (oi := ⟨some 70, _, _, _, _, _⟩) (v := ?_) rfl (by kernel_rfl) (by kernel_rfl) (by kernel_rfl) (fun _ _ _ h => h) (Or.inl ⟨by rfl, ?_⟩) hS ?_
                  rotate_left
                  · intro W hW
                    have q0 := K6.out W hW
                    go_simp
                    with_reducible rfl
                  try simp only [Act.put, List.setIfInBounds_toArray, List.set_cons_zero, List.set_cons_succ]
                  refine wpAnyH_take (i := 27) (oi := ⟨some 71, _, _, _, _, _⟩) (v := ?_) rfl (by kernel_rfl) (by kernel_rfl) (by kernel_rfl) (fun _ _ _ h => h) (Or.inl ⟨by rfl, ?_⟩) hS ?_
                  rotate_left
                  · intro W hW
                    have q0 := K8.out W hW
                    go_simp
                    with_reducible rfl
                  try simp only [Act.put, List.setIfInBounds_toArray, List.set_cons_zero, List.set_cons_succ]
                  refine wpAnyH_take (i := 28) (oi := ⟨some 72, _, _, _, _, _⟩) (v := ?_) rfl (by kernel_rfl) (by kernel_rfl) (by kernel_rfl) (fun _ _ _ h => h) (Or.inl ⟨by rfl, ?_⟩) hS ?_
                  rotate_left
                  · intro W hW; go_simp; with_reducible rfl
                  try simp only [Act.put, List.setIfInBounds_toArray, List.set_cons_zero, List.set_cons_succ]
                  refine wpAnyH_take (i := 29) (oi := ⟨some 73, _, _, _, _, _⟩) (v := ?_) rfl (by kernel_rfl) (by kernel_rfl) (by kernel_rfl) (fun _ _ _ h => h) (Or.inl ⟨by rfl, ?_⟩) hS ?_
                  rotate_left
                  · intro W hW; go_simp; with_reducible rfl
                  try simp only [Act.put, List.setIfInBounds_toArray, List.set_cons_zero, List.set_cons_succ]
                  refine wpAnyH_done (by kernel_rfl) ?_ _
                  have HB2 := Lib.hid (HB1.out.trans (Below.mono hS HB1.out.size))
                  clear hS q1 q1n q2 K1 K2 K3 K4 K5 K6 K7 K8
                  go_wp2_with fail
                  go_ret
                  exact ⟨rfl, HB2.out⟩
              · obtain ⟨q1, q1n⟩ := ne_no hk
                have HO2 : o = false := by
                  rw [← HO.out]
                  refine same_no (fun e => hk ?_)
                  obtain ⟨z1, z2, z3, z4⟩ := HKX.out
                  have e2 := HXI.out
                  rw [e, HYI.out] at e2
                  injection e2 with e2
                  rw [z1, z2, e2]
                subst HO2
                clear hk
                go_upto_region 6 with fail
                clear a2 b2
                refine wp_region_since (by kernel_rfl) ?_
                have hS : Since wr (World.drew wr) := (Below.refl _ _).drew
                refine wpAnyH_take (i := 0) (oi := ⟨some 44, _, _, _, _, _⟩) (v := ?_) rfl (by kernel_rfl) (by kernel_rfl) (by kernel_rfl) (fun _ _ _ h => h) (Or.inl ⟨by rfl, ?_⟩) hS ?_
                rotate_left
                · intro W hW; go_simp; with_reducible rfl
                try simp only [Act.put, List.setIfInBounds_toArray, List.set_cons_zero, List.set_cons_succ]
                refine wpAnyH_take (i := 1) (oi := ⟨some 45, _, _, _, _, _⟩) (v := ?_) rfl (by kernel_rfl) (by kernel_rfl) (by kernel_rfl) (fun _ _ _ h => h) (Or.inl ⟨by rfl, ?_⟩) hS ?_
                rotate_left
                · intro W hW
                  have q0 := K1.out W hW
                  go_simp
                  with_reducible rfl
                try simp only [Act.put, List.setIfInBounds_toArray, List.set_cons_zero, List.set_cons_succ]
                refine wpAnyH_take (i := 2) (oi := ⟨some 46, _, _, _, _, _⟩) (v := ?_) rfl (by kernel_rfl) (by kernel_rfl) (by kernel_rfl) (fun _ _ _ h => h) (Or.inl ⟨by rfl, ?_⟩) hS ?_
                rotate_left
                · intro W hW; go_simp; with_reducible rfl
                try simp only [Act.put, List.setIfInBounds_toArray, List.set_cons_zero, List.set_cons_succ]
                refine wpAnyH_take (i := 3) (oi := ⟨some 47, _, _, _, _, _⟩) (v := ?_) rfl (by kernel_rfl) (by kernel_rfl) (by kernel_rfl) (fun _ _ _ h => h) (Or.inl ⟨by rfl, ?_⟩) hS ?_
                rotate_left
                · intro W hW; go_simp; with_reducible rfl
                try simp only [Act.put, List.setIfInBounds_toArray, List.set_cons_zero, List.set_cons_succ]
                refine wpAnyH_take (i := 4) (oi := ⟨some 48, _, _, _, _, _⟩) (v := ?_) rfl (by kernel_rfl) (by kernel_rfl) (by kernel_rfl) (fun _ _ _ h => h) (Or.inl ⟨by rfl, ?_⟩) hS ?_
                rotate_left
                · intro W hW; go_simp; with_reducible rfl
                try simp only [Act.put, List.setIfInBounds_toArray, List.set_cons_zero, List.set_cons_succ]
                refine wpAnyH_take (i := 5) (oi := ⟨some 49, _, _, _, _, _⟩) (v := ?_) rfl (by kernel_rfl) (by kernel_rfl) (by kernel_rfl) (fun _ _ _ h => h) (Or.inl ⟨by rfl, ?_⟩) hS ?_
                rotate_left
                · intro W hW
                  have q0 := K3.out W hW
                  go_simp
                  with_reducible rfl
                try simp only [Act.put, List.setIfInBounds_toArray, List.set_cons_zero, List.set_cons_succ]
                refine wpAnyH_take (i := 6) (oi := ⟨some 50, _, _, _, _, _⟩) (v := ?_) rfl (by kernel_rfl) (by kernel_rfl) (by kernel_rfl) (fun _ _ _ h => h) (Or.inl ⟨by rfl, ?_⟩) hS ?_
                rotate_left
                · intro W hW; go_simp; with_reducible rfl
                try simp only [Act.put, List.setIfInBounds_toArray, List.set_cons_zero, List.set_cons_succ]
                refine wpAnyH_take (i := 7) (oi := ⟨some 51, _, _, _, _, _⟩) (v := ?_) rfl (by kernel_rfl) (by kernel_rfl) (by kernel_rfl) (fun _ _ _ h => h) (Or.inl ⟨by rfl, ?_⟩) hS ?_
                rotate_left
                · intro W hW
                  have q0 := K2.out W hW
                  go_simp
                  with_reducible rfl
                try simp only [Act.put, List.setIfInBounds_toArray, List.set_cons_zero, List.set_cons_succ]
                refine wpAnyH_take (i := 8) (oi := ⟨some 52, _, _, _, _, _⟩) (v := ?_) rfl (by kernel_rfl) (by kernel_rfl) (by kernel_rfl) (fun _ _ _ h => h) (Or.inl ⟨by rfl, ?_⟩) hS ?_
                rotate_left
                · intro W hW; go_simp; with_reducible rfl
                try simp only [Act.put, List.setIfInBounds_toArray, List.set_cons_zero, List.set_cons_succ]
                refine wpAnyH_take (i := 9) (oi := ⟨some 53, _, _, _, _, _⟩) (v := ?_) rfl (by kernel_rfl) (by kernel_rfl) (by kernel_rfl) (fun _ _ _ h => h) (Or.inl ⟨by rfl, ?_⟩) hS ?_
                rotate_left
                · intro W hW; go_simp; with_reducible rfl
                try simp only [Act.put, List.setIfInBounds_toArray, List.set_cons_zero, List.set_cons_succ]
                refine wpAnyH_take (i := 10) (oi := ⟨some 54, _, _, _, _, _⟩) (v := ?_) rfl (by kernel_rfl) (by kernel_rfl) (by kernel_rfl) (fun _ _ _ h => h) (Or.inl ⟨by rfl, ?_⟩) hS ?_
                rotate_left
                · intro W hW; go_simp; with_reducible rfl
                try simp only [Act.put, List.setIfInBounds_toArray, List.set_cons_zero, List.set_cons_succ]
                refine wpAnyH_take (i := 11) (oi := ⟨some 55, _, _, _, _, _⟩) (v := ?_) rfl (by kernel_rfl) (by kernel_rfl) (by kernel_rfl) (fun _ _ _ h => h) (Or.inl ⟨by rfl, ?_⟩) hS ?_
                rotate_left
                · intro W hW
                  have q0 := K4.out W hW
                  go_simp
                  with_reducible rfl
                try simp only [Act.put, List.setIfInBounds_toArray, List.set_cons_zero, List.set_cons_succ]
                refine wpAnyH_take (i := 12) (oi := ⟨some 56, _, _, _, _, _⟩) (v := ?_) rfl (by kernel_rfl) (by kernel_rfl) (by kernel_rfl) (fun _ _ _ h => h) (Or.inl ⟨by rfl, ?_⟩) hS ?_
                rotate_left
                · intro W hW; go_simp; with_reducible rfl
                try simp only [Act.put, List.setIfInBounds_toArray, List.set_cons_zero, List.set_cons_succ]
                refine wpAnyH_take (i := 13) (oi := ⟨some 57, _, _, _, _, _⟩) (v := ?_) rfl (by kernel_rfl) (by kernel_rfl) (by kernel_rfl) (fun _ _ _ h => h) (Or.inl ⟨by rfl, ?_⟩) hS ?_
                rotate_left
                · intro W hW; go_simp; with_reducible rfl
                try simp only [Act.put, List.setIfInBounds_toArray, List.set_cons_zero, List.set_cons_succ]
                refine wpAnyH_take (i := 14) (oi := ⟨some 58, _, _, _, _, _⟩) (v := undef) rfl (by kernel_rfl) (by kernel_rfl) (by kernel_rfl) (fun _ _ _ h => h) (Or.inr ⟨by rfl, rfl⟩) hS ?_
                try simp only [Act.put, List.setIfInBounds_toArray, List.set_cons_zero, List.set_cons_succ]
                refine wpAnyH_take (i := 15) (oi := ⟨some 59, _, _, _, _, _⟩) (v := undef) rfl (by kernel_rfl) (by kernel_rfl) (by kernel_rfl) (fun _ _ _ h => h) (Or.inr ⟨by rfl, rfl⟩) hS ?_
                try simp only [Act.put, List.setIfInBounds_toArray, List.set_cons_zero, List.set_cons_succ]
                refine wpAnyH_take (i := 16) (oi := ⟨some 60, _, _, _, _, _⟩) (v := undef) rfl (by kernel_rfl) (by kernel_rfl) (by kernel_rfl) (fun _ _ _ h => h) (Or.inr ⟨by rfl, rfl⟩) hS ?_
                try simp only [Act.put, List.setIfInBounds_toArray, List.set_cons_zero, List.set_cons_succ]
                refine wpAnyH_take (i := 17) (oi := ⟨some 61, _, _, _, _, _⟩) (v := undef) rfl (by kernel_rfl) (by kernel_rfl) (by kernel_rfl) (fun _ _ _ h => h) (Or.inr ⟨by rfl, rfl⟩) hS ?_
                try simp only [Act.put, List.setIfInBounds_toArray, List.set_cons_zero, List.set_cons_succ]
                refine wpAnyH_take (i := 18) (oi := ⟨some 62, _, _, _, _, _⟩) (v := undef) rfl (by kernel_rfl) (by kernel_rfl) (by kernel_rfl) (fun _ _ _ h => h) (Or.inr ⟨by rfl, rfl⟩) hS ?_
                try simp only [Act.put, List.setIfInBounds_toArray, List.set_cons_zero, List.set_cons_succ]
                refine wpAnyH_take (i := 19) (oi := ⟨some 63, _, _, _, _, _⟩) (v := undef) rfl (by kernel_rfl) (by kernel_rfl) (by kernel_rfl) (fun _ _ _ h => h) (Or.inr ⟨by rfl, rfl⟩) hS ?_
                try simp only [Act.put, List.setIfInBounds_toArray, List.set_cons_zero, List.set_cons_succ]
                refine wpAnyH_take (i := 20) (oi := ⟨some 64, _, _, _, _, _⟩) (v := undef) rfl (by kernel_rfl) (by kernel_rfl) (by kernel_rfl) (fun _ _ _ h => h) (Or.inr ⟨by rfl, rfl⟩) hS ?_
                try simp only [Act.put, List.setIfInBounds_toArray, List.set_cons_zero, List.set_cons_succ]
                refine wpAnyH_take (i := 21) (oi := ⟨some 65, _, _, _, _, _⟩) (v := undef) rfl (by kernel_rfl) (by kernel_rfl) (by kernel_rfl) (fun _ _ _ h => h) (Or.inr ⟨by rfl, rfl⟩) hS ?_
                try simp only [Act.put, List.setIfInBounds_toArray, List.set_cons_zero, List.set_cons_succ]
                refine wpAnyH_take (i := 22) (oi := ⟨some 66, _, _, _, _, _⟩) (v := undef) rfl (by kernel_rfl) (by kernel_rfl) (by kernel_rfl) (fun _ _ _ h => h) (Or.inr ⟨by rfl, rfl⟩) hS ?_
                try simp only [Act.put, List.setIfInBounds_toArray, List.set_cons_zero, List.set_cons_succ]
                refine wpAnyH_take (i := 23) (oi := ⟨some 67, _, _, _, _, _⟩) (v := undef) rfl (by kernel_rfl) (by kernel_rfl) (by kernel_rfl) (fun _ _ _ h => h) (Or.inr ⟨by rfl, rfl⟩) hS ?_
                try simp only [Act.put, List.setIfInBounds_toArray, List.set_cons_zero, List.set_cons_succ]
                refine wpAnyH_take (i := 24) (oi := ⟨some 68, _, _, _, _, _⟩) (v := undef) rfl (by kernel_rfl) (by kernel_rfl) (by kernel_rfl) (fun _ _ _ h => h) (Or.inr ⟨by rfl, rfl⟩) hS ?_
                try simp only [Act.put, List.setIfInBounds_toArray, List.set_cons_zero, List.set_cons_succ]
                refine wpAnyH_take (i := 25) (oi := ⟨some 69, _, _, _, _, _⟩) (v := undef) rfl (by kernel_rfl) (by kernel_rfl) (by kernel_rfl) (fun _ _ _ h => h) (Or.inr ⟨by rfl, rfl⟩) hS ?_
                try simp only [Act.put, List.setIfInBounds_toArray, List.set_cons_zero, List.set_cons_succ]
                refine wpAnyH_take (i := 26) (oi := ⟨some 70, _, _, _, _, _⟩) (v := undef) rfl (by kernel_rfl) (by kernel_rfl) (by kernel_rfl) (fun _ _ _ h => h) (Or.inr ⟨by rfl, rfl⟩) hS ?_
                try simp only [Act.put, List.setIfInBounds_toArray, List.set_cons_zero, List.set_cons_succ]
                refine wpAnyH_take (i := 27) (oi := ⟨some 71, _, _, _, _, _⟩) (v := undef) rfl (by kernel_rfl) (by kernel_rfl) (by kernel_rfl) (fun _ _ _ h => h) (Or.inr ⟨by rfl, rfl⟩) hS ?_
                try simp only [Act.put, List.setIfInBounds_toArray, List.set_cons_zero, List.set_cons_succ]
                refine wpAnyH_take (i := 28) (oi := ⟨some 72, _, _, _, _, _⟩) (v := undef) rfl (by kernel_rfl) (by kernel_rfl) (by kernel_rfl) (fun _ _ _ h => h) (Or.inr ⟨by rfl, rfl⟩) hS ?_
                try simp only [Act.put, List.setIfInBounds_toArray, List.set_cons_zero, List.set_cons_succ]
                refine wpAnyH_take (i := 29) (oi := ⟨some 73, _, _, _, _, _⟩) (v := ?_) rfl (by kernel_rfl) (by kernel_rfl) (by kernel_rfl) (fun _ _ _ h => h) (Or.inl ⟨by rfl, ?_⟩) hS ?_
                rotate_left
                · intro W hW; go_simp; with_reducible rfl
                try simp only [Act.put, List.setIfInBounds_toArray, List.set_cons_zero, List.set_cons_succ]
                refine wpAnyH_done (by kernel_rfl) ?_ _
                have HB2 := Lib.hid (HB1.out.trans (Below.mono hS HB1.out.size))
                clear hS q1 q1n K1 K2 K3 K4 K5 K6 K7 K8
                go_wp2_with fail
                go_ret
                exact ⟨rfl, HB2.out⟩
            · obtain rfl : j = k1 := by omega
              have HIM : Hid (x.im = y.im) := Lib.hid (by
                apply List.ext_getElem?
                intro i
                rcases Nat.lt_or_ge i j with h | h
                · exact HEQ.out i h
                · obtain ⟨z1, _, z3, _⟩ := HNN.out
                  rw [List.getElem?_eq_none (by rw [z1]; exact h), List.getElem?_eq_none (by rw [z3]; exact h)])
              have a3 := HX1.out.c3
              have b3 := HY1.out.c3
              simp only at a3 b3
              clear hge HEQ
              go_wp2_with fail
              clear a2 b2 a3 b3
              obtain ⟨wa, hwa⟩ : ∃ wa, wa = wr := ⟨_, rfl⟩
              subst hwa
              go_loopg [6] l1 (fun gn i wv => ∃ (k : Nat), i = .int .i64 (k : Int) ∧ k + gn = l1 ∧ Hid (Below wa.heap.size wa wv) ∧ Hid (∀ i, i < k → x.op[i]? = y.op[i]?))
              case atStart => exact ⟨0, rfl, by omega, Lib.hid (Below.refl _ _), Lib.hid (fun i hi => by omega)⟩
              case round =>
                obtain ⟨k, rfl, hok, HBV, HEQ⟩ := hrel
                have HB2 := Lib.hid (HB1.out.trans (HBV.out.mono HB1.out.size))
                have HX2 := Lib.hid (HX1.out.below HBV.out)
                have HY2 := Lib.hid (HY1.out.below HBV.out)
                have a3 := HX2.out.c3
                have b3 := HY2.out.c3
                simp only at a3 b3
                rcases Nat.lt_or_ge k l1 with hlt | hge
                · have hdj : decide (k < l1) = true := decide_eq_true hlt
                  have hdi : decide ((k : Int) < (l1 : Int)) = true := decide_eq_true (by omega)
                  have hji : (k : Int) < (l1 : Int) := by omega
                  obtain ⟨xi, bx, ox, hxi, hX⟩ := ((HNX.out.op.below HBW.out).below HBV.out).get hlt
                  obtain ⟨yi, bY, oY, hyi, hY⟩ := ((HNY.out.op.below HBW.out).below HBV.out).get hlt
                  have eA1 := hX.a
                  have eA2 := hY.a
                  simp only at eA1 eA2
                  subst eA1 eA2
                  have HXI := Lib.hid hxi
                  have HYI := Lib.hid hyi
                  have K1 : Hid (∀ V, Since wr V → V.cell? ⟨w.heap.size, 3, none⟩ = some (.slice (some ⟨bx, ox, none⟩) l1 d1)) := Lib.hid (fun V hV => (HX2.out.below hV).c3)
                  have K2 : Hid (∀ V, Since wr V → V.cell? ⟨w.heap.size + 1, 3, none⟩ = some (.slice (some ⟨bY, oY, none⟩) l1 d2)) := Lib.hid (fun V hV => (HY2.out.below hV).c3)
                  have K3 : Hid (∀ V, Since wr V → (loadVar 53 ⟨bx, ox + k * 2, none⟩).run Try.prog V = .ok (odV xi) V) := Lib.hid (fun V hV => run_load_od ((hV.cell (p := ⟨bx, ox + k * 2, none⟩) hX.lt).trans hX.c0) ((hV.cell (p := ⟨bx, ox + k * 2 + 1, none⟩) hX.lt).trans hX.c1))
                  have K4 : Hid (∀ V, Since wr V → (loadVar 53 ⟨bY, oY + k * 2, none⟩).run Try.prog V = .ok (odV yi) V) := Lib.hid (fun V hV => run_load_od ((hV.cell (p := ⟨bY, oY + k * 2, none⟩) hY.lt).trans hY.c0) ((hV.cell (p := ⟨bY, oY + k * 2 + 1, none⟩) hY.lt).trans hY.c1))
                  clear hX hY hxi hyi
                  by_cases he : xi = yi
                  · have HQB : Hid ((!(xi.c == yi.c && xi.b == yi.b)) = false) := Lib.hid (by rw [he]; simp)
                    have HEJ : Hid (x.op[k]? = y.op[k]?) := Lib.hid (by rw [HXI.out, HYI.out, he])
                    clear he
                    go_upto_region 11 with fail
                    clear a3 b3
                    refine wp_region_since (by kernel_rfl) ?_
                    have hS : Since wr (World.drew wr) := (Below.refl _ _).drew
                    refine wpAnyH_take (i := 0) (oi := ⟨some 81, _, _, _, _, _⟩) (v := ?_) rfl (by kernel_rfl) (by kernel_rfl) (by kernel_rfl) (fun _ _ _ h => h) (Or.inl ⟨by rfl, ?_⟩) hS ?_
                    rotate_left
                    · intro W hW; go_simp; with_reducible rfl
                    try simp only [Act.put, List.setIfInBounds_toArray, List.set_cons_zero, List.set_cons_succ]
                    refine wpAnyH_take (i := 1) (oi := ⟨some 82, _, _, _, _, _⟩) (v := ?_) rfl (by kernel_rfl) (by kernel_rfl) (by kernel_rfl) (fun _ _ _ h => h) (Or.inl ⟨by rfl, ?_⟩) hS ?_
                    rotate_left
                    · intro W hW
                      have q0 := K1.out W hW
                      go_simp
                      with_reducible rfl
                    try simp only [Act.put, List.setIfInBounds_toArray, List.set_cons_zero, List.set_cons_succ]
                    refine wpAnyH_take (i := 2) (oi := ⟨some 83, _, _, _, _, _⟩) (v := ?_) rfl (by kernel_rfl) (by kernel_rfl) (by kernel_rfl) (fun _ _ _ h => h) (Or.inl ⟨by rfl, ?_⟩) hS ?_
                    rotate_left
                    · intro W hW; go_simp; with_reducible rfl
                    try simp only [Act.put, List.setIfInBounds_toArray, List.set_cons_zero, List.set_cons_succ]
                    refine wpAnyH_take (i := 3) (oi := ⟨some 84, _, _, _, _, _⟩) (v := ?_) rfl (by kernel_rfl) (by kernel_rfl) (by kernel_rfl) (fun _ _ _ h => h) (Or.inl ⟨by rfl, ?_⟩) hS ?_
                    rotate_left
                    · intro W hW; go_simp; with_reducible rfl
                    try simp only [Act.put, List.setIfInBounds_toArray, List.set_cons_zero, List.set_cons_succ]
                    refine wpAnyH_take (i := 4) (oi := ⟨some 85, _, _, _, _, _⟩) (v := (odV xi)) rfl (by kernel_rfl) (by kernel_rfl) (by kernel_rfl) (fun _ _ _ h => h) (Or.inl ⟨by rfl, fun W hW => exec_load rfl rfl (K3.out W hW)⟩) hS ?_
                    try simp only [Act.put, List.setIfInBounds_toArray, List.set_cons_zero, List.set_cons_succ]
                    refine wpAnyH_take (i := 5) (oi := ⟨some 86, _, _, _, _, _⟩) (v := ?_) rfl (by kernel_rfl) (by kernel_rfl) (by kernel_rfl) (fun _ _ _ h => h) (Or.inl ⟨by rfl, ?_⟩) hS ?_
                    rotate_left
                    · intro W hW; go_simp; with_reducible rfl
                    try simp only [Act.put, List.setIfInBounds_toArray, List.set_cons_zero, List.set_cons_succ]
                    refine wpAnyH_take (i := 6) (oi := ⟨some 87, _, _, _, _, _⟩) (v := ?_) rfl (by kernel_rfl) (by kernel_rfl) (by kernel_rfl) (fun _ _ _ h => h) (Or.inl ⟨by rfl, ?_⟩) hS ?_
                    rotate_left
                    · intro W hW
                      have q0 := K2.out W hW
                      go_simp
                      with_reducible rfl
                    try simp only [Act.put, List.setIfInBounds_toArray, List.set_cons_zero, List.set_cons_succ]
                    refine wpAnyH_take (i := 7) (oi := ⟨some 88, _, _, _, _, _⟩) (v := ?_) rfl (by kernel_rfl) (by kernel_rfl) (by kernel_rfl) (fun _ _ _ h => h) (Or.inl ⟨by rfl, ?_⟩) hS ?_
                    rotate_left
                    · intro W hW; go_simp; with_reducible rfl
                    try simp only [Act.put, List.setIfInBounds_toArray, List.set_cons_zero, List.set_cons_succ]
                    refine wpAnyH_take (i := 8) (oi := ⟨some 89, _, _, _, _, _⟩) (v := ?_) rfl (by kernel_rfl) (by kernel_rfl) (by kernel_rfl) (fun _ _ _ h => h) (Or.inl ⟨by rfl, ?_⟩) hS ?_
                    rotate_left
                    · intro W hW; go_simp; with_reducible rfl
                    try simp only [Act.put, List.setIfInBounds_toArray, List.set_cons_zero, List.set_cons_succ]
                    refine wpAnyH_take (i := 9) (oi := ⟨some 90, _, _, _, _, _⟩) (v := (odV yi)) rfl (by kernel_rfl) (by kernel_rfl) (by kernel_rfl) (fun _ _ _ h => h) (Or.inl ⟨by rfl, fun W hW => exec_load rfl rfl (K4.out W hW)⟩) hS ?_
                    try simp only [Act.put, List.setIfInBounds_toArray, List.set_cons_zero, List.set_cons_succ]
                    refine wpAnyH_take (i := 10) (oi := ⟨some 91, _, _, _, _, _⟩) (v := (.bool false)) rfl (by kernel_rfl) (by kernel_rfl) (by kernel_rfl) (fun _ _ _ h => h) (Or.inl ⟨by rfl, fun W hW => exec_neq_od rfl rfl rfl HQB.out⟩) hS ?_
                    try simp only [Act.put, List.setIfInBounds_toArray, List.set_cons_zero, List.set_cons_succ]
                    refine wpAnyH_done (by kernel_rfl) ?_ _
                    have HB3 := Lib.hid (HBV.out.trans (Below.mono hS HBV.out.size))
                    clear hS K1 K2 K3 K4
                    go_wp2_with fail
                    go_roundg (gk - 1)
                    case measure => omega
                    case rel => exact ⟨k + 1, by go_num, by omega, HB3, Lib.hid (fun i hi => by
                      rcases Nat.lt_or_ge i k with h | h
                      · exact HEQ.out i h
                      · obtain rfl : i = k := by omega
                        exact HEJ.out)⟩
                  · have HQB : Hid ((!(xi.c == yi.c && xi.b == yi.b)) = true) := Lib.hid (by
                      rw [Bool.not_eq_true', Bool.eq_false_iff]
                      intro h
                      rw [Bool.and_eq_true, beq_iff_eq, beq_iff_eq] at h
                      exact he (od_ext h.1 h.2))
                    have HO2 : o = false := by
                      rw [← HO.out]
                      refine same_no (fun e => he ?_)
                      have e2 := HXI.out
                      rw [e, HYI.out] at e2
                      injection e2 with e2
                      exact e2.symm
                    subst HO2
                    clear he
                    go_upto_region 11 with fail
                    clear a3 b3
                    refine wp_region_since (by kernel_rfl) ?_
                    have hS : Since wr (World.drew wr) := (Below.refl _ _).drew
                    refine wpAnyH_take (i := 0) (oi := ⟨some 81, _, _, _, _, _⟩) (v := ?_) rfl (by kernel_rfl) (by kernel_rfl) (by kernel_rfl) (fun _ _ _ h => h) (Or.inl ⟨by rfl, ?_⟩) hS ?_
                    rotate_left
                    · intro W hW; go_simp; with_reducible rfl
                    try simp only [Act.put, List.setIfInBounds_toArray, List.set_cons_zero, List.set_cons_succ]
                    refine wpAnyH_take (i := 1) (oi := ⟨some 82, _, _, _, _, _⟩) (v := ?_) rfl (by kernel_rfl) (by kernel_rfl) (by kernel_rfl) (fun _ _ _ h => h) (Or.inl ⟨by rfl, ?_⟩) hS ?_
                    rotate_left
                    · intro W hW
                      have q0 := K1.out W hW
                      go_simp
                      with_reducible rfl
                    try simp only [Act.put, List.setIfInBounds_toArray, List.set_cons_zero, List.set_cons_succ]
                    refine wpAnyH_take (i := 2) (oi := ⟨some 83, _, _, _, _, _⟩) (v := ?_) rfl (by kernel_rfl) (by kernel_rfl) (by kernel_rfl) (fun _ _ _ h => h) (Or.inl ⟨by rfl, ?_⟩) hS ?_
                    rotate_left
                    · intro W hW; go_simp; with_reducible rfl
                    try simp only [Act.put, List.setIfInBounds_toArray, List.set_cons_zero, List.set_cons_succ]
                    refine wpAnyH_take (i := 3) (oi := ⟨some 84, _, _, _, _, _⟩) (v := ?_) rfl (by kernel_rfl) (by kernel_rfl) (by kernel_rfl) (fun _ _ _ h => h) (Or.inl ⟨by rfl, ?_⟩) hS ?_
                    rotate_left
                    · intro W hW; go_simp; with_reducible rfl
                    try simp only [Act.put, List.setIfInBounds_toArray, List.set_cons_zero, List.set_cons_succ]
                    refine wpAnyH_take (i := 4) (oi := ⟨some 85, _, _, _, _, _⟩) (v := (odV xi)) rfl (by kernel_rfl) (by kernel_rfl) (by kernel_rfl) (fun _ _ _ h => h) (Or.inl ⟨by rfl, fun W hW => exec_load rfl rfl (K3.out W hW)⟩) hS ?_
                    try simp only [Act.put, List.setIfInBounds_toArray, List.set_cons_zero, List.set_cons_succ]
                    refine wpAnyH_take (i := 5) (oi := ⟨some 86, _, _, _, _, _⟩) (v := ?_) rfl (by kernel_rfl) (by kernel_rfl) (by kernel_rfl) (fun _ _ _ h => h) (Or.inl ⟨by rfl, ?_⟩) hS ?_
                    rotate_left
                    · intro W hW; go_simp; with_reducible rfl
                    try simp only [Act.put, List.setIfInBounds_toArray, List.set_cons_zero, List.set_cons_succ]
                    refine wpAnyH_take (i := 6) (oi := ⟨some 87, _, _, _, _, _⟩) (v := ?_) rfl (by kernel_rfl) (by kernel_rfl) (by kernel_rfl) (fun _ _ _ h => h) (Or.inl ⟨by rfl, ?_⟩) hS ?_
                    rotate_left
                    · intro W hW
                      have q0 := K2.out W hW
                      go_simp
                      with_reducible rfl
                    try simp only [Act.put, List.setIfInBounds_toArray, List.set_cons_zero, List.set_cons_succ]
                    refine wpAnyH_take (i := 7) (oi := ⟨some 88, _, _, _, _, _⟩) (v := ?_) rfl (by kernel_rfl) (by kernel_rfl) (by kernel_rfl) (fun _ _ _ h => h) (Or.inl ⟨by rfl, ?_⟩) hS ?_
                    rotate_left
                    · intro W hW; go_simp; with_reducible rfl
                    try simp only [Act.put, List.setIfInBounds_toArray, List.set_cons_zero, List.set_cons_succ]
                    refine wpAnyH_take (i := 8) (oi := ⟨some 89, _, _, _, _, _⟩) (v := ?_) rfl (by kernel_rfl) (by kernel_rfl) (by kernel_rfl) (fun _ _ _ h => h) (Or.inl ⟨by rfl, ?_⟩) hS ?_
                    rotate_left
                    · intro W hW; go_simp; with_reducible rfl
                    try simp only [Act.put, List.setIfInBounds_toArray, List.set_cons_zero, List.set_cons_succ]
                    refine wpAnyH_take (i := 9) (oi := ⟨some 90, _, _, _, _, _⟩) (v := (odV yi)) rfl (by kernel_rfl) (by kernel_rfl) (by kernel_rfl) (fun _ _ _ h => h) (Or.inl ⟨by rfl, fun W hW => exec_load rfl rfl (K4.out W hW)⟩) hS ?_
                    try simp only [Act.put, List.setIfInBounds_toArray, List.set_cons_zero, List.set_cons_succ]
                    refine wpAnyH_take (i := 10) (oi := ⟨some 91, _, _, _, _, _⟩) (v := (.bool true)) rfl (by kernel_rfl) (by kernel_rfl) (by kernel_rfl) (fun _ _ _ h => h) (Or.inl ⟨by rfl, fun W hW => exec_neq_od rfl rfl rfl HQB.out⟩) hS ?_
                    try simp only [Act.put, List.setIfInBounds_toArray, List.set_cons_zero, List.set_cons_succ]
                    refine wpAnyH_done (by kernel_rfl) ?_ _
                    have HB3 := Lib.hid (HB2.out.trans (Below.mono hS HB2.out.size))
                    clear hS K1 K2 K3 K4
                    go_wp2_with fail
                    go_ret
                    exact ⟨rfl, HB3.out⟩
                · obtain rfl : k = l1 := by omega
                  have HO2 : o = true := by
                    rw [← HO.out]
                    have e : x = y := nt_ext HH.out.1 HH.out.2 HIM.out (by
                      apply List.ext_getElem?
                      intro i
                      rcases Nat.lt_or_ge i k with h | h
                      · exact HEQ.out i h
                      · obtain ⟨_, z2, _, z4⟩ := HNN.out
                        rw [List.getElem?_eq_none (by rw [z2]; exact h), List.getElem?_eq_none (by rw [z4]; exact h)])
                    unfold sameB
                    simp [e]
                  subst HO2
                  clear hge
                  go_wp2_with fail
                  go_ret
                  exact ⟨rfl, HB2.out⟩
        · have HO2 : o = false := by rw [← HO.out]; exact same_no (fun e => h4 (by have := HNN.out; rw [e] at this; simp only at this; omega))
          subst HO2
          obtain ⟨e1, e1n⟩ := ne_yes h1
          obtain ⟨e2, e2n⟩ := ne_yes h2
          obtain ⟨e3, e3n⟩ := ne_yes (show (k1 : Int) = (k2 : Int) from by rw [h3])
          obtain ⟨e4, e4n⟩ := ne_no (show (l1 : Int) ≠ (l2 : Int) from by omega)
          clear h1 h2 h3 h4
          go_wp2_with fail
          go_ret
          exact ⟨rfl, HB.out⟩
      · have HO2 : o = false := by rw [← HO.out]; exact same_no (fun e => h3 (by have := HNN.out; rw [e] at this; simp only at this; omega))
        subst HO2
        obtain ⟨e1, e1n⟩ := ne_yes h1
        obtain ⟨e2, e2n⟩ := ne_yes h2
        obtain ⟨e3, e3n⟩ := ne_no (show (k1 : Int) ≠ (k2 : Int) from by omega)
        clear h1 h2 h3
        go_wp2_with fail
        go_ret
        exact ⟨rfl, HB.out⟩
    · have HO2 : o = false := by rw [← HO.out]; exact same_no (fun e => h2 (by rw [e]))
      subst HO2
      obtain ⟨e1, e1n⟩ := ne_yes h1
      obtain ⟨e2, e2n⟩ := ne_no h2
      clear h1 h2
      go_wp2_with fail
      go_ret
      exact ⟨rfl, HB.out⟩
  · have HO2 : o = false := by rw [← HO.out]; exact same_no (fun e => h1 (by rw [e]))
    subst HO2
    obtain ⟨e1, e1n⟩ := ne_no h1
    clear h1
    go_wp2_with fail
    go_ret
    exact ⟨rfl, HB.out⟩

end Go.Proofs.Ytjpnihmijnpjcaa
