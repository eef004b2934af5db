/-
  An element stored into a row of the call's own; a row's end cleared; pends of those in a list taken away; whether there is one of a kind.
-/
import Derived.Test.YtogngghfdcpeaaaKl
import Derived.Laws.CopyRow
namespace Go.Proofs.Ytogngghfdcpeaaa
set_option maxRecDepth 100000
set_option linter.unusedVariables false
set_option linter.unusedSimpArgs false
open Go.RowKit Go.Shelf

theorem setRow_grown (W : World) (g : Nat) (cs : Array Value) : W.grownBy (W.setRow g cs) (some g) := ⟨rfl, rfl, rfl, by rw [setRow_size]; exact Nat.le_refl _, fun j _ hj => setRow_other W g j _ (fun e => hj (by rw [e]))⟩
theorem drop_eq_get {α : Type} {A B : List α} {j : Nat} (h : A.drop j = B.drop j) : A[j]? = B[j]? := by
  have h1 := congrArg (fun l : List α => l[0]?) h
  simpa [List.getElem?_drop] using h1
/-- a part of a list's head put in another one's place -/
theorem take_put {α : Type} (X P vs : List α) (a m N : Nat) (hv : vs.length = m) (hP : X.take N = P) (hN : N ≤ X.length) (ha : a + m ≤ N) : (X.take a ++ vs ++ X.drop (a + m)).take N = P.take a ++ vs ++ P.drop (a + m) := by
  subst hP
  have hX := List.take_append_drop N X
  have h1 : X.drop (a + m) = (X.take N).drop (a + m) ++ X.drop N := by
    conv => lhs; rw [← hX]
    rw [List.drop_append_of_le_length (by rw [List.length_take]; omega)]
  have h2 : X.take a = (X.take N).take a := by rw [List.take_take, Nat.min_eq_left (by omega)]
  rw [h1, h2, ← List.append_assoc, List.take_left']
  simp only [List.length_append, List.length_take, List.length_drop]
  omega

section
variable {α : Type} {R : Rk α}
/-- a cell of a row of the call's own, by its block -/
theorem Rk.Own.cell0 (h0 : R.Ok) {W : World} {base g n cap : Nat} {l : List α} (h : R.Own W base (.slice (some ⟨g, 0, none⟩) n cap) l) {i : Nat} {x : α} (hx : l[i]? = some x) (k : Nat) (u : Value) (hu : (R.enc x)[k]? = some u) : W.cell? ⟨g, i * R.m + k, none⟩ = some u := by
  obtain ⟨A, c, e, _, hat, _⟩ := h.form h0
  injection e with e1 e2 e3
  subst e1
  obtain ⟨b, o, e, _, hc⟩ := hat.get h0 hx
  injection e with e
  injection e with e1 e2
  have := hc k u hu
  rwa [← e1, ← e2, Nat.zero_add] at this
theorem Rk.Ok.size (h : R.Ok) (W : World) : (Go.sizeOf R.e).run Try.prog W = .ok R.m W := by
  obtain ⟨i0, hi, hz, hs, hb⟩ := parts_of h.facts
  simp [Go.sizeOf, typeInfo, hi, hs]
theorem Rk.Ok.zero (h : R.Ok) (W : World) : (zeroValue R.e).run Try.prog W = .ok R.z W := by
  obtain ⟨i0, hi, hz, hs, hb⟩ := parts_of h.facts
  simp [zeroValue, typeInfo, hi, hz]
theorem Rk.Ok.cells_take (h : R.Ok) (C : List α) (i : Nat) : R.cells (C.take i) = (R.cells C).take (i * R.m) := by
  rcases Nat.lt_or_ge i C.length with hi | hi
  · have e := List.take_append_drop i C
    conv => rhs; rw [← e, Rk.cells_append]
    rw [List.take_left' (by rw [h.length, List.length_take, Nat.min_eq_left (by omega)])]
  · rw [List.take_of_length_le hi, List.take_of_length_le (by rw [h.length]; exact Nat.mul_le_mul_right _ hi)]
theorem Rk.Ok.cells_drop (h : R.Ok) (C : List α) (i : Nat) : R.cells (C.drop i) = (R.cells C).drop (i * R.m) := by
  rcases Nat.lt_or_ge i C.length with hi | hi
  · have e := List.take_append_drop i C
    conv => rhs; rw [← e, Rk.cells_append]
    rw [List.drop_left' (by rw [h.length, List.length_take, Nat.min_eq_left (by omega)])]
  · rw [List.drop_of_length_le hi, List.drop_of_length_le (by rw [h.length]; exact Nat.mul_le_mul_right _ hi)]; rfl
theorem Rk.Ok.cells_set2 (h : R.Ok) (C : List α) (i : Nat) (z : α) (hi : i < C.length) : R.cells (C.set i z) = (R.cells C).take (i * R.m) ++ R.enc z ++ (R.cells C).drop (i * R.m + R.m) := by
  rw [List.set_eq_take_append_cons_drop, if_pos hi, Rk.cells_append, h.cells_take]
  have e : R.cells (z :: C.drop (i + 1)) = R.enc z ++ R.cells (C.drop (i + 1)) := by unfold Rk.cells; rw [List.flatMap_cons]
  rw [e, h.cells_drop, ← List.append_assoc, Nat.succ_mul]

theorem Rk.own_put (h0 : R.Ok) {W : World} {base g n cap i : Nat} {C : List α} (z : α) (v : Value) (hv : v.cells = (R.enc z).toArray) (h : R.Own W base (.slice (some ⟨g, 0, none⟩) n cap) C) (hn : C.length = n) (hi : i < n) :
    ∃ W', (storeVar R.e ⟨g, i * R.m, none⟩ v).run Try.prog W = .ok () W' ∧ R.Own W' base (.slice (some ⟨g, 0, none⟩) n cap) (C.set i z) ∧ W.grownBy W' (some g) := by
  subst hn
  have hm := h0.pos
  have hzl := h0.len z
  have hle : i * R.m + R.m ≤ C.length * R.m := by rw [← Nat.succ_mul]; exact Nat.mul_le_mul_right _ hi
  rcases h.2 with ⟨e, _⟩ | ⟨g', cap', cur, e, hb, hh, hnc, hcm, hcs, ht⟩
  · cases e
  · injection e with e1 e2 e3
    injection e1 with e1
    injection e1 with e1
    subst e1
    subst e3
    have hcl : C.length * R.m ≤ cap * R.m := Nat.mul_le_mul_right _ hnc
    have hst := run_storeCells_at Try.prog g (i * R.m) R.e (R.enc z) 0 cur W hh (by rw [hzl]; omega) (h0.one z)
    refine ⟨_, ?_, ⟨?_, .inr ⟨g, cap, (cur.toList.take (i * R.m + 0) ++ R.enc z ++ cur.toList.drop (i * R.m + 0 + (R.enc z).length)).toArray, ?_, hb, setRow_heap _ _ _ _ _ _ hh, by rw [List.length_set]; exact hnc, hcm, ?_, ?_⟩⟩, setRow_grown _ _ _⟩
    · simp only [storeVar, hv, Sem.run_bind, h0.size, Result.andThen_ok]
      rw [if_neg (by simp [hzl])]
      exact hst
    · rw [h0.length, List.length_set]
    · rw [List.length_set]
    · rw [List.size_toArray]
      simp only [List.length_append, List.length_take, List.length_drop, Array.length_toList, hzl]
      omega
    · rw [List.length_set, h0.cells_set2 C i z hi, hzl]
      exact take_put cur.toList (R.cells C) (R.enc z) (i * R.m) R.m (C.length * R.m) hzl ht (by have h9 : cur.toList.length = cap * R.m := (by rw [Array.length_toList]; exact hcs); omega) hle

theorem Rk.wpList_store_elem (h0 : R.Ok) {ops : Array Oper} {rest : List Oper} {o : Oper} {a : Act} {W : World} {Q : Exit → Act → World → Prop} (hgd : o.guard = none) (x u : Operand) (ho : o.op = .store R.e x u) {base g n cap i : Nat} {C : List α} (z : α) (v : Value) (hv : v.cells = (R.enc z).toArray)
    (hx : a.eval x = .pointer (some ⟨g, i * R.m, none⟩)) (hy : a.eval u = v) (hown : R.Own W base (.slice (some ⟨g, 0, none⟩) n cap) C) (hn : C.length = n) (hi : i < n)
    (h : ∀ w', R.Own w' base (.slice (some ⟨g, 0, none⟩) n cap) (C.set i z) → W.grownBy w' (some g) → wpList Try.prog ops Q rest (a.put o.dst undef) w') : wpList Try.prog ops Q (o :: rest) a W := by
  refine wpList_plain hgd fun K hK => ?_
  obtain ⟨w', hrun, h1, h2⟩ := Rk.own_put h0 z v hv hown hn hi
  unfold Oper.wp execOp
  simp only [ho, hx, hy, Instr.storeAt, Instr.sureAddr, Sem.run_bind, Sem.run_pure, Result.andThen_ok, hrun]
  exact hK _ _ (h w' h1 h2)

theorem Rk.own_clear (h0 : R.Ok) (hz1 : ∀ v ∈ R.z.cells.toList, v.oneCell' = true) {W : World} {base g n cap i : Nat} {C : List α} (h : R.Own W base (.slice (some ⟨g, 0, none⟩) n cap) C) (hn : C.length = n) (hi : i < n) (c2 : Nat) :
    ∃ W', (∀ ty, (Builtin.clear_ #[R.s] ty #[.slice (some ⟨g, i * R.m, none⟩) (n - i) c2]).run Try.prog W = .ok (.tuple #[]) W') ∧ R.Own W' base (.slice (some ⟨g, 0, none⟩) i cap) (C.take i) ∧ W.grownBy W' (some g) := by
  subst hn
  have hm := h0.pos
  rcases h.2 with ⟨e, _⟩ | ⟨g', cap', cur, e, hb, hh, hnc, hcm, hcs, ht⟩
  · cases e
  · injection e with e1 e2 e3
    injection e1 with e1
    injection e1 with e1
    subst e1
    subst e3
    obtain ⟨vs, hvs⟩ : ∃ vs, vs = (Builtin.zeroCells R.z.cells (C.length - i)).toList := ⟨_, rfl⟩
    have hvl : vs.length = (C.length - i) * R.m := by rw [hvs]; simp [Builtin.zeroCells, h0.zs]
    have hv1 : ∀ v ∈ vs, v.oneCell' = true := by
      rw [hvs]
      intro v hv
      simp only [Builtin.zeroCells, Array.toList_map, List.mem_map] at hv
      obtain ⟨j, _, rfl⟩ := hv
      have hj : j % R.z.cells.size < R.z.cells.size := Nat.mod_lt _ (by rw [h0.zs]; exact hm)
      rw [getElem!_pos R.z.cells _ hj]
      exact hz1 _ (Array.getElem_mem_toList hj)
    have hle : i * R.m + (C.length - i) * R.m = C.length * R.m := by rw [← Nat.add_mul]; congr 1; omega
    have hcl : C.length * R.m ≤ cap * R.m := Nat.mul_le_mul_right _ hnc
    have hst := run_storeCells_at Try.prog g (i * R.m) R.e vs 0 cur W hh (by rw [hvl]; omega) hv1
    have hlen : (C.take i).length = i := by rw [List.length_take]; omega
    refine ⟨W.setRow g (cur.toList.take (i * R.m + 0) ++ vs ++ cur.toList.drop (i * R.m + 0 + vs.length)).toArray, fun ty => ?_, ⟨?_, .inr ⟨g, cap, (cur.toList.take (i * R.m + 0) ++ vs ++ cur.toList.drop (i * R.m + 0 + vs.length)).toArray, ?_, hb, setRow_heap _ _ _ _ _ _ hh, by rw [hlen]; omega, hcm, ?_, ?_⟩⟩, setRow_grown _ _ _⟩
    · obtain ⟨m, hm2⟩ : ∃ m, C.length - i = m + 1 := ⟨C.length - i - 1, by omega⟩
      rw [hm2] at hvs ⊢
      simp only [Builtin.clear_, Sem.run_bind, run_underlying h0.und, Result.andThen_ok, h0.zero, List.getElem?_toArray, List.getElem?_cons_zero]
      rw [← hvs, hst]
      rfl
    · rw [h0.length]
    · rw [hlen]
    · rw [List.size_toArray]
      simp only [List.length_append, List.length_take, List.length_drop, Array.length_toList]
      omega
    · rw [hlen, h0.cells_take, ← ht, List.take_take, Nat.min_eq_left (by omega)]
      rw [List.append_assoc, List.take_left' (by rw [List.length_take, Array.length_toList]; omega)]
      rfl
end

set_option maxHeartbeats 1000000 in
theorem indexP_any (g5 : Nat) (p : Pd → Bool) (A : Option Addr) (L : List (Pd)) (n k base : Nat) (hN : L.length = n) (hn : n ≤ 10000000) (W : World) (hL : RPo.At W A L) (hbase : base ≤ W.heap.size)
    (hp : ∀ V, Turn (fun q => base ≤ q) W V → ∀ y ∈ L, Calls Try.prog 50 #[.agg #[.int .i64 y.c, .int .i64 y.x, .int .i64 y.u, .int .i64 y.d], .pointer (some ⟨g5, 0, none⟩)] V fun e w' => e = .returned (.bool (p y)) ∧ Below V.heap.size V w') :
    Calls Try.prog 59 #[.slice A n k, .func (.func 50) #[] #[.pointer (some ⟨g5, 0, none⟩)]] W fun e w' =>
      ((e = .returned (.int .i64 (-1)) ∧ ∀ y ∈ L, p y = false) ∨ ∃ (i : Nat) (y : Pd), e = .returned (.int .i64 (i : Int)) ∧ L[i]? = some y ∧ p y = true ∧ ∀ u ∈ L.take i, p u = false) ∧ Below W.heap.size W w' := by
  have HN := Lib.hid hN
  have HL := Lib.hid hL
  have HP := Lib.hid hp
  have HBA := Lib.hid hbase
  have eg : ∀ args w, (callFunc 50 args).run Try.prog w = .ok (.enter 50 args) w := enters_of Try.func50 (by kernel_rfl) rfl
  clear hN hL hp hbase
  go_enter Try.func59, Try.ntmps59
  go_wp2_with fail
  go_loopw [8] (fun iv wr => ∃ j : Nat, iv = .int .i64 (j : Int) ∧ j ≤ n ∧ Hid (∀ u ∈ L.take j, p u = false) ∧ Hid (Below W.heap.size W wr)) (fun iv _ => n - (intOf iv).toNat)
  case atStart => exact ⟨0, rfl, Nat.zero_le _, (fun u hu => by simp at hu), Below.refl _ _⟩
  case round =>
    obtain ⟨j, rfl, hj, HF, HB⟩ := hrel
    rcases Nat.lt_or_ge j n with hlt | hge
    · obtain ⟨y, hy⟩ : ∃ y, L[j]? = some y := ⟨L[j]'(by rw [HN.out]; exact hlt), List.getElem?_eq_getElem (by rw [HN.out]; exact hlt)⟩
      obtain ⟨b, o, rfl, hb, hc⟩ := (HL.out.below HB.out).get rp_oko hy
      have hc0 : wr.cell? ⟨b, o + j * 4, none⟩ = some (.int .i64 y.c) := by have := hc 0 _ rfl; rw [← Nat.add_assoc] at this; exact this
      have hc1 : wr.cell? ⟨b, o + j * 4 + 1, none⟩ = some (.int .i64 y.x) := by have := hc 1 _ rfl; rw [← Nat.add_assoc] at this; exact this
      have hc2 : wr.cell? ⟨b, o + j * 4 + 2, none⟩ = some (.int .i64 y.u) := by have := hc 2 _ rfl; rw [← Nat.add_assoc] at this; exact this
      have hc3 : wr.cell? ⟨b, o + j * 4 + 3, none⟩ = some (.int .i64 y.d) := by have := hc 3 _ rfl; rw [← Nat.add_assoc] at this; exact this
      have HY := Lib.hid hy
      have hcall := HP.out wr (Turn.ofBelow HB.out) y (List.mem_of_getElem? hy)
      obtain ⟨q, hq⟩ : ∃ q, p y = q := ⟨_, rfl⟩
      rw [hq] at hcall
      have HC := Lib.hid hcall
      have HQ := Lib.hid hq
      clear hc hy hcall hq hb
      cases q
      · go_wp2_with (go_at_fn 50; refine HC.out.mono ?_; rintro e w2 ⟨rfl, hb2⟩; have HB2 := Lib.hid (HB.out.trans (hb2.mono HB.out.size)); clear hb2)
        go_roundw
        case rel => exact ⟨j + 1, by simp, by omega, (fun u hu => by
          rw [List.take_add_one, HY.out] at hu
          rcases List.mem_append.1 hu with h | h
          · exact HF.out u h
          · have : u = y := by simpa using h
            rw [this]; exact HQ.out), HB2.out⟩
        case measure => simp [intOf]; omega
      · go_wp2_with (go_at_fn 50; refine HC.out.mono ?_; rintro e w2 ⟨rfl, hb2⟩; have HB2 := Lib.hid (HB.out.trans (hb2.mono HB.out.size)); clear hb2)
        go_ret
        exact ⟨.inr ⟨j, y, rfl, HY.out, HQ.out, HF.out⟩, HB2.out⟩
    · obtain rfl : j = n := by omega
      go_wp2
      go_ret
      refine ⟨.inl ⟨rfl, fun u hu => HF.out u ?_⟩, HB.out⟩
      rw [List.take_of_length_le (by rw [HN.out]; omega)]; exact hu

set_option maxHeartbeats 2000000 in
theorem deleteP_any (g5 : Nat) (p : Pd → Bool) (L : List (Pd)) (A : Option Addr) (n k base : Nat) (hN : L.length = n) (hn : n ≤ 10000000) (W : World) (hO : RPo.Own W base (.slice A n k) L) (hbase : base ≤ W.heap.size)
    (hp : ∀ V, Turn (fun q => base ≤ q) W V → ∀ y ∈ L, Calls Try.prog 50 #[.agg #[.int .i64 y.c, .int .i64 y.x, .int .i64 y.u, .int .i64 y.d], .pointer (some ⟨g5, 0, none⟩)] V fun e w' => e = .returned (.bool (p y)) ∧ Below V.heap.size V w') :
    Calls Try.prog 48 #[.slice A n k, .func (.func 50) #[] #[.pointer (some ⟨g5, 0, none⟩)]] W fun e w' =>
      ∃ A' n' k', e = .returned (.slice A' n' k') ∧ RPo.Own w' base (.slice A' n' k') (L.filter fun y => !p y) ∧ Below base W w' := by
  obtain ⟨A0, c0, he, hnk, hL, hs⟩ := hO.form rp_oko
  injection he with e1 e2 e3
  subst e1
  subst e3
  have HN := Lib.hid hN
  have HO := Lib.hid hO
  have HP := Lib.hid hp
  have HL := Lib.hid hL
  have HIX := Lib.hid (indexP_any g5 p A L n k base hN (by omega) W hL hbase hp)
  have HBA := Lib.hid hbase
  have hnk : n ≤ k := by omega
  have eg : ∀ args w, (callFunc 50 args).run Try.prog w = .ok (.enter 50 args) w := enters_of Try.func50 (by kernel_rfl) rfl
  have HIX0 := HIX.out
  clear HIX hp
  by_cases hall : ∀ y ∈ L, p y = false
  · have HIX := Lib.hid (HIX0.mono (R' := fun e w' => e = .returned (.int .i64 (-1)) ∧ Below W.heap.size W w') (fun e w' h => by
      rcases h with ⟨⟨he, _⟩ | ⟨i, y, _, hy, hg, _⟩, hb⟩
      · exact ⟨he, hb⟩
      · rw [hall y (List.mem_of_getElem? hy)] at hg; cases hg))
    have HF := Lib.hid (show (L.filter fun y => !p y) = L by
      rw [List.filter_eq_self]
      intro y hy
      rw [hall y hy]; rfl)
    clear HIX0 hN hO hL hbase e2 hall hs
    go_enter Try.func48, Try.ntmps48
    go_wp2_with (go_at_call 59; refine HIX.out.mono ?_; rintro e w1 ⟨rfl, hb1⟩)
    go_ret
    have h0 := HO.out.below hb1
    rw [HF.out]
    exact ⟨A, n, k, rfl, h0, hb1.mono HBA.out⟩
  · have HIX := Lib.hid (HIX0.mono (R' := fun e w' => (∃ (i : Nat) (y : Pd), e = .returned (.int .i64 (i : Int)) ∧ L[i]? = some y ∧ p y = true ∧ ∀ u ∈ L.take i, p u = false) ∧ Below W.heap.size W w') (fun e w' h => by
      rcases h with ⟨⟨_, h⟩ | h, hb⟩
      · exact absurd h hall
      · exact ⟨h, hb⟩))
    rcases hs with rfl | ⟨g, rfl, hbg, hgs⟩
    · exfalso
      refine hall fun y hy => ?_
      rcases hL with h | ⟨b, o, e, _⟩
      · rw [h] at hy; cases hy
      · cases e
    have HBG := Lib.hid hbg
    have HGS := Lib.hid hgs
    clear HIX0 hN hO hL hbase e2 hbg hgs hall
    go_enter Try.func48, Try.ntmps48
    go_upto_region 4 with (go_at_call 59; refine HIX.out.mono ?_; rintro e w1 ⟨⟨i0, y0, rfl, hy0, hg0, hf0⟩, hb1⟩; have hi0 : i0 < n := (by rw [← HN.out]; exact (List.getElem?_eq_some_iff.1 hy0).1); have hne : ((i0 : Int) == -1) = false := beq_eq_false_iff_ne.2 (by omega); have HY0 := Lib.hid hy0; have HG0 := Lib.hid hg0; have HF0 := Lib.hid hf0; have HB1 := Lib.hid hb1; clear hy0 hg0 hf0 hb1)
    go_wp2_with fail
    go_loopw [5, 6] (fun iv jv wr => ∃ (i j : Nat) (C : List (Pd)), iv = .int .i64 (i : Int) ∧ jv = .int .i64 (j : Int) ∧ i < j ∧ j ≤ n ∧ Hid (C.length = n) ∧ Hid (RPo.Own wr base (.slice (some ⟨g, 0, none⟩) n k) C) ∧ Hid (C.take i = (L.take j).filter fun y => !p y) ∧ Hid (C.drop j = L.drop j) ∧ Hid (Turn (fun q => q = g) W wr)) (fun _ jv _ => n - (intOf jv).toNat)
    case atStart =>
      refine ⟨i0, i0 + 1, L, rfl, by simp, by omega, by omega, HN.out, HO.out.below HB1.out, ?_, rfl, Turn.ofBelow HB1.out⟩
      show L.take i0 = (L.take (i0 + 1)).filter fun y => !p y
      rw [List.take_add_one, HY0.out, List.filter_append]
      have h1 : (L.take i0).filter (fun y => !p y) = L.take i0 := by
        rw [List.filter_eq_self]
        intro u hu
        rw [HF0.out u hu]; rfl
      rw [h1]
      simp [HG0.out]
    case round =>
      obtain ⟨i, j, C, rfl, rfl, hij, hj, HC, HOC, HTK, HDR, HT⟩ := hrel
      clear HB1 HY0 HG0 HF0 hne hi0
      rcases Nat.lt_or_ge j n with hlt | hge
      · obtain ⟨y, hy⟩ : ∃ y, L[j]? = some y := ⟨L[j]'(by rw [HN.out]; exact hlt), List.getElem?_eq_getElem (by rw [HN.out]; exact hlt)⟩
        have hyC : C[j]? = some y := by rw [drop_eq_get HDR.out]; exact hy
        have hc : ∀ q u, (RPo.enc y)[q]? = some u → wr.cell? ⟨g, j * 4 + q, none⟩ = some u := by
          obtain ⟨A1, c1, he1, _, hLC, _⟩ := HOC.out.form rp_oko
          injection he1 with he2 he3 he4
          subst he2
          obtain ⟨b, o, e, hb, hc⟩ := hLC.get rp_oko hyC
          have h0 := fun q u hq => (HOC.out.cell0 rp_oko hyC q u hq)
          exact h0
        have hc0 : wr.cell? ⟨g, j * 4, none⟩ = some (.int .i64 y.c) := by have := hc 0 _ rfl; skip; exact this
        have hc1 : wr.cell? ⟨g, j * 4 + 1, none⟩ = some (.int .i64 y.x) := by have := hc 1 _ rfl; skip; exact this
        have hc2 : wr.cell? ⟨g, j * 4 + 2, none⟩ = some (.int .i64 y.u) := by have := hc 2 _ rfl; skip; exact this
        have hc3 : wr.cell? ⟨g, j * 4 + 3, none⟩ = some (.int .i64 y.d) := by have := hc 3 _ rfl; skip; exact this
        have HDRS := Lib.hid (show C.drop (j + 1) = L.drop (j + 1) by
          have h1 := congrArg (List.drop 1) HDR.out
          rwa [List.drop_drop, List.drop_drop] at h1)
        have HTKS := Lib.hid (show ((L.take (j + 1)).filter fun y => !p y) = C.take i ++ (if p y then [] else [y]) by
          rw [HTK.out, List.take_add_one, hy, List.filter_append]
          congr 1
          cases hh : p y <;> simp [hh])
        obtain ⟨wz, hwz⟩ : ∃ wz, wz = wr.alloc (.cells #[.int .i64 y.c, .int .i64 y.x, .int .i64 y.u, .int .i64 y.d] 75) := ⟨_, rfl⟩
        have hbz : Below wr.heap.size wr wz := by rw [hwz]; exact below_new _ _
        obtain ⟨gy, hgy⟩ : ∃ gy, gy = wr.heap.size := ⟨_, rfl⟩
        have hy4 : Bk wz gy #[.int .i64 y.c, .int .i64 y.x, .int .i64 y.u, .int .i64 y.d] 75 := by rw [hwz, hgy]; exact Bk.new wr _ _
        have HYZ := Lib.hid hy4
        have HOZ := Lib.hid (HOC.out.below hbz)
        have HTZ := Lib.hid (HT.out.trans (Turn.ofBelow hbz))
        have hcall := HP.out wz (HTZ.out.mono (fun q e => by have := HBG.out; omega)) y (List.mem_of_getElem? hy)
        obtain ⟨q, hq⟩ : ∃ q, p y = q := ⟨_, rfl⟩
        rw [hq] at hcall HTKS
        have HCC := Lib.hid hcall
        have cz0 := hy4.c 0 _ rfl
        have cz1 := hy4.c 1 _ rfl
        have cz2 := hy4.c 2 _ rfl
        have cz3 := hy4.c 3 _ rfl
        clear hc hy hyC hcall hq hbz hy4
        go_upto_region 8 with fail
        rw [← hgy, ← hwz]
        clear hwz hgy hc0 hc1 hc2 hc3
        cases q
        · go_wp2_with (first
            | (go_at_fn 50; refine HCC.out.mono ?_; rintro e w2 ⟨rfl, hb2⟩; have HB2 := Lib.hid hb2; have HO2 := Lib.hid (HOZ.out.below hb2); have HY2 := HYZ.out.below hb2; have HT2 := Lib.hid (HTZ.out.trans (Turn.ofBelow hb2)); have d0 := HY2.c 0 _ rfl; have d1 := HY2.c 1 _ rfl; have d2 := HY2.c 2 _ rfl; have d3 := HY2.c 3 _ rfl; clear hb2 HY2)
            | (refine Rk.wpList_store_elem rp_oko rfl _ _ rfl (i := i) y _ rfl rfl rfl HO2.out HC.out (by omega) ?_; intro w3 hown3 hg3; have HO3 := Lib.hid hown3; have HG3 := Lib.hid hg3; clear hown3 hg3)
            | fail)
          go_roundw
          case rel => exact ⟨i + 1, j + 1, C.set i y, by simp, by simp, by omega, by omega, (show (C.set i y).length = n by rw [List.length_set]; exact HC.out), HO3.out, (show (C.set i y).take (i + 1) = (L.take (j + 1)).filter fun y => !p y by
              rw [HTKS.out, List.take_add_one, List.getElem?_set_self (by rw [HC.out]; omega), List.take_set_of_le (Nat.le_refl i)]; rfl), (show (C.set i y).drop (j + 1) = L.drop (j + 1) by rw [List.drop_set_of_lt (by omega)]; exact HDRS.out), HT2.out.grown HG3.out (fun q e => by injection e with e; exact .inl e.symm)⟩
          case measure => simp [intOf]; omega
        · go_wp2_with (first
            | (go_at_fn 50; refine HCC.out.mono ?_; rintro e w2 ⟨rfl, hb2⟩; have HB2 := Lib.hid hb2; have HO2 := Lib.hid (HOZ.out.below hb2); have HT2 := Lib.hid (HTZ.out.trans (Turn.ofBelow hb2)); clear hb2)
            | fail)
          go_roundw
          case rel => exact ⟨i, j + 1, C, by simp, by simp, by omega, by omega, HC.out, HO2.out, (show C.take i = (L.take (j + 1)).filter fun y => !p y by rw [HTKS.out]; simp), HDRS.out, HT2.out⟩
          case measure => simp [intOf]; omega
      · obtain rfl : j = n := by omega
        have hik : ¬ k = i := by omega
        obtain ⟨w3, hcl, hown3, hg3⟩ := Rk.own_clear rp_oko (by intro v hv; simp [RP, Value.cells] at hv; subst hv; rfl) HOC.out HC.out hij (k - i)
        have hcl : ∀ ty, (Builtin.clear_ #[32] ty #[.slice (some ⟨g, i * 4, none⟩) (j - i) (k - i)]).run Try.prog wr = .ok (.tuple #[]) w3 := hcl
        have HO3 := Lib.hid hown3
        have HG3 := Lib.hid hg3
        have hik2 : i ≤ k := by omega
        clear hown3 hg3
        go_wp2
        go_ret
        refine ⟨some ⟨g, 0, none⟩, i, k, rfl, ?_, ?_⟩
        · have h := HO3.out
          rw [HTK.out, List.take_of_length_le (by rw [HN.out]; omega)] at h
          exact h
        · exact (HT.out.grown HG3.out (fun q e => by injection e with e; exact .inl e.symm)).below (fun q e => by have h1 := HBG.out; omega) HBA.out

set_option maxHeartbeats 1000000 in
theorem indexQ_any (g5 g6 : Nat) (p : Pd → Bool) (A : Option Addr) (L : List (Pd)) (n k base : Nat) (hN : L.length = n) (hn : n ≤ 10000000) (W : World) (hL : RPo.At W A L) (hbase : base ≤ W.heap.size)
    (hp : ∀ V, Turn (fun q => base ≤ q) W V → ∀ y ∈ L, Calls Try.prog 39 #[.agg #[.int .i64 y.c, .int .i64 y.x, .int .i64 y.u, .int .i64 y.d], .pointer (some ⟨g5, 0, none⟩), .pointer (some ⟨g6, 0, none⟩)] V fun e w' => e = .returned (.bool (p y)) ∧ Below V.heap.size V w') :
    Calls Try.prog 59 #[.slice A n k, .func (.func 39) #[] #[.pointer (some ⟨g5, 0, none⟩), .pointer (some ⟨g6, 0, none⟩)]] W fun e w' =>
      ((e = .returned (.int .i64 (-1)) ∧ ∀ y ∈ L, p y = false) ∨ ∃ (i : Nat) (y : Pd), e = .returned (.int .i64 (i : Int)) ∧ L[i]? = some y ∧ p y = true ∧ ∀ u ∈ L.take i, p u = false) ∧ Below W.heap.size W w' := by
  have HN := Lib.hid hN
  have HL := Lib.hid hL
  have HP := Lib.hid hp
  have HBA := Lib.hid hbase
  have eg : ∀ args w, (callFunc 39 args).run Try.prog w = .ok (.enter 39 args) w := enters_of Try.func39 (by kernel_rfl) rfl
  clear hN hL hp hbase
  go_enter Try.func59, Try.ntmps59
  go_wp2_with fail
  go_loopw [8] (fun iv wr => ∃ j : Nat, iv = .int .i64 (j : Int) ∧ j ≤ n ∧ Hid (∀ u ∈ L.take j, p u = false) ∧ Hid (Below W.heap.size W wr)) (fun iv _ => n - (intOf iv).toNat)
  case atStart => exact ⟨0, rfl, Nat.zero_le _, (fun u hu => by simp at hu), Below.refl _ _⟩
  case round =>
    obtain ⟨j, rfl, hj, HF, HB⟩ := hrel
    rcases Nat.lt_or_ge j n with hlt | hge
    · obtain ⟨y, hy⟩ : ∃ y, L[j]? = some y := ⟨L[j]'(by rw [HN.out]; exact hlt), List.getElem?_eq_getElem (by rw [HN.out]; exact hlt)⟩
      obtain ⟨b, o, rfl, hb, hc⟩ := (HL.out.below HB.out).get rp_oko hy
      have hc0 : wr.cell? ⟨b, o + j * 4, none⟩ = some (.int .i64 y.c) := by have := hc 0 _ rfl; rw [← Nat.add_assoc] at this; exact this
      have hc1 : wr.cell? ⟨b, o + j * 4 + 1, none⟩ = some (.int .i64 y.x) := by have := hc 1 _ rfl; rw [← Nat.add_assoc] at this; exact this
      have hc2 : wr.cell? ⟨b, o + j * 4 + 2, none⟩ = some (.int .i64 y.u) := by have := hc 2 _ rfl; rw [← Nat.add_assoc] at this; exact this
      have hc3 : wr.cell? ⟨b, o + j * 4 + 3, none⟩ = some (.int .i64 y.d) := by have := hc 3 _ rfl; rw [← Nat.add_assoc] at this; exact this
      have HY := Lib.hid hy
      have hcall := HP.out wr (Turn.ofBelow HB.out) y (List.mem_of_getElem? hy)
      obtain ⟨q, hq⟩ : ∃ q, p y = q := ⟨_, rfl⟩
      rw [hq] at hcall
      have HC := Lib.hid hcall
      have HQ := Lib.hid hq
      clear hc hy hcall hq hb
      cases q
      · go_wp2_with (go_at_fn 39; refine HC.out.mono ?_; rintro e w2 ⟨rfl, hb2⟩; have HB2 := Lib.hid (HB.out.trans (hb2.mono HB.out.size)); clear hb2)
        go_roundw
        case rel => exact ⟨j + 1, by simp, by omega, (fun u hu => by
          rw [List.take_add_one, HY.out] at hu
          rcases List.mem_append.1 hu with h | h
          · exact HF.out u h
          · have : u = y := by simpa using h
            rw [this]; exact HQ.out), HB2.out⟩
        case measure => simp [intOf]; omega
      · go_wp2_with (go_at_fn 39; refine HC.out.mono ?_; rintro e w2 ⟨rfl, hb2⟩; have HB2 := Lib.hid (HB.out.trans (hb2.mono HB.out.size)); clear hb2)
        go_ret
        exact ⟨.inr ⟨j, y, rfl, HY.out, HQ.out, HF.out⟩, HB2.out⟩
    · obtain rfl : j = n := by omega
      go_wp2
      go_ret
      refine ⟨.inl ⟨rfl, fun u hu => HF.out u ?_⟩, HB.out⟩
      rw [List.take_of_length_le (by rw [HN.out]; omega)]; exact hu


end Go.Proofs.Ytogngghfdcpeaaa
