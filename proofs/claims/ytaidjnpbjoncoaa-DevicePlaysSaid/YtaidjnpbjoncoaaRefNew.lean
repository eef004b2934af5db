/-
  The document's device: New.
-/
import Derived.Test.YtaidjnpbjoncoaaRefRest
namespace Go.Proofs.Ytaidjnpbjoncoaa
open Go.RowKit

theorem str_facts : (Try.prog.info? 9).map (fun i => (i.zero, i.size, i.bytes)) = some (some (.string ⟨#[]⟩), 1, 16) := by kernel_rfl

theorem wp_append {P : Program} {o : Oper} {a : Act} {w w' : World} {K : Act → World → Prop} {Q : Exit → Act → World → Prop} (s x : Operand) (t : TypeId) (ho : o.op = .call { callee := .builtin .append, args := #[s, x], argTypes := #[t, t] }) {y z v : Value} (hs : a.eval s = y) (hx : a.eval x = z)
    (hrun : (Builtin.append_ #[t, t] o.type #[y, z]).run P w = .ok v w') (h : K (a.put o.dst v) w') : o.wp P a w K Q := by
  unfold Oper.wp
  simp [execOp, ho, resolve, invoke, builtin, hs, hx, hrun, Result.andThen]
  exact h

/-- strings of the call's own, as a row -/
theorem own_strs {w : World} {base n : Nat} {A : Option Addr} {cap : Nat} {s : List UInt8} (h : w.ownsRow base 9 1 (.slice A n cap) n (List.replicate n (strV s))) (hn : 0 < n) : ∃ g, A = some ⟨g, 0, none⟩ ∧ base ≤ g ∧ StrRow w g n fun _ => s := by
  rcases h.2 with ⟨e, h0⟩ | ⟨g, c, cur, e, hb, hh, h1, h2, h3, h4⟩
  · omega
  · injection e with e1 _ e3
    subst e1
    refine ⟨g, rfl, hb, cur, hh, by omega, fun i hi => ?_⟩
    have h5 : (cur.toList.take (n * 1))[i]? = some (strV s) := by rw [h4, List.getElem?_replicate, if_pos hi]
    rw [List.getElem?_take_of_lt (by omega), Array.getElem?_toList] at h5
    exact h5

theorem made_strs {n : Nat} : (madeCells (Value.cells (.string ⟨#[]⟩)) (n * 1)).toList = List.replicate n (strV []) := by
  unfold madeCells
  rw [Array.toList_map, Array.toList_range, Nat.mul_one, List.eq_replicate_iff]
  refine ⟨by simp, fun b hb => ?_⟩
  obtain ⟨i, _, rfl⟩ := List.mem_map.1 hb
  simp [Value.cells, strV, Nat.mod_one]

/-- behind i rounds -/
structure NMid (w wr : World) (q b n B0 i : Nat) (v : Value) : Prop where
  row : wr.ownsRow B0 9 1 v i (List.replicate i (strV Dv.zeros))
  own : wr.heap[q]? = some (.cells #[v, .slice (some ⟨b, 0, none⟩) n n, .int .i64 (-1), .bool false, .int .i64 0] 44 (0, 0))
  late : StrRow wr b n fun _ => []
  bel : Below w.heap.size w wr
  size : B0 ≤ wr.heap.size

/-- what a round's region finds, and leaves -/
structure NSt (w wr w2 w4 : World) (q b n B0 i : Nat) (v v4 : Value) : Prop where
  make : (Instr.makeSlice 32 (.int .i64 64) (.int .i64 64)).run Try.prog wr.drew = .ok (.slice (some ⟨wr.heap.size, 0, none⟩) 64 64) w2
  t2 : Turn (fun k => k = q ∨ some k = v.ownBlock) wr.drew w2
  conv : ∀ V, Turn (fun k => k = q ∨ some k = v.ownBlock) w2 V → (convert 32 9 (.slice (some ⟨wr.heap.size, 0, none⟩) 64 64)).run Try.prog V = .ok (.string ⟨Dv.zeros.toArray⟩) V
  q0 : wr.cell? ⟨q, 0, none⟩ = some v
  q2 : w2.cell? ⟨q, 0, none⟩ = some v
  q3 : (w2.alloc (.cells #[.string ⟨Dv.zeros.toArray⟩] 9)).cell? ⟨q, 0, none⟩ = some v
  app : (Builtin.append_ #[42, 42] 42 #[v, .slice (some ⟨w2.heap.size, 0, none⟩) 1 1]).run Try.prog (w2.alloc (.cells #[.string ⟨Dv.zeros.toArray⟩] 9)) = .ok v4 w4
  t4 : Turn (fun k => k = q ∨ some k = v.ownBlock) (w2.alloc (.cells #[.string ⟨Dv.zeros.toArray⟩] 9)) w4
  q4 : ∃ u, w4.cell? ⟨q, 0, none⟩ = some u
  f4 : w4.frozen? ⟨q, 0, none⟩ = false
  form : ∃ A c, v4 = .slice A (i + 1) c
  next : Hid (NMid w (w4.setCell ⟨q, 0, none⟩ v4) q b n B0 (i + 1) v4)

theorem nst_mk {w wr : World} {q b n B0 i : Nat} {v : Value} (h : NMid w wr q b n B0 i v) (hi : i < n) (hn : n ≤ 4096) (hq : q < B0) (hb : b < B0) (hqb : q ≠ b) (hwq : w.heap.size ≤ q) : ∃ w2 w4 v4, NSt w wr w2 w4 q b n B0 i v v4 := by
  obtain ⟨i0, hi0, hz0, hz1, hz2⟩ := info_parts byte_info
  obtain ⟨j0, hj0, hy0, hy1, hy2⟩ := info_parts str_facts
  obtain ⟨w2, hmk, hown, hgr⟩ := run_make_full (P := Try.prog) wr.drew wr.heap.size 32 5 i0 (.int .u8 0) 1 Try.underlying32 hi0 hz0 hz1 .i64 .i64 64 (by rw [hz2]; omega) (by unfold maxLen; omega) (Nat.le_refl _)
  have hz := made_zeros hown
  have hBw := h.size
  have hvq : ¬ (some q = v.ownBlock) := fun e => by have := (h.row.lt q e.symm).1; omega
  have hvb : ¬ (some b = v.ownBlock) := fun e => by have := (h.row.lt b e.symm).1; omega
  have hs2 : wr.heap.size ≤ w2.heap.size := hgr.size
  have hT2 : Turn (fun k => k = q ∨ some k = v.ownBlock) wr.drew w2 := Turn.ofNone hgr
  have hT2' : Turn (fun _ => False) wr w2 := (Turn.refl _ _).drew.grown hgr (fun j hj => by cases hj)
  have hrow2 : w2.ownsRow B0 9 1 v i (List.replicate i (strV Dv.zeros)) := (h.row.drew).kept hgr (by rcases hv : v.ownBlock with _ | x; exact .inl rfl; exact .inr (by simp))
  have hq0 : wr.cell? ⟨q, 0, none⟩ = some v := by rw [cell_of_row _ _ _ _ _ _ h.own]; rfl
  have hq2 : w2.cell? ⟨q, 0, none⟩ = some v := hT2'.cell hq0 (fun h => h)
  have hql : q < w2.heap.size := by omega
  have hrow3 := hrow2.alloc (.cells #[.string ⟨Dv.zeros.toArray⟩] 9)
  obtain ⟨v4, w4, happ, hown4, hg4, _, _⟩ := run_append_own_at (P := Try.prog) (w2.alloc (.cells #[.string ⟨Dv.zeros.toArray⟩] 9)) B0 42 42 9 j0 (.string ⟨#[]⟩) 1 16 Try.underlying42 hj0 hy0 hy1 hy2 rfl (by omega) v i _ hrow3 ⟨w2.heap.size, 0, none⟩ 1 1 [.string ⟨Dv.zeros.toArray⟩] rfl (cell_one_new _ _ _) (fun u hu => by rw [List.mem_singleton.1 hu]; rfl) (by unfold maxLen; omega) (by omega) (by simp; omega)
  have hT3 : Turn (fun _ => False) wr (w2.alloc (.cells #[.string ⟨Dv.zeros.toArray⟩] 9)) := hT2'.alloc _
  have hT4 : Turn (fun k => some k = v.ownBlock) wr w4 := (hT3.mono fun _ h => h.elim).grown hg4 (fun j hj => .inl hj.symm)
  have ho4 := (hT4.block q (lt_of_block h.own) hvq).trans h.own
  refine ⟨w2, w4, v4, hmk, hT2, fun V hV => ?_, hq0, hq2, ?_, happ, ?_, ⟨v, by rw [cell_of_row _ _ _ _ _ _ ho4]; rfl⟩, frozen_of_row _ _ _ _ _ ho4, ?_, ?_⟩
  · refine run_string_rd (B := V.heap.size) ?_ _ _ Try.underlying32 Try.underlying5 Try.underlying9 64 64 Dv.len_zeros
    rcases hz.read with h0 | ⟨g, o, e, hg, hc⟩
    · exact .inl h0
    · injection e with e
      injection e with e1 e2
      subst e1 e2
      exact .inr ⟨_, 0, rfl, Nat.lt_of_lt_of_le hg hV.size, fun j x hx => hV.cell (hc j x hx) (fun hk => by
        rcases hk with hk | hk
        · have hk' : wr.heap.size = q := hk
          omega
        · have := (h.row.lt _ hk.symm).2
          have h9 : wr.heap.size < wr.heap.size := this
          omega)⟩
  · rw [World.cell?_alloc_lt _ _ _ hql]; exact hq2
  · exact (Turn.refl _ _).grown hg4 (fun j hj => .inl (.inr hj.symm))
  · rcases hown4.2 with ⟨_, h0⟩ | ⟨g, c, cur, e, _⟩
    · omega
    · exact ⟨_, c, e⟩
  · refine ⟨?_, ?_, ?_, ?_, ?_⟩
    · rw [List.replicate_succ']
      exact World.ownsRow.kept hown4 ((Turn.refl (· = q) w4).setCell ⟨q, 0, none⟩ v4 (.inl rfl)).toGrown (Or.inr fun e => by have := (hown4.lt q e).1; omega)
    · exact heap_setCell_same _ _ _ _ _ _ ho4
    · exact ((h.late.same (hT4.block b h.late.lt hvb))).same (heap_setCell_other _ _ _ _ (Ne.symm hqb))
    · refine (h.bel.trans (hT4.below (fun k hk => ?_) (Nat.le_trans (by omega) hBw))).setCell (by exact hwq) _
      have := (h.row.lt k hk.symm).1
      omega
    · show B0 ≤ (w4.setCell _ _).heap.size
      have h1 := hT4.size
      have h2 : (w4.setCell ⟨q, 0, none⟩ v4).heap.size = w4.heap.size := by simp [World.setCell]
      omega

theorem refnew_bad (w : World) (n : Int) (hn : n < 1 ∨ 4096 < n) : Calls Try.prog 12 #[.int .i64 n] w fun e w' => e = .returned (.tuple #[.pointer none, .int .i64 1]) ∧ w' = w := by
  by_cases h1 : n < 1
  · have d1 : decide (n < 1) = true := decide_eq_true h1
    clear hn
    go_enter Try.func12, Try.ntmps12
    go_wp2_with fail
    go_ret2
    exact ⟨rfl, rfl⟩
  · have d1 : decide (n < 1) = false := decide_eq_false h1
    have d2 : decide (4096 < n) = true := decide_eq_true (by omega)
    clear hn
    go_enter Try.func12, Try.ntmps12
    go_wp2_with fail
    go_ret2
    exact ⟨rfl, rfl⟩

/-- what New of the document answers -/
def RefNewOut (w : World) (n : Nat) (e : Ending) (w' : World) : Prop := ∃ q a b c, e = .returned (.tuple #[ptr q, .int .i64 0]) ∧ IsRef w' q a b c (.fresh n) ∧ Below w.heap.size w w' ∧ w.heap.size ≤ q ∧ w.heap.size ≤ a ∧ w.heap.size ≤ b

set_option maxRecDepth 100000 in
set_option maxHeartbeats 4000000 in
theorem refnew_any (w : World) (n : Nat) (h1 : 1 ≤ n) (h2 : n ≤ 4096) : Calls Try.prog 12 #[.int .i64 (n : Int)] w (RefNewOut w n) := by
  obtain ⟨j0, hj0, hy0, hy1, hy2⟩ := info_parts str_facts
  have HI := Lib.hid hj0
  clear hj0
  have d1 : decide ((n : Int) < 1) = false := decide_eq_false (by omega)
  have d2 : decide (4096 < (n : Int)) = false := decide_eq_false (by omega)
  go_enter Try.func12, Try.ntmps12
  go_wp2_with (at_make; refine wpList_make_full _ rfl _ _ 42 rfl w.heap.size 9 j0 (.string ⟨#[]⟩) 1 Try.underlying42 HI.out hy0 hy1 .i64 .i64 _ _ n rfl rfl rfl rfl (by rw [hy2]; omega) (by unfold maxLen; omega) (Nat.le_refl _) ?_; intro w1 hown hg1; rw [made_strs] at hown; have HO := Lib.hid (own_strs hown h1); have HG := Lib.hid hg1; clear hown hg1)
  obtain ⟨b, hb, hbw, hrow⟩ := HO.out
  injection hb with hb
  injection hb with hb _ _
  subst hb
  have hst0 : Hid (NMid w (w1.alloc (.cells #[.slice none 0 0, .slice (some ⟨w.heap.size, 0, none⟩) n n, .int .i64 (-1), .bool false, .int .i64 0] 44)) w1.heap.size w.heap.size n (w1.heap.size + 1) 0 (.slice none 0 0)) :=
    ⟨World.ownsRow_nil _ _ _ _, heap_alloc_new _ _, hrow.same (heap_alloc_old _ _ hrow.lt), ((Below.refl _ _).grown HG.out (Nat.le_refl _) (fun j hj => by cases hj)).alloc HG.out.size _, by simp⟩
  have hqb : w.heap.size < w1.heap.size := hrow.lt
  clear hrow hbw HO
  go_loopw [5] (fun u wr => ∃ (i : Nat) (v : Value), u = .int .i64 (i : Int) ∧ i ≤ n ∧ Hid (NMid w wr w1.heap.size w.heap.size n (w1.heap.size + 1) i v)) (fun u _ => n - (intOf u).toNat)
  case atStart => exact ⟨0, _, rfl, by omega, hst0⟩
  case round =>
    clear hst0
    generalize w1.heap.size = q at *
    obtain ⟨i, v, rfl, hin, HM⟩ := hrel
    rcases Nat.lt_or_ge i n with hlt | hge
    · obtain ⟨w2, w4, v4, hst⟩ := nst_mk HM.out hlt h2 (by omega) (by omega) (by omega) (by omega)
      obtain ⟨A4, c4, rfl⟩ := hst.form
      have hcv := hst.conv
      have hq0 := hst.q0
      have hq2 := hst.q2
      have hq3 := hst.q3
      obtain ⟨u4, hq4⟩ := hst.q4
      have hf4 := hst.f4
      have HST := Lib.hid hst
      have hii : i + 1 ≤ n := hlt
      have hdi : decide (i < n) = true := decide_eq_true hlt
      clear hst
      go_wp2_with fail
      refine wp_region_turn (X := (fun k => k = q ∨ some k = v.ownBlock)) (by kernel_rfl) ?_
      have hS : Turn (fun k => k = q ∨ some k = v.ownBlock) wr (World.drew wr) := (Turn.refl _ _).drew
      refine wpAnyH_take (i := 0) (oi := ⟨some 21, _, _, _, _, _⟩) (v := ?_) rfl (by kernel_rfl) (by kernel_rfl) (by kernel_rfl) (fun _ _ _ h => h) (Or.inl ⟨by rfl, ?_⟩) hS ?_
      rotate_left
      · intro W hW; go_simp; with_reducible rfl
      try simp only [Act.put, List.setIfInBounds_toArray, List.set_cons_zero, List.set_cons_succ]
      refine wpAnyH_take (i := 1) (oi := ⟨some 22, _, _, _, _, _⟩) (v := ?_) rfl (by kernel_rfl) (by kernel_rfl) (by kernel_rfl) (fun _ _ _ h => h) (Or.inl ⟨by rfl, ?_⟩) hS ?_
      rotate_left
      · intro W hW; go_simp; with_reducible rfl
      try simp only [Act.put, List.setIfInBounds_toArray, List.set_cons_zero, List.set_cons_succ]
      refine wpAnyH_take (i := 2) (oi := ⟨some 23, _, _, _, _, _⟩) (v := ?_) rfl (by kernel_rfl) (by kernel_rfl) (by kernel_rfl) (fun _ _ _ h => h) (Or.inl ⟨by rfl, ?_⟩) hS ?_
      rotate_left
      · intro W hW; go_simp; with_reducible rfl
      try simp only [Act.put, List.setIfInBounds_toArray, List.set_cons_zero, List.set_cons_succ]
      refine wpAnyH_take (i := 3) (oi := ⟨some 24, _, _, _, _, _⟩) (v := ?_) rfl (by kernel_rfl) (by kernel_rfl) (by kernel_rfl) (fun _ _ _ h => h) (Or.inl ⟨by rfl, ?_⟩) hS ?_
      rotate_left
      · intro W hW; go_simp; with_reducible rfl
      try simp only [Act.put, List.setIfInBounds_toArray, List.set_cons_zero, List.set_cons_succ]
      refine wpAnyH_ready (rs := [4, 5]) (by kernel_rfl) (by simp) ?_
      refine AllReadyH.cons (o := ⟨some 25, _, _, _, _, _⟩) rfl (fun Kr hKr => ?_) (AllReadyH.cons (o := ⟨some 26, _, _, _, _, _⟩) rfl (fun Kr hKr => ?_) AllReadyH.nil)
      · skip
        -- operation 4: a step
        go_simp
        show Kr _ _
        refine hKr.out _ _ ?_ (fun _ => ?_)
        · exact hS
        clear hKr Kr
        try simp only [Act.put, List.setIfInBounds_toArray, List.set_cons_zero, List.set_cons_succ]
        refine wpAnyH_ready (rs := [5]) (by kernel_rfl) (by simp) ?_
        refine AllReadyH.cons (o := ⟨some 26, _, _, _, _, _⟩) rfl (fun Kr hKr => ?_) AllReadyH.nil
        -- operation 5: a step
        rw [if_pos (by kernel_rfl)]
        refine wp_make 32 _ _ rfl rfl rfl HST.out.make ?_
        show Kr _ _
        refine hKr.out _ _ ?_ (fun _ => ?_)
        · exact Turn.trans hS HST.out.t2
        clear hKr Kr
        refine wpAnyH_turn (Turn.trans hS HST.out.t2) ?_
        clear hS
        have hS : Turn (fun k => k = q ∨ some k = v.ownBlock) w2 w2 := Turn.refl _ _
        try simp only [Act.put, List.setIfInBounds_toArray, List.set_cons_zero, List.set_cons_succ]
        refine wpAnyH_take (i := 6) (oi := ⟨some 27, _, _, _, _, _⟩) (v := ?_) rfl (by kernel_rfl) (by kernel_rfl) (by kernel_rfl) (fun _ _ _ h => h) (Or.inl ⟨by rfl, ?_⟩) hS ?_
        rotate_left
        · intro W hW; go_simp; with_reducible rfl
        try simp only [Act.put, List.setIfInBounds_toArray, List.set_cons_zero, List.set_cons_succ]
        refine wpAnyH_ready (rs := [7]) (by kernel_rfl) (by simp) ?_
        refine AllReadyH.cons (o := ⟨some 28, _, _, _, _, _⟩) rfl (fun Kr hKr => ?_) AllReadyH.nil
        -- operation 7: a step
        go_simp
        show Kr _ _
        refine hKr.out _ _ ?_ (fun _ => ?_)
        · exact Turn.trans hS ((Turn.refl (fun k => k = q ∨ some k = v.ownBlock) w2).alloc (.cells #[.string ⟨Dv.zeros.toArray⟩] 9))
        clear hKr Kr
        refine wpAnyH_turn (Turn.trans hS ((Turn.refl (fun k => k = q ∨ some k = v.ownBlock) w2).alloc (.cells #[.string ⟨Dv.zeros.toArray⟩] 9))) ?_
        clear hS
        have hS : Turn (fun k => k = q ∨ some k = v.ownBlock) (w2.alloc (.cells #[.string ⟨Dv.zeros.toArray⟩] 9)) (w2.alloc (.cells #[.string ⟨Dv.zeros.toArray⟩] 9)) := Turn.refl _ _
        try simp only [Act.put, List.setIfInBounds_toArray, List.set_cons_zero, List.set_cons_succ]
        refine wpAnyH_ready (rs := [8]) (by kernel_rfl) (by simp) ?_
        refine AllReadyH.cons (o := ⟨some 29, _, _, _, _, _⟩) rfl (fun Kr hKr => ?_) AllReadyH.nil
        -- operation 8: a step
        rw [if_pos (by kernel_rfl)]
        refine wp_append _ _ 42 rfl rfl rfl HST.out.app ?_
        show Kr _ _
        refine hKr.out _ _ ?_ (fun _ => ?_)
        · exact Turn.trans hS HST.out.t4
        clear hKr Kr
        refine wpAnyH_turn (Turn.trans hS HST.out.t4) ?_
        clear hS
        have hS : Turn (fun k => k = q ∨ some k = v.ownBlock) w4 w4 := Turn.refl _ _
        try simp only [Act.put, List.setIfInBounds_toArray, List.set_cons_zero, List.set_cons_succ]
        refine wpAnyH_take (i := 9) (oi := ⟨some 30, _, _, _, _, _⟩) (v := ?_) rfl (by kernel_rfl) (by kernel_rfl) (by kernel_rfl) (fun _ _ _ h => h) (Or.inl ⟨by rfl, ?_⟩) hS ?_
        rotate_left
        · intro W hW; go_simp; with_reducible rfl
        try simp only [Act.put, List.setIfInBounds_toArray, List.set_cons_zero, List.set_cons_succ]
        refine wpAnyH_take (i := 10) (oi := ⟨some 31, _, _, _, _, _⟩) (v := ?_) rfl (by kernel_rfl) (by kernel_rfl) (by kernel_rfl) (fun _ _ _ h => h) (Or.inl ⟨by rfl, ?_⟩) hS ?_
        rotate_left
        · intro W hW; go_simp; with_reducible rfl
        try simp only [Act.put, List.setIfInBounds_toArray, List.set_cons_zero, List.set_cons_succ]
        refine wpAnyH_ready (rs := [11]) (by kernel_rfl) (by simp) ?_
        refine AllReadyH.cons (o := ⟨none, _, _, _, _, _⟩) rfl (fun Kr hKr => ?_) AllReadyH.nil
        -- operation 11: a step
        go_simp
        show Kr _ _
        refine hKr.out _ _ ?_ (fun _ => ?_)
        · exact Turn.trans hS ((Turn.refl (fun k => k = q ∨ some k = v.ownBlock) w4).setCell ⟨q, 0, none⟩ (.slice A4 (i + 1) c4) (.inl (.inl rfl)))
        clear hKr Kr
        refine wpAnyH_turn (Turn.trans hS ((Turn.refl (fun k => k = q ∨ some k = v.ownBlock) w4).setCell ⟨q, 0, none⟩ (.slice A4 (i + 1) c4) (.inl (.inl rfl)))) ?_
        clear hS
        have hS : Turn (fun k => k = q ∨ some k = v.ownBlock) (w4.setCell ⟨q, 0, none⟩ (.slice A4 (i + 1) c4)) (w4.setCell ⟨q, 0, none⟩ (.slice A4 (i + 1) c4)) := Turn.refl _ _
        try simp only [Act.put]
        refine wpAnyH_done (by kernel_rfl) ?_ _
        go_wp2_with fail
        refine ⟨⟨i + 1, _, by go_num, hii, HST.out.next⟩, by simp [intOf]; omega⟩
      · skip
        -- operation 5: a step
        rw [if_pos (by kernel_rfl)]
        refine wp_make 32 _ _ rfl rfl rfl HST.out.make ?_
        show Kr _ _
        refine hKr.out _ _ ?_ (fun _ => ?_)
        · exact Turn.trans hS HST.out.t2
        clear hKr Kr
        refine wpAnyH_turn (Turn.trans hS HST.out.t2) ?_
        clear hS
        have hS : Turn (fun k => k = q ∨ some k = v.ownBlock) w2 w2 := Turn.refl _ _
        try simp only [Act.put, List.setIfInBounds_toArray, List.set_cons_zero, List.set_cons_succ]
        refine wpAnyH_take (i := 6) (oi := ⟨some 27, _, _, _, _, _⟩) (v := ?_) rfl (by kernel_rfl) (by kernel_rfl) (by kernel_rfl) (fun _ _ _ h => h) (Or.inl ⟨by rfl, ?_⟩) hS ?_
        rotate_left
        · intro W hW; go_simp; with_reducible rfl
        try simp only [Act.put, List.setIfInBounds_toArray, List.set_cons_zero, List.set_cons_succ]
        refine wpAnyH_ready (rs := [4, 7]) (by kernel_rfl) (by simp) ?_
        refine AllReadyH.cons (o := ⟨some 25, _, _, _, _, _⟩) rfl (fun Kr hKr => ?_) (AllReadyH.cons (o := ⟨some 28, _, _, _, _, _⟩) rfl (fun Kr hKr => ?_) AllReadyH.nil)
        · skip
          -- operation 4: a step
          go_simp
          show Kr _ _
          refine hKr.out _ _ ?_ (fun _ => ?_)
          · exact hS
          clear hKr Kr
          try simp only [Act.put, List.setIfInBounds_toArray, List.set_cons_zero, List.set_cons_succ]
          refine wpAnyH_ready (rs := [7]) (by kernel_rfl) (by simp) ?_
          refine AllReadyH.cons (o := ⟨some 28, _, _, _, _, _⟩) rfl (fun Kr hKr => ?_) AllReadyH.nil
          -- operation 7: a step
          go_simp
          show Kr _ _
          refine hKr.out _ _ ?_ (fun _ => ?_)
          · exact Turn.trans hS ((Turn.refl (fun k => k = q ∨ some k = v.ownBlock) w2).alloc (.cells #[.string ⟨Dv.zeros.toArray⟩] 9))
          clear hKr Kr
          refine wpAnyH_turn (Turn.trans hS ((Turn.refl (fun k => k = q ∨ some k = v.ownBlock) w2).alloc (.cells #[.string ⟨Dv.zeros.toArray⟩] 9))) ?_
          clear hS
          have hS : Turn (fun k => k = q ∨ some k = v.ownBlock) (w2.alloc (.cells #[.string ⟨Dv.zeros.toArray⟩] 9)) (w2.alloc (.cells #[.string ⟨Dv.zeros.toArray⟩] 9)) := Turn.refl _ _
          try simp only [Act.put, List.setIfInBounds_toArray, List.set_cons_zero, List.set_cons_succ]
          refine wpAnyH_ready (rs := [8]) (by kernel_rfl) (by simp) ?_
          refine AllReadyH.cons (o := ⟨some 29, _, _, _, _, _⟩) rfl (fun Kr hKr => ?_) AllReadyH.nil
          -- operation 8: a step
          rw [if_pos (by kernel_rfl)]
          refine wp_append _ _ 42 rfl rfl rfl HST.out.app ?_
          show Kr _ _
          refine hKr.out _ _ ?_ (fun _ => ?_)
          · exact Turn.trans hS HST.out.t4
          clear hKr Kr
          refine wpAnyH_turn (Turn.trans hS HST.out.t4) ?_
          clear hS
          have hS : Turn (fun k => k = q ∨ some k = v.ownBlock) w4 w4 := Turn.refl _ _
          try simp only [Act.put, List.setIfInBounds_toArray, List.set_cons_zero, List.set_cons_succ]
          refine wpAnyH_take (i := 9) (oi := ⟨some 30, _, _, _, _, _⟩) (v := ?_) rfl (by kernel_rfl) (by kernel_rfl) (by kernel_rfl) (fun _ _ _ h => h) (Or.inl ⟨by rfl, ?_⟩) hS ?_
          rotate_left
          · intro W hW; go_simp; with_reducible rfl
          try simp only [Act.put, List.setIfInBounds_toArray, List.set_cons_zero, List.set_cons_succ]
          refine wpAnyH_take (i := 10) (oi := ⟨some 31, _, _, _, _, _⟩) (v := ?_) rfl (by kernel_rfl) (by kernel_rfl) (by kernel_rfl) (fun _ _ _ h => h) (Or.inl ⟨by rfl, ?_⟩) hS ?_
          rotate_left
          · intro W hW; go_simp; with_reducible rfl
          try simp only [Act.put, List.setIfInBounds_toArray, List.set_cons_zero, List.set_cons_succ]
          refine wpAnyH_ready (rs := [11]) (by kernel_rfl) (by simp) ?_
          refine AllReadyH.cons (o := ⟨none, _, _, _, _, _⟩) rfl (fun Kr hKr => ?_) AllReadyH.nil
          -- operation 11: a step
          go_simp
          show Kr _ _
          refine hKr.out _ _ ?_ (fun _ => ?_)
          · exact Turn.trans hS ((Turn.refl (fun k => k = q ∨ some k = v.ownBlock) w4).setCell ⟨q, 0, none⟩ (.slice A4 (i + 1) c4) (.inl (.inl rfl)))
          clear hKr Kr
          refine wpAnyH_turn (Turn.trans hS ((Turn.refl (fun k => k = q ∨ some k = v.ownBlock) w4).setCell ⟨q, 0, none⟩ (.slice A4 (i + 1) c4) (.inl (.inl rfl)))) ?_
          clear hS
          have hS : Turn (fun k => k = q ∨ some k = v.ownBlock) (w4.setCell ⟨q, 0, none⟩ (.slice A4 (i + 1) c4)) (w4.setCell ⟨q, 0, none⟩ (.slice A4 (i + 1) c4)) := Turn.refl _ _
          try simp only [Act.put]
          refine wpAnyH_done (by kernel_rfl) ?_ _
          go_wp2_with fail
          refine ⟨⟨i + 1, _, by go_num, hii, HST.out.next⟩, by simp [intOf]; omega⟩
        · skip
          -- operation 7: a step
          go_simp
          show Kr _ _
          refine hKr.out _ _ ?_ (fun _ => ?_)
          · exact Turn.trans hS ((Turn.refl (fun k => k = q ∨ some k = v.ownBlock) w2).alloc (.cells #[.string ⟨Dv.zeros.toArray⟩] 9))
          clear hKr Kr
          refine wpAnyH_turn (Turn.trans hS ((Turn.refl (fun k => k = q ∨ some k = v.ownBlock) w2).alloc (.cells #[.string ⟨Dv.zeros.toArray⟩] 9))) ?_
          clear hS
          have hS : Turn (fun k => k = q ∨ some k = v.ownBlock) (w2.alloc (.cells #[.string ⟨Dv.zeros.toArray⟩] 9)) (w2.alloc (.cells #[.string ⟨Dv.zeros.toArray⟩] 9)) := Turn.refl _ _
          try simp only [Act.put, List.setIfInBounds_toArray, List.set_cons_zero, List.set_cons_succ]
          refine wpAnyH_ready (rs := [4]) (by kernel_rfl) (by simp) ?_
          refine AllReadyH.cons (o := ⟨some 25, _, _, _, _, _⟩) rfl (fun Kr hKr => ?_) AllReadyH.nil
          -- operation 4: a step
          go_simp
          show Kr _ _
          refine hKr.out _ _ ?_ (fun _ => ?_)
          · exact hS
          clear hKr Kr
          try simp only [Act.put, List.setIfInBounds_toArray, List.set_cons_zero, List.set_cons_succ]
          refine wpAnyH_ready (rs := [8]) (by kernel_rfl) (by simp) ?_
          refine AllReadyH.cons (o := ⟨some 29, _, _, _, _, _⟩) rfl (fun Kr hKr => ?_) AllReadyH.nil
          -- operation 8: a step
          rw [if_pos (by kernel_rfl)]
          refine wp_append _ _ 42 rfl rfl rfl HST.out.app ?_
          show Kr _ _
          refine hKr.out _ _ ?_ (fun _ => ?_)
          · exact Turn.trans hS HST.out.t4
          clear hKr Kr
          refine wpAnyH_turn (Turn.trans hS HST.out.t4) ?_
          clear hS
          have hS : Turn (fun k => k = q ∨ some k = v.ownBlock) w4 w4 := Turn.refl _ _
          try simp only [Act.put, List.setIfInBounds_toArray, List.set_cons_zero, List.set_cons_succ]
          refine wpAnyH_take (i := 9) (oi := ⟨some 30, _, _, _, _, _⟩) (v := ?_) rfl (by kernel_rfl) (by kernel_rfl) (by kernel_rfl) (fun _ _ _ h => h) (Or.inl ⟨by rfl, ?_⟩) hS ?_
          rotate_left
          · intro W hW; go_simp; with_reducible rfl
          try simp only [Act.put, List.setIfInBounds_toArray, List.set_cons_zero, List.set_cons_succ]
          refine wpAnyH_take (i := 10) (oi := ⟨some 31, _, _, _, _, _⟩) (v := ?_) rfl (by kernel_rfl) (by kernel_rfl) (by kernel_rfl) (fun _ _ _ h => h) (Or.inl ⟨by rfl, ?_⟩) hS ?_
          rotate_left
          · intro W hW; go_simp; with_reducible rfl
          try simp only [Act.put, List.setIfInBounds_toArray, List.set_cons_zero, List.set_cons_succ]
          refine wpAnyH_ready (rs := [11]) (by kernel_rfl) (by simp) ?_
          refine AllReadyH.cons (o := ⟨none, _, _, _, _, _⟩) rfl (fun Kr hKr => ?_) AllReadyH.nil
          -- operation 11: a step
          go_simp
          show Kr _ _
          refine hKr.out _ _ ?_ (fun _ => ?_)
          · exact Turn.trans hS ((Turn.refl (fun k => k = q ∨ some k = v.ownBlock) w4).setCell ⟨q, 0, none⟩ (.slice A4 (i + 1) c4) (.inl (.inl rfl)))
          clear hKr Kr
          refine wpAnyH_turn (Turn.trans hS ((Turn.refl (fun k => k = q ∨ some k = v.ownBlock) w4).setCell ⟨q, 0, none⟩ (.slice A4 (i + 1) c4) (.inl (.inl rfl)))) ?_
          clear hS
          have hS : Turn (fun k => k = q ∨ some k = v.ownBlock) (w4.setCell ⟨q, 0, none⟩ (.slice A4 (i + 1) c4)) (w4.setCell ⟨q, 0, none⟩ (.slice A4 (i + 1) c4)) := Turn.refl _ _
          try simp only [Act.put]
          refine wpAnyH_done (by kernel_rfl) ?_ _
          go_wp2_with fail
          refine ⟨⟨i + 1, _, by go_num, hii, HST.out.next⟩, by simp [intOf]; omega⟩
    · obtain rfl : i = n := by omega
      have hdi : decide (i < i) = false := decide_eq_false (by omega)
      go_wp2_with fail
      go_ret2
      have hr := HM.out
      have hrow := hr.row
      rcases hrow.2 with ⟨hv, h0⟩ | ⟨g, cap, cur, hv, hg, _⟩
      · omega
      · subst hv
        obtain ⟨g', e, hg', hsr⟩ := own_strs hrow h1
        injection e with e
        injection e with e _ _
        subst e
        refine ⟨q, g, w.heap.size, cap, rfl, ⟨Dv.ok_fresh h1 h2, ⟨by omega, by omega, by omega⟩, hr.own, hsr, hr.late⟩, hr.bel, by omega, by omega, Nat.le_refl _⟩

end Go.Proofs.Ytaidjnpbjoncoaa
