/-
  One is begun.
-/
import Derived.Test.YtpphhhalmccnbaaTreeB
import Derived.Test.YtpphhhalmccnbaaTreeA
namespace Go.Proofs.Ytpphhhalmccnbaa
set_option maxRecDepth 100000
set_option linter.unusedVariables false
open Go.RowKit Go.Shelf

theorem four_cells (w : World) (x0 x1 x2 x3 : Value) (t : TypeId) : ∀ j u, [x0, x1, x2, x3][j]? = some u → (w.alloc (.cells #[x0, x1, x2, x3] t)).cell? ((⟨w.heap.size, 0, none⟩ : Addr).add j) = some u := by
  intro j u hu
  rw [addr_add, Nat.zero_add, cell_new]
  match j, hu with
  | 0, hu => exact hu
  | 1, hu => exact hu
  | 2, hu => exact hu
  | 3, hu => exact hu
  | j + 4, hu => simp at hu

/-- 'append(l, Tx{..})' onto the call's own -/
theorem wpList_append_tx {ops : Array Oper} {rest : List Oper} {o : Oper} {a : Act} {w : World} {Q : Exit → Act → World → Prop} (hgd : o.guard = none) (s x : Operand)
    (ho : o.op = .call { callee := .builtin .append, args := #[s, x], argTypes := #[53, 53] }) (base : Nat) (v : Value) (l : List Tx) (hs : a.eval s = v) (hown : OwnTx w base v l)
    (n : Nat) (hn : l.length = n) (g : Nat) (z : Tx) (hx : a.eval x = .slice (some ⟨g, 0, none⟩) 1 1) (hc : ∀ j u, [Value.int .i64 z.p, .int .i64 z.s, .int .i64 z.b, .int .i64 z.e][j]? = some u → w.cell? ((⟨g, 0, none⟩ : Addr).add j) = some u) (hlen : l.length ≤ 64) (hbase : base ≤ w.heap.size)
    (h : ∀ A' k' w', OwnTx w' base (.slice A' (n + 1) k') (l ++ [z]) → w.grownBy w' v.ownBlock → wpList Try.prog ops Q rest (a.put o.dst (.slice A' (n + 1) k')) w') : wpList Try.prog ops Q (o :: rest) a w := by
  have hi := tx_facts
  cases hq : Try.prog.info? 97 with
  | none => rw [hq] at hi; cases hi
  | some i0 =>
    rw [hq] at hi
    simp only [Option.map_some, Option.some.injEq, Prod.mk.injEq] at hi
    refine wpList_append_own_at w hgd s x _ ho base 97 i0 _ 4 32 Try.underlying53 hq hi.1 hi.2.1 hi.2.2 rfl (by decide) v l.length (txC l) hs hown ⟨g, 0, none⟩ 1 1 [.int .i64 z.p, .int .i64 z.s, .int .i64 z.b, .int .i64 z.e] hx rfl hc ?_ (by unfold maxLen; omega) (by omega) hbase ?_
    · intro u hu
      simp only [List.mem_cons, List.not_mem_nil, or_false] at hu
      rcases hu with rfl | rfl | rfl | rfl <;> rfl
    · intro v' w' hown' hg' _ hat
      have ho : OwnTx w' base v' (l ++ [z]) := by
        unfold OwnTx
        rw [List.length_append, txC_append]
        exact hown'
      obtain ⟨A', k', rfl, _, _⟩ := ho.form
      have e : (l ++ [z]).length = n + 1 := by simp [hn]
      rw [e] at ho ⊢
      exact h A' k' w' ho hg'

/-- what Begin answers -/
def BeginOut (T : Tr) (p : Int) (w : World) (e : Ending) (w' : World) : Prop :=
  Below w.heap.size w w' ∧ ((MayBegin T p ∧ ∃ A k n, n = T.l.length + 1 ∧ e = .returned (.tuple #[.agg #[.slice A n k, .int .i64 (T.begun p).c], .int .i64 (T.l.length : Int), .int .i64 0]) ∧ TxAt w' A (T.begun p).l ∧ n ≤ k) ∨
    (∃ E : Int, E ≠ 0 ∧ (¬ MayBegin T p ∧ (0 ≤ p ∧ p < (T.l.length : Int) → E = 7 ∨ E = 13)) ∧ e = .returned (.tuple #[.agg #[.slice none 0 0, .int .i64 0], .int .i64 0, .int .i64 E])))

set_option maxHeartbeats 4000000 in
theorem begin_any (A : Option Addr) (T : Tr) (N cap : Nat) (c p : Int) (hN : T.l.length = N) (hG : Good T) (hc : T.c = c) (hcb : c ≤ 900) (w : World) (hT : TxAt w A T.l) :
    Calls Try.prog 28 #[.agg #[.slice A N cap, .int .i64 c], .int .i64 p] w (BeginOut T p w) := by
  have hn64 : N ≤ 64 := by have := hG.n; omega
  have hc0 : 0 ≤ c := by have := hG.c0; omega
  obtain ⟨wx, hw0⟩ : ∃ wx, wx = w.alloc (.cells #[.slice A N cap, .int .i64 c] 55) := ⟨_, rfl⟩
  obtain ⟨w1, hw1⟩ : ∃ wy, wy = wx.alloc (.cells #[.slice none 0 0, .int .i64 0] 55) := ⟨_, rfl⟩
  have b1 : TB w1 w.heap.size A N cap c := by rw [hw1, hw0]; exact (TB.new w _ _ _ _).below (below_new _ _)
  have b2 : TB w1 (w.heap.size + 1) none 0 0 0 := by
    have h := TB.new wx none 0 0 0
    rw [show wx.heap.size = w.heap.size + 1 from by rw [hw0]; simp] at h
    rw [hw1]; exact h
  have hb : Below w.heap.size w w1 := by rw [hw1, hw0]; exact below_two (below_new w _) (below_new _ _)
  have HTX := Lib.hid (hT.below hb)
  have HG := Lib.hid hG
  have HN := Lib.hid hN
  have HC := Lib.hid hc
  have HB := Lib.hid hb
  have H2 := Lib.hid b1
  have H4 := Lib.hid b2
  clear hG hN hc hb b1 b2 hT
  go_enter Try.func28, Try.ntmps28
  go_upto_region 1 with fail
  rw [← hw0, ← hw1]
  clear hw0 hw1 wx
  by_cases hp : p = -1
  · have hpb : (p == -1) = true := by simpa using hp
    have HLV := Lib.hid (show p = -1 ∨ ∃ q : Nat, p = q ∧ q < T.l.length ∧ (T.tx q).s = 1 from .inl hp)
    clear hp
    obtain ⟨w2, hw2⟩ : ∃ w2, w2 = w1 := ⟨_, rfl⟩
    have HB2 : Hid (Below w.heap.size w w2) := by rw [hw2]; exact HB
    have HTX2 : Hid (TxAt w2 A T.l) := by rw [hw2]; exact HTX
    have H22 : Hid (TB w2 w.heap.size A N cap c) := by rw [hw2]; exact H2
    have H42 : Hid (TB w2 (w.heap.size + 1) none 0 0 0) := by rw [hw2]; exact H4
    subst hw2
    clear HB HTX H2 H4
    by_cases h64 : 64 ≤ N
    · have h64i : (64 : Int) ≤ (N : Int) := by omega
      have c0 := H22.out.c0
      go_wp2_with (first | (refine wpList_store_tree rfl (.tmp 4) (.tmp 27) rfl rfl rfl H42.out ?_; intro w5 hb5 hg5; have HB5 := Lib.hid hb5; have HG5 := Lib.hid hg5; clear hb5 hg5) | fail)
      refine bodyPost_ret (results_tree3 rfl _ rfl _ _ rfl rfl HB5.out) rfl ?_
      exact ⟨HB2.out.grown HG5.out HB2.out.size (fun j e => by injection e with e; omega), .inr ⟨13, by decide, ⟨fun m => by have h1 := m.n; have h2 := HN.out; omega, fun _ => .inr rfl⟩, rfl⟩⟩
    · have h64i : ¬ (64 : Int) ≤ (N : Int) := by omega
      have c0 := H22.out.c0
      have c1 := H22.out.c1
      have hdeep := deep_any A T N cap c p HN.out HG.out w2 HTX2.out
      obtain ⟨d, hd⟩ : ∃ d, d = (T.way p).length := ⟨_, rfl⟩
      rw [← hd] at hdeep
      have HD := Lib.hid hd
      have HDP := Lib.hid hdeep
      clear hd hdeep
      go_wp2_with fail
      refine HDP.out.mono ?_
      rintro e w3 ⟨rfl, hb3⟩
      have HB3 := Lib.hid (HB2.out.trans (hb3.mono HB2.out.size))
      have HTX3 := Lib.hid (HTX2.out.below hb3)
      have H23 := Lib.hid (H22.out.below hb3)
      have H43 := Lib.hid (H42.out.below hb3)
      clear hb3 c0 c1 HDP HB2 HTX2 H22 H42
      by_cases hd8 : 8 ≤ d
      · have hd8i : (8 : Int) ≤ (d : Int) := by omega
        go_wp2_with (first | (refine wpList_store_tree rfl (.tmp 4) (.tmp 27) rfl rfl rfl H43.out ?_; intro w5 hb5 hg5; have HB5 := Lib.hid hb5; have HG5 := Lib.hid hg5; clear hb5 hg5) | fail)
        refine bodyPost_ret (results_tree3 rfl _ rfl _ _ rfl rfl HB5.out) rfl ?_
        exact ⟨HB3.out.grown HG5.out HB3.out.size (fun j e => by injection e with e; omega), .inr ⟨13, by decide, ⟨fun m => by have h1 := m.deep; rw [← HD.out] at h1; omega, fun _ => .inr rfl⟩, rfl⟩⟩
      · have hd8i : ¬ (8 : Int) ≤ (d : Int) := by omega
        have HM := Lib.hid (show MayBegin T p from ⟨HLV.out, by rw [HN.out]; omega, by rw [← HD.out]; omega⟩)
        have hnext := next_any A T N cap c HN.out hn64 ⟨hc0, by omega⟩ w3 HTX3.out
        have HNX := Lib.hid hnext
        have c0 := H23.out.c0
        have c1 := H23.out.c1
        clear hnext HD hd8
        go_wp2_with fail
        refine HNX.out.mono ?_
        rintro e w4 ⟨A', k', rfl, hown, hb4⟩
        have HB4 := Lib.hid (HB3.out.trans (hb4.mono HB3.out.size))
        have HOW := Lib.hid hown
        have HW4 := Lib.hid hb4.size
        have H24 := Lib.hid (H23.out.below hb4)
        have H44 := Lib.hid (H43.out.below hb4)
        have HLO := Lib.hid (show w.heap.size + 2 ≤ w3.heap.size from H43.out.lt)
        clear hb4 hown c0 c1 HNX H23 H43 HB3
        go_wp2_with (first | (refine wpList_store_tree rfl (.tmp 2) (.tmp 29) rfl rfl rfl H24.out ?_; intro w5 hb5 hg5; have k0 := hb5.c0; have k1 := hb5.c1; have HB5 := Lib.hid hb5; have HG5 := Lib.hid hg5; have HO5 := Lib.hid (HOW.out.turn (S := fun k => k = w.heap.size) ((Turn.refl _ w4).grown hg5 (fun j e => by injection e with e; exact .inl e.symm)) (fun k e h => by have := (HOW.out.lt k e).1; have := HLO.out; omega)); clear hb5 hg5) | (at_builtin; refine wpList_append_tx rfl _ _ rfl w3.heap.size _ T.l rfl (HO5.out.below (below_new _ _)) N HN.out _ ⟨p, 1, c + 1, 0⟩ rfl (four_cells w5 _ _ _ _ _) (by rw [HN.out]; omega) (by have h1 := HG5.out.size; have h2 := HW4.out; simp; omega) ?_; intro A6 k6 w6 hown6 hg6; have HO6 := Lib.hid hown6; have HG6 := Lib.hid hg6; have hb6 := (HB5.out.below (below_new w5 (.cells #[.int .i64 p, .int .i64 1, .int .i64 (c + 1), .int .i64 0] 97))).far hg6 (fun e => by have h1 := (HO5.out.lt _ e.symm).1; have := HLO.out; omega); have k0 := hb6.c0; have k1 := hb6.c1; have f0 := hb6.fr 0; have HB6 := Lib.hid hb6; clear hown6 hg6 hb6) | fail)
        have hb7 := HB6.out.set A6 (N + 1) k6
        have HG7 := Lib.hid (show Turn (fun k => k = w.heap.size) w6 (w6.setCell ⟨w.heap.size, 0, none⟩ (.slice A6 (N + 1) k6)) from (Turn.refl _ w6).setCell _ _ (.inl rfl))
        have HB7 := Lib.hid hb7
        have HT6 := Lib.hid (show Turn (fun k => k = w.heap.size ∨ w3.heap.size ≤ k) w4 w6 from ((((Turn.refl _ w4).grown HG5.out (fun j e => by injection e with e; exact .inl (.inl e.symm))).alloc _).grown HG6.out (fun j e => .inl (.inr (HO5.out.lt j e).1))))
        clear k0 k1 f0 HG5 HG6 HB5 HB6 HO5 hb7
        generalize w6.setCell ⟨w.heap.size, 0, none⟩ (.slice A6 (N + 1) k6) = w7 at *
        have k0 := fun (V : World) (h : Turn (fun k => k = w.heap.size + 1) w7 V) => (HB7.out.turn h (by omega)).c0
        have k1 := fun (V : World) (h : Turn (fun k => k = w.heap.size + 1) w7 V) => (HB7.out.turn h (by omega)).c1
        have H47 := Lib.hid ((H44.out.turn HT6.out (by have := HLO.out; omega)).turn HG7.out (by omega))
        have wr1 : IntKind.i64.wrap (((N + 1 : Nat) : Int) - 1) = (N : Int) := by simp [IntKind.wrap, IntKind.bits, IntKind.signed]; omega
        have wr2 : IntKind.i64.wrap ((N : Int) + 1 - 1) = (N : Int) := by simp [IntKind.wrap, IntKind.bits, IntKind.signed]; omega
        have wr3 : IntKind.i64.wrap (N : Int) = (N : Int) := by simp [IntKind.wrap, IntKind.bits, IntKind.signed]; omega
        refine wp_region_turn (X := (fun k => k = w.heap.size + 1)) (by kernel_rfl) ?_
        have hS : Turn (fun k => k = w.heap.size + 1) w7 (World.drew w7) := (Turn.refl _ _).drew
        refine wpAnyH_take (i := 0) (oi := ⟨some 39, _, _, _, _, _⟩) (v := ?_) rfl (by kernel_rfl) (by kernel_rfl) (by kernel_rfl) (fun _ _ _ h => h) (Or.inl ⟨by rfl, ?_⟩) hS ?_
        rotate_left
        · intro W hW; go_simp; with_reducible rfl
        try simp only [Act.put, List.setIfInBounds_toArray, List.set_cons_zero, List.set_cons_succ]
        refine wpAnyH_take (i := 1) (oi := ⟨some 40, _, _, _, _, _⟩) (v := ?_) rfl (by kernel_rfl) (by kernel_rfl) (by kernel_rfl) (fun _ _ _ h => h) (Or.inl ⟨by rfl, ?_⟩) hS ?_
        rotate_left
        · intro W hW; go_simp; with_reducible rfl
        try simp only [Act.put, List.setIfInBounds_toArray, List.set_cons_zero, List.set_cons_succ]
        refine wpAnyH_take (i := 2) (oi := ⟨some 41, _, _, _, _, _⟩) (v := ?_) rfl (by kernel_rfl) (by kernel_rfl) (by kernel_rfl) (fun _ _ _ h => h) (Or.inl ⟨by rfl, ?_⟩) hS ?_
        rotate_left
        · intro W hW; go_simp; with_reducible rfl
        try simp only [Act.put, List.setIfInBounds_toArray, List.set_cons_zero, List.set_cons_succ]
        refine wpAnyH_take (i := 3) (oi := ⟨some 42, _, _, _, _, _⟩) (v := ?_) rfl (by kernel_rfl) (by kernel_rfl) (by kernel_rfl) (fun _ _ _ h => h) (Or.inl ⟨by rfl, ?_⟩) hS ?_
        rotate_left
        · intro W hW; go_simp; with_reducible rfl
        try simp only [Act.put, List.setIfInBounds_toArray, List.set_cons_zero, List.set_cons_succ]
        refine wpAnyH_take (i := 4) (oi := ⟨some 43, _, _, _, _, _⟩) (v := ?_) rfl (by kernel_rfl) (by kernel_rfl) (by kernel_rfl) (fun _ _ _ h => h) (Or.inl ⟨by rfl, ?_⟩) hS ?_
        rotate_left
        · intro W hW; go_simp; with_reducible rfl
        try simp only [Act.put, List.setIfInBounds_toArray, List.set_cons_zero, List.set_cons_succ]
        refine wpAnyH_ready (rs := [5]) (by kernel_rfl) (by simp) ?_
        refine AllReadyH.cons (o := ⟨none, _, _, _, _, _⟩) rfl (fun Kr hKr => ?_) AllReadyH.nil
        -- operation 5: a step
        rw [if_pos (by kernel_rfl)]
        refine wp_store_tree (.tmp 4) (.tmp 39) rfl rfl rfl (H47.out.below ((Below.refl w7.heap.size w7).drew)) ?_
        intro V1 hb1 hg1
        show Kr _ _
        refine hKr.out _ _ ?_ (fun _ => ?_)
        · exact hS.grown hg1 (fun j e => by injection e with e; exact .inl e.symm)
        clear hKr Kr
        replace hS : Turn (fun k => k = w.heap.size + 1) w7 V1 := hS.grown hg1 (fun j e => by injection e with e; exact .inl e.symm)
        try simp only [Act.put]
        refine wpAnyH_take (i := 6) (oi := ⟨some 5, _, _, _, _, _⟩) (v := ?_) rfl (by kernel_rfl) (by kernel_rfl) (by kernel_rfl) (fun _ _ _ h => h) (Or.inl ⟨by rfl, ?_⟩) hS ?_
        rotate_left
        · intro W hW; go_simp; with_reducible rfl
        try simp only [Act.put, List.setIfInBounds_toArray, List.set_cons_zero, List.set_cons_succ]
        refine wpAnyH_take (i := 7) (oi := ⟨some 6, _, _, _, _, _⟩) (v := ?_) rfl (by kernel_rfl) (by kernel_rfl) (by kernel_rfl) (fun _ _ _ h => h) (Or.inl ⟨by rfl, ?_⟩) hS ?_
        rotate_left
        · intro W hW; go_simp; with_reducible rfl
        try simp only [Act.put, List.setIfInBounds_toArray, List.set_cons_zero, List.set_cons_succ]
        refine wpAnyH_done (by kernel_rfl) ?_ _
        have HV1 := Lib.hid hb1
        have HT7 := Lib.hid hS
        clear hb1 hg1 hS k0 k1 wr1 wr2 wr3
        go_wp2_with fail
        refine bodyPost_ret (results_tree3 rfl _ rfl _ _ rfl rfl HV1.out) rfl ?_
        have hown7 := HO6.out.turn HG7.out (fun k e h => by have := (HO6.out.lt k e).1; have := HLO.out; omega)
        have hown8 := hown7.turn HT7.out (fun k e h => by have := (hown7.lt k e).1; have := HLO.out; omega)
        obtain ⟨A8, k8, e8, htx8, _⟩ := hown8.form
        injection e8 with e8 e9 e10
        subst e8
        have hsz : w.heap.size ≤ w4.heap.size := HB4.out.size
        refine ⟨?_, .inl ⟨HM.out, A6, k6, N + 1, by rw [HN.out], ?_, ⟨by unfold Tr.begun; rw [HC.out]; exact htx8, HO6.out.cap⟩⟩⟩
        · exact (((HB4.out.trans (HT6.out.below (fun k e => by have := HLO.out; omega) hsz)).trans (HG7.out.below (fun k e => by omega) (Nat.le_trans hsz HT6.out.size))).trans (HT7.out.below (fun k e => by omega) (Nat.le_trans (Nat.le_trans hsz HT6.out.size) HG7.out.size)))
        · rw [HN.out]
          show _ = Ending.returned (.tuple #[.agg #[.slice A6 (N + 1) k6, .int .i64 (T.c + 1)], _, _])
          rw [HC.out]
          rfl
  · have hpb : (p == -1) = false := by simpa using hp
    have hlive := live_any A T N cap c p HN.out hn64 w1 HTX.out
    obtain ⟨E, hE⟩ : ∃ E, E = T.liveE p := ⟨_, rfl⟩
    rw [← hE] at hlive
    have HE := Lib.hid hE
    have HLI := Lib.hid hlive
    have c0 := H2.out.c0
    have c1 := H2.out.c1
    have HPN := Lib.hid hp
    clear hE hlive hp
    go_wp2_with fail
    refine HLI.out.mono ?_
    rintro e w2 ⟨rfl, hb2⟩
    have HB2 := Lib.hid (HB.out.trans (hb2.mono HB.out.size))
    have HTX2 := Lib.hid (HTX.out.below hb2)
    have H22 := Lib.hid (H2.out.below hb2)
    have H42 := Lib.hid (H4.out.below hb2)
    clear hb2 c0 c1 HLI HB HTX H2 H4
    by_cases hz : E = 0
    · have hzb : (E == 0) = true := by simpa using hz
      have HLV := Lib.hid (show p = -1 ∨ ∃ q : Nat, p = q ∧ q < T.l.length ∧ (T.tx q).s = 1 from by
        have h1 := HE.out
        rw [hz] at h1
        unfold Tr.liveE at h1
        split at h1
        · next h2 =>
          split at h1
          · next h3 => exact .inr ⟨p.toNat, by omega, by omega, h3⟩
          · omega
        · omega)
      clear hz HE
      by_cases h64 : 64 ≤ N
      · have h64i : (64 : Int) ≤ (N : Int) := by omega
        have c0 := H22.out.c0
        go_wp2_with (first | (refine wpList_store_tree rfl (.tmp 4) (.tmp 27) rfl rfl rfl H42.out ?_; intro w5 hb5 hg5; have HB5 := Lib.hid hb5; have HG5 := Lib.hid hg5; clear hb5 hg5) | fail)
        refine bodyPost_ret (results_tree3 rfl _ rfl _ _ rfl rfl HB5.out) rfl ?_
        exact ⟨HB2.out.grown HG5.out HB2.out.size (fun j e => by injection e with e; omega), .inr ⟨13, by decide, ⟨fun m => by have h1 := m.n; have h2 := HN.out; omega, fun _ => .inr rfl⟩, rfl⟩⟩
      · have h64i : ¬ (64 : Int) ≤ (N : Int) := by omega
        have c0 := H22.out.c0
        have c1 := H22.out.c1
        have hdeep := deep_any A T N cap c p HN.out HG.out w2 HTX2.out
        obtain ⟨d, hd⟩ : ∃ d, d = (T.way p).length := ⟨_, rfl⟩
        rw [← hd] at hdeep
        have HD := Lib.hid hd
        have HDP := Lib.hid hdeep
        clear hd hdeep
        go_wp2_with fail
        refine HDP.out.mono ?_
        rintro e w3 ⟨rfl, hb3⟩
        have HB3 := Lib.hid (HB2.out.trans (hb3.mono HB2.out.size))
        have HTX3 := Lib.hid (HTX2.out.below hb3)
        have H23 := Lib.hid (H22.out.below hb3)
        have H43 := Lib.hid (H42.out.below hb3)
        clear hb3 c0 c1 HDP HB2 HTX2 H22 H42
        by_cases hd8 : 8 ≤ d
        · have hd8i : (8 : Int) ≤ (d : Int) := by omega
          go_wp2_with (first | (refine wpList_store_tree rfl (.tmp 4) (.tmp 27) rfl rfl rfl H43.out ?_; intro w5 hb5 hg5; have HB5 := Lib.hid hb5; have HG5 := Lib.hid hg5; clear hb5 hg5) | fail)
          refine bodyPost_ret (results_tree3 rfl _ rfl _ _ rfl rfl HB5.out) rfl ?_
          exact ⟨HB3.out.grown HG5.out HB3.out.size (fun j e => by injection e with e; omega), .inr ⟨13, by decide, ⟨fun m => by have h1 := m.deep; rw [← HD.out] at h1; omega, fun _ => .inr rfl⟩, rfl⟩⟩
        · have hd8i : ¬ (8 : Int) ≤ (d : Int) := by omega
          have HM := Lib.hid (show MayBegin T p from ⟨HLV.out, by rw [HN.out]; omega, by rw [← HD.out]; omega⟩)
          have hnext := next_any A T N cap c HN.out hn64 ⟨hc0, by omega⟩ w3 HTX3.out
          have HNX := Lib.hid hnext
          have c0 := H23.out.c0
          have c1 := H23.out.c1
          clear hnext HD hd8
          go_wp2_with fail
          refine HNX.out.mono ?_
          rintro e w4 ⟨A', k', rfl, hown, hb4⟩
          have HB4 := Lib.hid (HB3.out.trans (hb4.mono HB3.out.size))
          have HOW := Lib.hid hown
          have HW4 := Lib.hid hb4.size
          have H24 := Lib.hid (H23.out.below hb4)
          have H44 := Lib.hid (H43.out.below hb4)
          have HLO := Lib.hid (show w.heap.size + 2 ≤ w3.heap.size from H43.out.lt)
          clear hb4 hown c0 c1 HNX H23 H43 HB3
          go_wp2_with (first | (refine wpList_store_tree rfl (.tmp 2) (.tmp 29) rfl rfl rfl H24.out ?_; intro w5 hb5 hg5; have k0 := hb5.c0; have k1 := hb5.c1; have HB5 := Lib.hid hb5; have HG5 := Lib.hid hg5; have HO5 := Lib.hid (HOW.out.turn (S := fun k => k = w.heap.size) ((Turn.refl _ w4).grown hg5 (fun j e => by injection e with e; exact .inl e.symm)) (fun k e h => by have := (HOW.out.lt k e).1; have := HLO.out; omega)); clear hb5 hg5) | (at_builtin; refine wpList_append_tx rfl _ _ rfl w3.heap.size _ T.l rfl (HO5.out.below (below_new _ _)) N HN.out _ ⟨p, 1, c + 1, 0⟩ rfl (four_cells w5 _ _ _ _ _) (by rw [HN.out]; omega) (by have h1 := HG5.out.size; have h2 := HW4.out; simp; omega) ?_; intro A6 k6 w6 hown6 hg6; have HO6 := Lib.hid hown6; have HG6 := Lib.hid hg6; have hb6 := (HB5.out.below (below_new w5 (.cells #[.int .i64 p, .int .i64 1, .int .i64 (c + 1), .int .i64 0] 97))).far hg6 (fun e => by have h1 := (HO5.out.lt _ e.symm).1; have := HLO.out; omega); have k0 := hb6.c0; have k1 := hb6.c1; have f0 := hb6.fr 0; have HB6 := Lib.hid hb6; clear hown6 hg6 hb6) | fail)
          have hb7 := HB6.out.set A6 (N + 1) k6
          have HG7 := Lib.hid (show Turn (fun k => k = w.heap.size) w6 (w6.setCell ⟨w.heap.size, 0, none⟩ (.slice A6 (N + 1) k6)) from (Turn.refl _ w6).setCell _ _ (.inl rfl))
          have HB7 := Lib.hid hb7
          have HT6 := Lib.hid (show Turn (fun k => k = w.heap.size ∨ w3.heap.size ≤ k) w4 w6 from ((((Turn.refl _ w4).grown HG5.out (fun j e => by injection e with e; exact .inl (.inl e.symm))).alloc _).grown HG6.out (fun j e => .inl (.inr (HO5.out.lt j e).1))))
          clear k0 k1 f0 HG5 HG6 HB5 HB6 HO5 hb7
          generalize w6.setCell ⟨w.heap.size, 0, none⟩ (.slice A6 (N + 1) k6) = w7 at *
          have k0 := fun (V : World) (h : Turn (fun k => k = w.heap.size + 1) w7 V) => (HB7.out.turn h (by omega)).c0
          have k1 := fun (V : World) (h : Turn (fun k => k = w.heap.size + 1) w7 V) => (HB7.out.turn h (by omega)).c1
          have H47 := Lib.hid ((H44.out.turn HT6.out (by have := HLO.out; omega)).turn HG7.out (by omega))
          have wr1 : IntKind.i64.wrap (((N + 1 : Nat) : Int) - 1) = (N : Int) := by simp [IntKind.wrap, IntKind.bits, IntKind.signed]; omega
          have wr2 : IntKind.i64.wrap ((N : Int) + 1 - 1) = (N : Int) := by simp [IntKind.wrap, IntKind.bits, IntKind.signed]; omega
          have wr3 : IntKind.i64.wrap (N : Int) = (N : Int) := by simp [IntKind.wrap, IntKind.bits, IntKind.signed]; omega
          refine wp_region_turn (X := (fun k => k = w.heap.size + 1)) (by kernel_rfl) ?_
          have hS : Turn (fun k => k = w.heap.size + 1) w7 (World.drew w7) := (Turn.refl _ _).drew
          refine wpAnyH_take (i := 0) (oi := ⟨some 39, _, _, _, _, _⟩) (v := ?_) rfl (by kernel_rfl) (by kernel_rfl) (by kernel_rfl) (fun _ _ _ h => h) (Or.inl ⟨by rfl, ?_⟩) hS ?_
          rotate_left
          · intro W hW; go_simp; with_reducible rfl
          try simp only [Act.put, List.setIfInBounds_toArray, List.set_cons_zero, List.set_cons_succ]
          refine wpAnyH_take (i := 1) (oi := ⟨some 40, _, _, _, _, _⟩) (v := ?_) rfl (by kernel_rfl) (by kernel_rfl) (by kernel_rfl) (fun _ _ _ h => h) (Or.inl ⟨by rfl, ?_⟩) hS ?_
          rotate_left
          · intro W hW; go_simp; with_reducible rfl
          try simp only [Act.put, List.setIfInBounds_toArray, List.set_cons_zero, List.set_cons_succ]
          refine wpAnyH_take (i := 2) (oi := ⟨some 41, _, _, _, _, _⟩) (v := ?_) rfl (by kernel_rfl) (by kernel_rfl) (by kernel_rfl) (fun _ _ _ h => h) (Or.inl ⟨by rfl, ?_⟩) hS ?_
          rotate_left
          · intro W hW; go_simp; with_reducible rfl
          try simp only [Act.put, List.setIfInBounds_toArray, List.set_cons_zero, List.set_cons_succ]
          refine wpAnyH_take (i := 3) (oi := ⟨some 42, _, _, _, _, _⟩) (v := ?_) rfl (by kernel_rfl) (by kernel_rfl) (by kernel_rfl) (fun _ _ _ h => h) (Or.inl ⟨by rfl, ?_⟩) hS ?_
          rotate_left
          · intro W hW; go_simp; with_reducible rfl
          try simp only [Act.put, List.setIfInBounds_toArray, List.set_cons_zero, List.set_cons_succ]
          refine wpAnyH_take (i := 4) (oi := ⟨some 43, _, _, _, _, _⟩) (v := ?_) rfl (by kernel_rfl) (by kernel_rfl) (by kernel_rfl) (fun _ _ _ h => h) (Or.inl ⟨by rfl, ?_⟩) hS ?_
          rotate_left
          · intro W hW; go_simp; with_reducible rfl
          try simp only [Act.put, List.setIfInBounds_toArray, List.set_cons_zero, List.set_cons_succ]
          refine wpAnyH_ready (rs := [5]) (by kernel_rfl) (by simp) ?_
          refine AllReadyH.cons (o := ⟨none, _, _, _, _, _⟩) rfl (fun Kr hKr => ?_) AllReadyH.nil
          -- operation 5: a step
          rw [if_pos (by kernel_rfl)]
          refine wp_store_tree (.tmp 4) (.tmp 39) rfl rfl rfl (H47.out.below ((Below.refl w7.heap.size w7).drew)) ?_
          intro V1 hb1 hg1
          show Kr _ _
          refine hKr.out _ _ ?_ (fun _ => ?_)
          · exact hS.grown hg1 (fun j e => by injection e with e; exact .inl e.symm)
          clear hKr Kr
          replace hS : Turn (fun k => k = w.heap.size + 1) w7 V1 := hS.grown hg1 (fun j e => by injection e with e; exact .inl e.symm)
          try simp only [Act.put]
          refine wpAnyH_take (i := 6) (oi := ⟨some 5, _, _, _, _, _⟩) (v := ?_) rfl (by kernel_rfl) (by kernel_rfl) (by kernel_rfl) (fun _ _ _ h => h) (Or.inl ⟨by rfl, ?_⟩) hS ?_
          rotate_left
          · intro W hW; go_simp; with_reducible rfl
          try simp only [Act.put, List.setIfInBounds_toArray, List.set_cons_zero, List.set_cons_succ]
          refine wpAnyH_take (i := 7) (oi := ⟨some 6, _, _, _, _, _⟩) (v := ?_) rfl (by kernel_rfl) (by kernel_rfl) (by kernel_rfl) (fun _ _ _ h => h) (Or.inl ⟨by rfl, ?_⟩) hS ?_
          rotate_left
          · intro W hW; go_simp; with_reducible rfl
          try simp only [Act.put, List.setIfInBounds_toArray, List.set_cons_zero, List.set_cons_succ]
          refine wpAnyH_done (by kernel_rfl) ?_ _
          have HV1 := Lib.hid hb1
          have HT7 := Lib.hid hS
          clear hb1 hg1 hS k0 k1 wr1 wr2 wr3
          go_wp2_with fail
          refine bodyPost_ret (results_tree3 rfl _ rfl _ _ rfl rfl HV1.out) rfl ?_
          have hown7 := HO6.out.turn HG7.out (fun k e h => by have := (HO6.out.lt k e).1; have := HLO.out; omega)
          have hown8 := hown7.turn HT7.out (fun k e h => by have := (hown7.lt k e).1; have := HLO.out; omega)
          obtain ⟨A8, k8, e8, htx8, _⟩ := hown8.form
          injection e8 with e8 e9 e10
          subst e8
          have hsz : w.heap.size ≤ w4.heap.size := HB4.out.size
          refine ⟨?_, .inl ⟨HM.out, A6, k6, N + 1, by rw [HN.out], ?_, ⟨by unfold Tr.begun; rw [HC.out]; exact htx8, HO6.out.cap⟩⟩⟩
          · exact (((HB4.out.trans (HT6.out.below (fun k e => by have := HLO.out; omega) hsz)).trans (HG7.out.below (fun k e => by omega) (Nat.le_trans hsz HT6.out.size))).trans (HT7.out.below (fun k e => by omega) (Nat.le_trans (Nat.le_trans hsz HT6.out.size) HG7.out.size)))
          · rw [HN.out]
            show _ = Ending.returned (.tuple #[.agg #[.slice A6 (N + 1) k6, .int .i64 (T.c + 1)], _, _])
            rw [HC.out]
            rfl
    · have hzb : (E == 0) = false := by simpa using hz
      have HZ := Lib.hid hz
      clear hz
      go_wp2_with (first | (refine wpList_store_tree rfl (.tmp 4) (.tmp 15) rfl rfl rfl H42.out ?_; intro w5 hb5 hg5; have HB5 := Lib.hid hb5; have HG5 := Lib.hid hg5; clear hb5 hg5) | fail)
      refine bodyPost_ret (results_tree3 rfl _ rfl _ _ rfl rfl HB5.out) rfl ?_
      exact ⟨HB2.out.grown HG5.out HB2.out.size (fun j e => by injection e with e; omega), .inr ⟨E, HZ.out, ⟨fun m => by
        rcases m.live with h | ⟨q, hq, hql, hqs⟩
        · exact HPN.out h
        · refine HZ.out ?_
          rw [HE.out, hq]
          unfold Tr.liveE
          rw [if_pos (by omega)]
          simp [hqs], fun hp => by
        have h1 := HE.out
        have h2 := HZ.out
        unfold Tr.liveE at h1
        rw [if_pos hp] at h1
        split at h1
        · omega
        · exact .inl h1⟩, rfl⟩⟩

end Go.Proofs.Ytpphhhalmccnbaa

namespace Go.Proofs.Ytpphhhalmccnbaa
set_option maxRecDepth 100000
set_option linter.unusedVariables false
open Go.RowKit Go.Shelf

/-- a row that is written: each transaction's cells -/
structure RowF (W : World) (b n : Nat) (f : Nat → Tx) : Prop where
  lt : b < W.heap.size
  c : ∀ j, j < n → W.cell? ⟨b, j * 4, none⟩ = some (.int .i64 (f j).p) ∧ W.cell? ⟨b, j * 4 + 1, none⟩ = some (.int .i64 (f j).s) ∧ W.cell? ⟨b, j * 4 + 2, none⟩ = some (.int .i64 (f j).b) ∧ W.cell? ⟨b, j * 4 + 3, none⟩ = some (.int .i64 (f j).e)
  fr : ∀ j, W.frozen? ⟨b, j, none⟩ = false
theorem RowF.turn {S : Nat → Prop} {W V : World} {b n : Nat} {f : Nat → Tx} (h : RowF W b n f) (ht : Turn S W V) (hS : ¬ S b) : RowF V b n f :=
  ⟨Nat.lt_of_lt_of_le h.lt ht.size, fun j hj => ⟨ht.cell (h.c j hj).1 hS, ht.cell (h.c j hj).2.1 hS, ht.cell (h.c j hj).2.2.1 hS, ht.cell (h.c j hj).2.2.2 hS⟩,
    fun j => (World.frozen?_of_block (a := ⟨b, j, none⟩) (ht.block b h.lt hS)).trans (h.fr j)⟩
theorem RowF.below {W V : World} {b n : Nat} {f : Nat → Tx} (h : RowF W b n f) (hb : Below W.heap.size W V) : RowF V b n f := h.turn (S := fun _ => False) (Turn.ofBelow hb) id
theorem RowF.of {W : World} {base b k n : Nat} {T : Tr} (h : OwnTx W base (.slice (some ⟨b, 0, none⟩) n k) T.l) (hn : T.l.length = n) : RowF W b n T.tx := by
  subst hn
  obtain ⟨A, c, e, ht, _⟩ := h.form
  injection e with e1 e2 e3
  subst e1
  refine ⟨(h.lt b rfl).2, fun j hj => ?_, fun j => World.ownsRow.frozenAt h j⟩
  obtain ⟨b', eb, _, h0, h1, h2, h3⟩ := ht.get hj
  injection eb with eb
  injection eb with eb
  subst eb
  exact ⟨h0, h1, h2, h3⟩
theorem RowF.tx {W : World} {b n : Nat} {T : Tr} (h : RowF W b n T.tx) (hn : T.l.length = n) : TxAt W (some ⟨b, 0, none⟩) T.l := by
  refine .inr ⟨b, rfl, h.lt, fun j x hx => ?_⟩
  have hj : j < T.l.length := (List.getElem?_eq_some_iff.1 hx).1
  have e : T.tx j = x := by unfold Tr.tx; rw [List.getD_eq_getElem?_getD, hx]; rfl
  have := h.c j (by omega)
  rw [e] at this
  exact this
/-- two cells of one row are written -/
theorem RowF.s {W : World} {b n : Nat} {f : Nat → Tx} (h : RowF W b n f) {i : Nat} (hi : i < n) (s : Int) : RowF (W.setCell ⟨b, i * 4 + 1, none⟩ (.int .i64 s)) b n (fun j => if j = i then { f j with s := s } else f j) := by
  refine ⟨by simpa [World.setCell] using h.lt, fun j hj => ?_, fun j => by rw [World.frozen?_setCell]; exact h.fr j⟩
  obtain ⟨h0, h1, h2, h3⟩ := h.c j hj
  by_cases e : j = i
  · subst e
    rw [if_pos rfl]
    exact ⟨(World.cell?_setCell_other _ _ _ _ (by intro h; injection h with _ h; omega)).trans h0, World.cell?_setCell_same' _ _ _ (by rw [h1]; rfl), (World.cell?_setCell_other _ _ _ _ (by intro h; injection h with _ h; omega)).trans h2, (World.cell?_setCell_other _ _ _ _ (by intro h; injection h with _ h; omega)).trans h3⟩
  · rw [if_neg e]
    exact ⟨(World.cell?_setCell_other _ _ _ _ (by intro h; injection h with _ h; omega)).trans h0, (World.cell?_setCell_other _ _ _ _ (by intro h; injection h with _ h; omega)).trans h1, (World.cell?_setCell_other _ _ _ _ (by intro h; injection h with _ h; omega)).trans h2, (World.cell?_setCell_other _ _ _ _ (by intro h; injection h with _ h; omega)).trans h3⟩
theorem RowF.e {W : World} {b n : Nat} {f : Nat → Tx} (h : RowF W b n f) {i : Nat} (hi : i < n) (s : Int) : RowF (W.setCell ⟨b, i * 4 + 3, none⟩ (.int .i64 s)) b n (fun j => if j = i then { f j with e := s } else f j) := by
  refine ⟨by simpa [World.setCell] using h.lt, fun j hj => ?_, fun j => by rw [World.frozen?_setCell]; exact h.fr j⟩
  obtain ⟨h0, h1, h2, h3⟩ := h.c j hj
  by_cases e : j = i
  · subst e
    rw [if_pos rfl]
    exact ⟨(World.cell?_setCell_other _ _ _ _ (by intro h; injection h with _ h; omega)).trans h0, (World.cell?_setCell_other _ _ _ _ (by intro h; injection h with _ h; omega)).trans h1, (World.cell?_setCell_other _ _ _ _ (by intro h; injection h with _ h; omega)).trans h2, World.cell?_setCell_same' _ _ _ (by rw [h3]; rfl)⟩
  · rw [if_neg e]
    exact ⟨(World.cell?_setCell_other _ _ _ _ (by intro h; injection h with _ h; omega)).trans h0, (World.cell?_setCell_other _ _ _ _ (by intro h; injection h with _ h; omega)).trans h1, (World.cell?_setCell_other _ _ _ _ (by intro h; injection h with _ h; omega)).trans h2, (World.cell?_setCell_other _ _ _ _ (by intro h; injection h with _ h; omega)).trans h3⟩
theorem RowF.congr {W : World} {b n : Nat} {f g : Nat → Tx} (h : RowF W b n f) (e : ∀ j, j < n → f j = g j) : RowF W b n g := ⟨h.lt, fun j hj => by rw [← e j hj]; exact h.c j hj, h.fr⟩

theorem wp_store_int {o : Oper} {a : Act} {w : World} {K : Act → World → Prop} {Q : Exit → Act → World → Prop} (x y : Operand) (ho : o.op = .store 3 x y) (b off : Nat) (v : Int) (hx : a.eval x = .pointer (some ⟨b, off, none⟩)) (hy : a.eval y = .int .i64 v)
    {u : Value} (hc : w.cell? ⟨b, off, none⟩ = some u) (hf : w.frozen? ⟨b, off, none⟩ = false) (h : K (a.put o.dst undef) (w.setCell ⟨b, off, none⟩ (.int .i64 v))) : o.wp Try.prog a w K Q := by
  unfold Oper.wp execOp
  simp only [ho, hx, hy]
  go_simp
  exact h

/-- what Commit answers -/
def CommitOut (T : Tr) (p : Int) (w : World) (e : Ending) (w' : World) : Prop :=
  Below w.heap.size w w' ∧ ((∃ i : Nat, p = i ∧ MayDo T i ∧ ∃ A k n, n = T.l.length ∧ e = .returned (.tuple #[.agg #[.slice A n k, .int .i64 (T.done i).c], .int .i64 0]) ∧ TxAt w' A (T.done i).l ∧ n ≤ k) ∨
    (∃ E : Int, E ≠ 0 ∧ (∀ i : Nat, p = i → ¬ MayDo T i) ∧ e = .returned (.tuple #[.agg #[.slice none 0 0, .int .i64 0], .int .i64 E])))

theorem take_mem {l : List Nat} {m x : Nat} (h : x ∈ l.take (m + 1)) (hm : m < l.length) : x ∈ l.take m ∨ x = l[m] := by
  rw [List.take_add_one, List.getElem?_eq_getElem hm] at h
  rcases List.mem_append.1 h with h | h
  · exact .inl h
  · exact .inr (by simpa using h)
theorem kin_mem {T : Tr} {of n x : Nat} (h : x ∈ T.kin of n) : x < n ∧ T.inn of x := by
  unfold Tr.kin at h
  simp at h
  exact h
theorem mem_kin {T : Tr} {of n x : Nat} (h : x < n) (hi : T.inn of x) : x ∈ T.kin of n := by
  unfold Tr.kin
  simp [h, hi]

end Go.Proofs.Ytpphhhalmccnbaa

namespace Go.Proofs.Ytpphhhalmccnbaa
set_option maxRecDepth 100000
set_option linter.unusedVariables false
open Go.RowKit Go.Shelf

/-- the row when those of l that were not Undone are -/
def mixF (T : Tr) (c : Int) (l : List Nat) (y : Nat) : Tx := if y ∈ l ∧ (T.tx y).s ≠ 3 then { T.tx y with s := 3, e := c } else T.tx y
theorem mixF_skip {T : Tr} {c : Int} {l : List Nat} {x y : Nat} (h : (T.tx x).s = 3) : mixF T c (l ++ [x]) y = mixF T c l y := by
  unfold mixF
  by_cases e : y = x
  · subst e; rw [if_neg (fun h' => h'.2 h), if_neg (fun h' => h'.2 h)]
  · simp [e]
theorem mixF_add {T : Tr} {c : Int} {l : List Nat} {x y : Nat} (h : (T.tx x).s ≠ 3) (hx : x ∉ l) : (if y = x then { (if y = x then { mixF T c l y with s := 3 } else mixF T c l y) with e := c } else (if y = x then { mixF T c l y with s := 3 } else mixF T c l y)) = mixF T c (l ++ [x]) y := by
  unfold mixF
  by_cases e : y = x
  · subst e
    rw [if_pos rfl, if_pos rfl, if_neg (fun h' => hx h'.1), if_pos ⟨by simp, h⟩]
  · rw [if_neg e, if_neg e]
    simp [e]
theorem mixF_at {T : Tr} {c : Int} {l : List Nat} {x : Nat} (hx : x ∉ l) : mixF T c l x = T.tx x := by
  unfold mixF
  rw [if_neg (fun h => hx h.1)]
/-- those that an Abort undoes -/
def Tr.gone (T : Tr) (i n : Nat) : List Nat := (T.kin i n).filter (fun y => decide ((T.tx y).s ≠ 3))
theorem kin_lt (T : Tr) (i n : Nat) : (T.kin i n).Pairwise (· < ·) := List.Pairwise.filter _ List.pairwise_lt_range
theorem not_take {l : List Nat} (hp : l.Pairwise (· < ·)) {j x : Nat} (hx : l[j]? = some x) : x ∉ l.take j := by
  intro h
  obtain ⟨k, hk, hkx⟩ := List.mem_iff_getElem.1 h
  rw [List.getElem_take] at hkx
  obtain ⟨hj, e⟩ := List.getElem?_eq_some_iff.1 hx
  have hkj : k < j := by simp at hk; omega
  have := List.pairwise_iff_getElem.1 hp k j (by omega) hj hkj
  rw [hkx, e] at this
  omega

/-- what Abort answers -/
def AbortOut (T : Tr) (p : Int) (w : World) (e : Ending) (w' : World) : Prop :=
  Below w.heap.size w w' ∧ ((∃ i : Nat, p = i ∧ i < T.l.length ∧ (T.tx i).s = 1 ∧ ∃ A k n B kb m, n = T.l.length ∧ m = (T.gone i T.l.length).length ∧ e = .returned (.tuple #[.agg #[.slice A n k, .int .i64 (T.undone i).c], .slice B m kb, .int .i64 0]) ∧ TxAt w' A (T.undone i).l ∧ IdAt w' B (T.gone i T.l.length) ∧ n ≤ k) ∨
    (∃ E : Int, E ≠ 0 ∧ (∀ i : Nat, p = i → i < T.l.length → (T.tx i).s ≠ 1) ∧ e = .returned (.tuple #[.agg #[.slice none 0 0, .int .i64 0], .slice none 0 0, .int .i64 E])))

end Go.Proofs.Ytpphhhalmccnbaa

namespace Go.Proofs.Ytpphhhalmccnbaa
set_option maxRecDepth 100000
set_option linter.unusedVariables false
open Go.RowKit Go.Shelf

theorem stands_nat {T : Tr} {i : Nat} (hi : i < T.l.length) (of : Nat) : T.stands (i : Int) (of : Int) = decide (T.inn of i) := by
  unfold Tr.stands
  rw [Tr.way_nat hi, Bool.eq_iff_iff, List.any_eq_true, decide_eq_true_eq]
  constructor
  · rintro ⟨x, hx, he⟩
    have e : x = of := by have := of_decide_eq_true he; omega
    rw [← e]; exact hx
  · exact fun h => ⟨of, h, by simp⟩
theorem stands_step {T : Tr} (hG : Good T) {i : Nat} (hi : i < T.l.length) (of : Nat) : T.stands (i : Int) (of : Int) = (decide (of = i) || T.stands (T.tx i).p (of : Int)) := by
  unfold Tr.stands
  rw [way_step hG hi, List.any_cons]
  congr 1
  by_cases h : of = i
  · subst h; simp
  · simp [h]; omega
theorem stands_none' {T : Tr} {p : Int} (hp : p < 0) (of : Int) : T.stands p of = false := by
  unfold Tr.stands
  rw [Tr.way_none (.inl hp)]; rfl
theorem top_step {T : Tr} (hG : Good T) {i : Nat} (hi : i < T.l.length) : T.top (i : Int) = if (T.tx i).p = -1 then (i : Int) else T.top (T.tx i).p := by
  unfold Tr.top
  rw [way_step hG hi, List.find?_cons]
  by_cases h : (T.tx i).p = -1
  · simp [h]
  · simp [h]
theorem top_in {T : Tr} (hG : Good T) (i : Nat) (hi : i < T.l.length) : ∃ t : Nat, T.top (i : Int) = t ∧ t < T.l.length ∧ (T.tx t).p = -1 ∧ T.inn t i := by
  induction i using Nat.strongRecOn with
  | ind i ih =>
    rw [top_step hG hi]
    by_cases h : (T.tx i).p = -1
    · rw [if_pos h]
      exact ⟨i, rfl, hi, h, wayN_self _ _⟩
    · rw [if_neg h]
      have hp := hG.par i hi
      obtain ⟨j, hj⟩ : ∃ j : Nat, (T.tx i).p = j := ⟨(T.tx i).p.toNat, by omega⟩
      obtain ⟨t, h1, h2, h3, h4⟩ := ih j (by omega) (by omega)
      refine ⟨t, by rw [hj]; exact h1, h2, h3, ?_⟩
      unfold Tr.inn at h4 ⊢
      rw [wayN_up (f := T.par) (j := j) hj (by omega)]
      exact List.mem_cons_of_mem _ h4
theorem top_same {T : Tr} (hG : Good T) (i of : Nat) (hi : i < T.l.length) (h : T.inn of i) : T.top (of : Int) = T.top (i : Int) := by
  induction i using Nat.strongRecOn with
  | ind i ih =>
    by_cases e : of = i
    · rw [e]
    · unfold Tr.inn at h
      rw [wayN_eq] at h
      rcases List.mem_cons.1 h with h | h
      · exact absurd h e
      · split at h
        · next hc =>
          have hp : T.par i = (T.tx i).p := rfl
          obtain ⟨j, hj⟩ : ∃ j : Nat, (T.tx i).p = j := ⟨(T.tx i).p.toNat, by omega⟩
          rw [hp, hj] at h
          rw [top_step hG hi, if_neg (by omega), hj]
          exact ih j (by omega) (by omega) (by have h2 : of ∈ wayN T.par j := (by simpa using h); exact h2)
        · simp at h
theorem way_empty {T : Tr} (h : T.l.length = 0) (a : Int) : T.way a = [] := Tr.way_none (by omega)
theorem top_empty {T : Tr} (h : T.l.length = 0) (a : Int) : T.top a = -1 := by unfold Tr.top; rw [way_empty h]; rfl

/-- how many of a list lie below j -/
def cnt (l : List Nat) (j : Nat) : Nat := (l.filter (fun x => decide (x < j))).length
theorem cnt_zero (l : List Nat) : cnt l 0 = 0 := by unfold cnt; simp
theorem cnt_all {l : List Nat} {n : Nat} (h : ∀ x ∈ l, x < n) : cnt l n = l.length := by
  unfold cnt
  rw [List.filter_eq_self.2 (fun x hx => by simpa using h x hx)]
theorem cnt_succ : ∀ {l : List Nat} {j : Nat}, l.Nodup → cnt l (j + 1) = cnt l j + (if j ∈ l then 1 else 0)
  | [], j, _ => by simp [cnt]
  | x :: l, j, h => by
    have ih := cnt_succ (l := l) (j := j) (List.nodup_cons.1 h).2
    unfold cnt at ih ⊢
    have hx := (List.nodup_cons.1 h).1
    by_cases h1 : x < j
    · have h2 : x < j + 1 := by omega
      have h3 : ¬ j = x := by omega
      simp only [List.filter_cons, decide_eq_true h1, decide_eq_true h2, if_true, List.length_cons, List.mem_cons, h3, false_or]
      omega
    · by_cases h2 : x = j
      · subst h2
        simp only [List.filter_cons, decide_eq_false h1, List.mem_cons, true_or, if_true, decide_eq_true (Nat.lt_succ_self x), List.length_cons]
        rw [if_neg hx] at ih
        simp only [Bool.false_eq_true, if_false]
        omega
      · have h3 : ¬ x < j + 1 := by omega
        have h4 : ¬ j = x := fun e => h2 e.symm
        simp only [List.filter_cons, decide_eq_false h1, decide_eq_false h3, List.mem_cons, h4, false_or]
        simpa using ih

end Go.Proofs.Ytpphhhalmccnbaa

namespace Go.Proofs.Ytpphhhalmccnbaa
set_option maxRecDepth 100000
set_option linter.unusedVariables false
open Go.RowKit Go.Shelf

theorem undone_in {T : Tr} {i j : Nat} (hj : j < T.l.length) (h : T.inn i j) : ((T.undone i).tx j).s = 3 := by
  unfold Tr.undone
  by_cases h3 : (T.tx j).s = 3
  · rw [tx_out hj (fun h' => h'.2 h3)]; exact h3
  · exact (tx_in (X := fun y => T.inn i y ∧ (T.tx y).s ≠ 3) hj ⟨h, h3⟩).1
theorem undone_out {T : Tr} {i j : Nat} (hj : j < T.l.length) (h : ¬ T.inn i j) : (T.undone i).tx j = T.tx j := by
  unfold Tr.undone
  exact tx_out hj (fun h' => h h'.1)
theorem done_at {T : Tr} {i : Nat} (hi : i < T.l.length) : ((T.done i).tx i).s = 2 ∧ ((T.done i).tx i).e = T.c + 1 := tx_in (X := fun y => y = i) hi rfl
theorem done_out {T : Tr} {i j : Nat} (hj : j < T.l.length) (h : j ≠ i) : (T.done i).tx j = T.tx j := by
  unfold Tr.done
  exact tx_out hj h
theorem gone_succ (T : Tr) (i j : Nat) : (T.gone i (j + 1)).length = if T.inn i j ∧ (T.tx j).s ≠ 3 then (T.gone i j).length + 1 else (T.gone i j).length := by
  unfold Tr.gone
  rw [kin_succ]
  by_cases h : T.inn i j
  · rw [if_pos h, List.filter_append, List.length_append]
    by_cases h3 : (T.tx j).s = 3
    · rw [if_neg (fun h' => h'.2 h3)]; simp [h3]
    · rw [if_pos ⟨h, h3⟩]; simp [h3]
  · rw [if_neg h, if_neg (fun h' => h h'.1)]
theorem gone_len (T : Tr) (i j : Nat) : (T.gone i j).length ≤ j := by
  unfold Tr.gone
  exact Nat.le_trans (List.length_filter_le _ _) (kin_len T i j)

end Go.Proofs.Ytpphhhalmccnbaa
