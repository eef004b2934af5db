/-
  One is done.
-/
import Derived.Test.YtohnfjneghbceaaKin
import Derived.Test.YtohnfjneghbceaaBegin
namespace Go.Proofs.Ytohnfjneghbceaa
set_option maxRecDepth 100000
set_option linter.unusedVariables false
open Go.RowKit Go.Shelf

/-- a row that is written: each transaction's cells -/
structure RowF (W : World) (b n : Nat) (f : Nat → Tx) : Prop where
  lt : b < W.heap.size
  c : ∀ j, j < n → W.cell? ⟨b, j * 4, none⟩ = some (.int .i64 (f j).p) ∧ W.cell? ⟨b, j * 4 + 1, none⟩ = some (.int .i64 (f j).s) ∧ W.cell? ⟨b, j * 4 + 2, none⟩ = some (.int .i64 (f j).b) ∧ W.cell? ⟨b, j * 4 + 3, none⟩ = some (.int .i64 (f j).e)
  fr : ∀ j, W.frozen? ⟨b, j, none⟩ = false
theorem RowF.turn {S : Nat → Prop} {W V : World} {b n : Nat} {f : Nat → Tx} (h : RowF W b n f) (ht : Turn S W V) (hS : ¬ S b) : RowF V b n f :=
  ⟨Nat.lt_of_lt_of_le h.lt ht.size, fun j hj => ⟨ht.cell (h.c j hj).1 hS, ht.cell (h.c j hj).2.1 hS, ht.cell (h.c j hj).2.2.1 hS, ht.cell (h.c j hj).2.2.2 hS⟩,
    fun j => (World.frozen?_of_block (a := ⟨b, j, none⟩) (ht.block b h.lt hS)).trans (h.fr j)⟩
theorem RowF.below {W V : World} {b n : Nat} {f : Nat → Tx} (h : RowF W b n f) (hb : Below W.heap.size W V) : RowF V b n f := h.turn (S := fun _ => False) (Turn.ofBelow hb) id
theorem RowF.of {W : World} {base b k n : Nat} {T : Tr} (h : OwnTx W base (.slice (some ⟨b, 0, none⟩) n k) T.l) (hn : T.l.length = n) : RowF W b n T.tx := by
  subst hn
  obtain ⟨A, c, e, ht, _⟩ := h.form
  injection e with e1 e2 e3
  subst e1
  refine ⟨(h.lt b rfl).2, fun j hj => ?_, fun j => World.ownsRow.frozenAt h j⟩
  obtain ⟨b', eb, _, h0, h1, h2, h3⟩ := ht.get hj
  injection eb with eb
  injection eb with eb
  subst eb
  exact ⟨h0, h1, h2, h3⟩
theorem RowF.tx {W : World} {b n : Nat} {T : Tr} (h : RowF W b n T.tx) (hn : T.l.length = n) : TxAt W (some ⟨b, 0, none⟩) T.l := by
  refine .inr ⟨b, rfl, h.lt, fun j x hx => ?_⟩
  have hj : j < T.l.length := (List.getElem?_eq_some_iff.1 hx).1
  have e : T.tx j = x := by unfold Tr.tx; rw [List.getD_eq_getElem?_getD, hx]; rfl
  have := h.c j (by omega)
  rw [e] at this
  exact this
/-- two cells of one row are written -/
theorem RowF.s {W : World} {b n : Nat} {f : Nat → Tx} (h : RowF W b n f) {i : Nat} (hi : i < n) (s : Int) : RowF (W.setCell ⟨b, i * 4 + 1, none⟩ (.int .i64 s)) b n (fun j => if j = i then { f j with s := s } else f j) := by
  refine ⟨by simpa [World.setCell] using h.lt, fun j hj => ?_, fun j => by rw [World.frozen?_setCell]; exact h.fr j⟩
  obtain ⟨h0, h1, h2, h3⟩ := h.c j hj
  by_cases e : j = i
  · subst e
    rw [if_pos rfl]
    exact ⟨(World.cell?_setCell_other _ _ _ _ (by intro h; injection h with _ h; omega)).trans h0, World.cell?_setCell_same' _ _ _ (by rw [h1]; rfl), (World.cell?_setCell_other _ _ _ _ (by intro h; injection h with _ h; omega)).trans h2, (World.cell?_setCell_other _ _ _ _ (by intro h; injection h with _ h; omega)).trans h3⟩
  · rw [if_neg e]
    exact ⟨(World.cell?_setCell_other _ _ _ _ (by intro h; injection h with _ h; omega)).trans h0, (World.cell?_setCell_other _ _ _ _ (by intro h; injection h with _ h; omega)).trans h1, (World.cell?_setCell_other _ _ _ _ (by intro h; injection h with _ h; omega)).trans h2, (World.cell?_setCell_other _ _ _ _ (by intro h; injection h with _ h; omega)).trans h3⟩
theorem RowF.e {W : World} {b n : Nat} {f : Nat → Tx} (h : RowF W b n f) {i : Nat} (hi : i < n) (s : Int) : RowF (W.setCell ⟨b, i * 4 + 3, none⟩ (.int .i64 s)) b n (fun j => if j = i then { f j with e := s } else f j) := by
  refine ⟨by simpa [World.setCell] using h.lt, fun j hj => ?_, fun j => by rw [World.frozen?_setCell]; exact h.fr j⟩
  obtain ⟨h0, h1, h2, h3⟩ := h.c j hj
  by_cases e : j = i
  · subst e
    rw [if_pos rfl]
    exact ⟨(World.cell?_setCell_other _ _ _ _ (by intro h; injection h with _ h; omega)).trans h0, (World.cell?_setCell_other _ _ _ _ (by intro h; injection h with _ h; omega)).trans h1, (World.cell?_setCell_other _ _ _ _ (by intro h; injection h with _ h; omega)).trans h2, World.cell?_setCell_same' _ _ _ (by rw [h3]; rfl)⟩
  · rw [if_neg e]
    exact ⟨(World.cell?_setCell_other _ _ _ _ (by intro h; injection h with _ h; omega)).trans h0, (World.cell?_setCell_other _ _ _ _ (by intro h; injection h with _ h; omega)).trans h1, (World.cell?_setCell_other _ _ _ _ (by intro h; injection h with _ h; omega)).trans h2, (World.cell?_setCell_other _ _ _ _ (by intro h; injection h with _ h; omega)).trans h3⟩
theorem RowF.congr {W : World} {b n : Nat} {f g : Nat → Tx} (h : RowF W b n f) (e : ∀ j, j < n → f j = g j) : RowF W b n g := ⟨h.lt, fun j hj => by rw [← e j hj]; exact h.c j hj, h.fr⟩

theorem wp_store_int {o : Oper} {a : Act} {w : World} {K : Act → World → Prop} {Q : Exit → Act → World → Prop} (x y : Operand) (ho : o.op = .store 3 x y) (b off : Nat) (v : Int) (hx : a.eval x = .pointer (some ⟨b, off, none⟩)) (hy : a.eval y = .int .i64 v)
    {u : Value} (hc : w.cell? ⟨b, off, none⟩ = some u) (hf : w.frozen? ⟨b, off, none⟩ = false) (h : K (a.put o.dst undef) (w.setCell ⟨b, off, none⟩ (.int .i64 v))) : o.wp Try.prog a w K Q := by
  unfold Oper.wp execOp
  simp only [ho, hx, hy]
  go_simp
  exact h

/-- what Commit answers -/
def CommitOut (T : Tr) (p : Int) (w : World) (e : Ending) (w' : World) : Prop :=
  Below w.heap.size w w' ∧ ((∃ i : Nat, p = i ∧ MayDo T i ∧ ∃ A k n, n = T.l.length ∧ e = .returned (.tuple #[.agg #[.slice A n k, .int .i64 (T.done i).c], .int .i64 0]) ∧ TxAt w' A (T.done i).l) ∨
    (∃ E : Int, E ≠ 0 ∧ (∀ i : Nat, p = i → ¬ MayDo T i) ∧ e = .returned (.tuple #[.agg #[.slice none 0 0, .int .i64 0], .int .i64 E])))

theorem take_mem {l : List Nat} {m x : Nat} (h : x ∈ l.take (m + 1)) (hm : m < l.length) : x ∈ l.take m ∨ x = l[m] := by
  rw [List.take_add_one, List.getElem?_eq_getElem hm] at h
  rcases List.mem_append.1 h with h | h
  · exact .inl h
  · exact .inr (by simpa using h)
theorem kin_mem {T : Tr} {of n x : Nat} (h : x ∈ T.kin of n) : x < n ∧ T.inn of x := by
  unfold Tr.kin at h
  simp at h
  exact h
theorem mem_kin {T : Tr} {of n x : Nat} (h : x < n) (hi : T.inn of x) : x ∈ T.kin of n := by
  unfold Tr.kin
  simp [h, hi]

set_option maxHeartbeats 4000000 in
theorem commit_any (A : Option Addr) (T : Tr) (N cap : Nat) (c p : Int) (hN : T.l.length = N) (hG : Good T) (hc : T.c = c) (hcb : c ≤ 900) (w : World) (hT : TxAt w A T.l) :
    Calls Try.prog 21 #[.agg #[.slice A N cap, .int .i64 c], .int .i64 p] w (CommitOut T p w) := by
  have hn64 : N ≤ 64 := by have := hG.n; omega
  have hc0 : 0 ≤ c := by have := hG.c0; omega
  obtain ⟨wx, hw0⟩ : ∃ wx, wx = w.alloc (.cells #[.slice A N cap, .int .i64 c] 26) := ⟨_, rfl⟩
  obtain ⟨w1, hw1⟩ : ∃ wy, wy = wx.alloc (.cells #[.slice none 0 0, .int .i64 0] 26) := ⟨_, rfl⟩
  have b1 : TB w1 w.heap.size A N cap c := by rw [hw1, hw0]; exact (TB.new w _ _ _ _).below (below_new _ _)
  have b2 : TB w1 (w.heap.size + 1) none 0 0 0 := by
    have h := TB.new wx none 0 0 0
    rw [show wx.heap.size = w.heap.size + 1 from by rw [hw0]; simp] at h
    rw [hw1]; exact h
  have hb : Below w.heap.size w w1 := by rw [hw1, hw0]; exact below_two (below_new w _) (below_new _ _)
  have HTX := Lib.hid (hT.below hb)
  have HG := Lib.hid hG
  have HN := Lib.hid hN
  have HC := Lib.hid hc
  have HB := Lib.hid hb
  have H2 := Lib.hid b1
  have H4 := Lib.hid b2
  clear hG hN hc hb b1 b2 hT
  go_enter Try.func21, Try.ntmps21
  go_upto_region 1 with fail
  rw [← hw0, ← hw1]
  clear hw0 hw1 wx
  have hlive := live_any A T N cap c p HN.out hn64 w1 HTX.out
  obtain ⟨E, hE⟩ : ∃ E, E = T.liveE p := ⟨_, rfl⟩
  rw [← hE] at hlive
  have HE := Lib.hid hE
  have HLI := Lib.hid hlive
  have c0 := H2.out.c0
  have c1 := H2.out.c1
  clear hE hlive
  go_wp2_with fail
  refine HLI.out.mono ?_
  rintro e w2 ⟨rfl, hb2⟩
  have HB2 := Lib.hid (HB.out.trans (hb2.mono HB.out.size))
  have HTX2 := Lib.hid (HTX.out.below hb2)
  have H22 := Lib.hid (H2.out.below hb2)
  have H42 := Lib.hid (H4.out.below hb2)
  clear hb2 c0 c1 HLI HB HTX H2 H4
  by_cases hz : E = 0
  · have hzb : (E == 0) = true := by simpa using hz
    obtain ⟨i, hpi, hiN, HSI⟩ : ∃ i : Nat, p = i ∧ i < N ∧ Hid ((T.tx i).s = 1) := by
      have h1 := HE.out
      rw [hz] at h1
      unfold Tr.liveE at h1
      split at h1
      · next h2 =>
        split at h1
        · next h3 => exact ⟨p.toNat, by omega, by have := HN.out; omega, h3⟩
        · omega
      · omega
    subst hpi
    clear hz HE
    have hkin := innOf_any A T N cap c i hiN HN.out HG.out w2 HTX2.out
    have HKI := Lib.hid hkin
    have c0 := H22.out.c0
    have c1 := H22.out.c1
    clear hkin
    go_wp2_with fail
    refine HKI.out.mono ?_
    rintro e w3 ⟨Ak, kk, m, rfl, hm, hid3, hb3, _⟩
    have HM := Lib.hid hm
    have HID := Lib.hid hid3
    have HB3 := Lib.hid (HB2.out.trans (hb3.mono HB2.out.size))
    have HTX3 := Lib.hid (HTX2.out.below hb3)
    have H23 := Lib.hid (H22.out.below hb3)
    have H43 := Lib.hid (H42.out.below hb3)
    have hm64 : m ≤ 64 := by rw [hm]; have := kin_len T i N; omega
    clear hb3 c0 c1 HKI hm hid3 HB2 HTX2 H22 H42
    have c0 := H23.out.c0
    have c1 := H23.out.c1
    go_wp2_with fail
    go_loopw [20] (fun iv wr => ∃ j : Nat, iv = .int .i64 (j : Int) ∧ j ≤ m ∧ wr = w3 ∧ Hid (∀ x ∈ (T.kin i N).take j, x ≠ i → (T.tx x).s ≠ 1)) (fun iv _ => m - (intOf iv).toNat)
    case atStart => exact ⟨0, rfl, Nat.zero_le _, rfl, by intro x hx; simp at hx⟩
    case round =>
      obtain ⟨j, rfl, hj, hwr, hall⟩ := hrel
      replace hwr := hwr.symm
      subst hwr
      rcases Nat.lt_or_ge j m with hlt | hge
      · obtain ⟨x, hx⟩ : ∃ x, (T.kin i N)[j]? = some x := ⟨_, List.getElem?_eq_getElem (by rw [← HM.out]; exact hlt)⟩
        obtain ⟨b, hAk, hb, ck⟩ := HID.out.get2 hx
        have hxk := kin_mem (T := T) (of := i) (n := N) (x := x) (List.mem_of_getElem? hx)
        have hxN := hxk.1
        have HXK := Lib.hid hxk
        have HX := Lib.hid hx
        obtain ⟨b', hAe, hb', _, p1, _, _⟩ := HTX3.out.get (i := x) (by rw [HN.out]; exact hxN)
        obtain ⟨q, hq⟩ : ∃ q, q = (T.tx x).s := ⟨_, rfl⟩
        rw [← hq] at p1
        have HQ := Lib.hid hq
        subst hAk
        subst hAe
        clear hq hx hxk
        have hnext : ((T.kin i N).take (j + 1)) = (T.kin i N).take j ++ [x] := by
          rw [List.take_add_one, HX.out]; rfl
        have HNE := Lib.hid hnext
        clear hnext
        by_cases hxi : x = i
        · have HXI := Lib.hid hxi
          subst hxi
          go_wp2
          go_roundw
          case rel => exact ⟨j + 1, by simp, by omega, by trivial, by rw [HNE.out]; intro y hy hyi; rcases List.mem_append.1 hy with h | h; exact hall.out y h hyi; exact absurd (by simpa using h) hyi⟩
          case measure => simp [intOf]; omega
        · have hxb : ((x : Int) != (i : Int)) = true := by simp; omega
          have hxc : ¬ (x : Int) = (i : Int) := by omega
          have HXI := Lib.hid hxi
          clear hxi
          by_cases hq1 : q = 1
          · have hqb : (q == 1) = true := by simpa using hq1
            have HQ1 := Lib.hid hq1
            clear hq1
            go_wp2_with (first | (refine wpList_store_tree rfl (.tmp 4) (.tmp 36) rfl rfl rfl H43.out ?_; intro w5 hb5 hg5; have HB5 := Lib.hid hb5; have HG5 := Lib.hid hg5; clear hb5 hg5) | fail)
            refine bodyPost_ret (results_tree2 rfl _ rfl _ rfl HB5.out) rfl ?_
            exact ⟨HB3.out.grown HG5.out HB3.out.size (fun j e => by injection e with e; omega), .inr ⟨7, by decide, (fun i' e m => m.alone x (by rw [HN.out]; exact hxN) (by rw [show i' = i by omega]; exact HXK.out.2) (by rw [show i' = i by omega]; exact HXI.out) (by rw [← HQ.out]; exact HQ1.out)), rfl⟩⟩
          · have hqb : (q == 1) = false := by simpa using hq1
            have HQ1 := Lib.hid hq1
            clear hq1
            go_wp2
            go_roundw
            case rel => exact ⟨j + 1, by simp, by omega, by trivial, by rw [HNE.out]; intro y hy hyi; rcases List.mem_append.1 hy with h | h; exact hall.out y h hyi; (have e : y = x := by simpa using h); rw [e, ← HQ.out]; exact HQ1.out⟩
            case measure => simp [intOf]; omega
      · obtain rfl : j = m := by omega
        have HMD := Lib.hid (show MayDo T i from ⟨by rw [HN.out]; exact hiN, HSI.out, fun x hx hin hxi => hall.out x (by rw [List.take_of_length_le (by rw [← HM.out]; exact Nat.le_refl _)]; exact mem_kin (by rw [← HN.out]; exact hx) hin) hxi⟩)
        have hnext := next_any A T N cap c HN.out hn64 ⟨hc0, by omega⟩ w3 HTX3.out
        have HNX := Lib.hid hnext
        clear hnext hall
        go_wp2_with fail
        refine HNX.out.mono ?_
        rintro e w4 ⟨A', k', rfl, hown, hb4⟩
        have HLO := Lib.hid (show w.heap.size + 2 ≤ w3.heap.size from H43.out.lt)
        obtain ⟨b, hAb, hbl⟩ : ∃ b, A' = some ⟨b, 0, none⟩ ∧ w3.heap.size ≤ b := by
          obtain ⟨A9, c9, e9, ht9, hb9⟩ := hown.form
          injection e9 with e9 _ _
          subst e9
          obtain ⟨b, e, _⟩ := ht9.get (i := i) (by rw [HN.out]; exact hiN)
          exact ⟨b, e, hb9 b 0 e⟩
        subst hAb
        have HBL := Lib.hid hbl
        have HRF := Lib.hid (RowF.of hown HN.out)
        have HB4 := Lib.hid (HB3.out.trans (hb4.mono HB3.out.size))
        have H24 := Lib.hid (H23.out.below hb4)
        have H44 := Lib.hid (H43.out.below hb4)
        clear hb4 hown c0 c1 HNX H23 H43 HB3 hbl
        go_upto_region 11 with (first | (refine wpList_store_tree rfl (.tmp 2) (.tmp 39) rfl rfl rfl H24.out ?_; intro w5 hb5 hg5; have HB5 := Lib.hid hb5; have HG5 := Lib.hid hg5; clear hb5 hg5) | fail)
        have HT5 := Lib.hid (show Turn (fun k => k = w.heap.size) w4 w5 from (Turn.refl _ w4).grown HG5.out (fun j e => by injection e with e; exact .inl e.symm))
        have HR5 := Lib.hid (HRF.out.turn HT5.out (by have := HLO.out; have := HBL.out; omega))
        have k0 := fun (V : World) (h : Turn (fun k => k = b) w5 V) => (HB5.out.turn h (by have := HLO.out; have := HBL.out; omega)).c0
        have k1 := fun (V : World) (h : Turn (fun k => k = b) w5 V) => (HB5.out.turn h (by have := HLO.out; have := HBL.out; omega)).c1
        have HRW := HR5.out.below ((Below.refl w5.heap.size w5).drew)
        refine wp_region_turn (X := (fun k => k = b)) (by kernel_rfl) ?_
        have hS : Turn (fun k => k = b) w5 (World.drew w5) := (Turn.refl _ _).drew
        refine wpAnyH_take (i := 0) (oi := ⟨some 40, _, _, _, _, _⟩) (v := ?_) rfl (by kernel_rfl) (by kernel_rfl) (by kernel_rfl) (fun _ _ _ h => h) (Or.inl ⟨by rfl, ?_⟩) hS ?_
        rotate_left
        · intro W hW; go_simp; with_reducible rfl
        try simp only [Act.put, List.setIfInBounds_toArray, List.set_cons_zero, List.set_cons_succ]
        refine wpAnyH_take (i := 1) (oi := ⟨some 41, _, _, _, _, _⟩) (v := ?_) rfl (by kernel_rfl) (by kernel_rfl) (by kernel_rfl) (fun _ _ _ h => h) (Or.inl ⟨by rfl, ?_⟩) hS ?_
        rotate_left
        · intro W hW; go_simp; with_reducible rfl
        try simp only [Act.put, List.setIfInBounds_toArray, List.set_cons_zero, List.set_cons_succ]
        refine wpAnyH_take (i := 2) (oi := ⟨some 42, _, _, _, _, _⟩) (v := ?_) rfl (by kernel_rfl) (by kernel_rfl) (by kernel_rfl) (fun _ _ _ h => h) (Or.inl ⟨by rfl, ?_⟩) hS ?_
        rotate_left
        · intro W hW; go_simp; with_reducible rfl
        try simp only [Act.put, List.setIfInBounds_toArray, List.set_cons_zero, List.set_cons_succ]
        refine wpAnyH_take (i := 3) (oi := ⟨some 43, _, _, _, _, _⟩) (v := ?_) rfl (by kernel_rfl) (by kernel_rfl) (by kernel_rfl) (fun _ _ _ h => h) (Or.inl ⟨by rfl, ?_⟩) hS ?_
        rotate_left
        · intro W hW; go_simp; with_reducible rfl
        try simp only [Act.put, List.setIfInBounds_toArray, List.set_cons_zero, List.set_cons_succ]
        refine wpAnyH_take (i := 4) (oi := ⟨some 44, _, _, _, _, _⟩) (v := ?_) rfl (by kernel_rfl) (by kernel_rfl) (by kernel_rfl) (fun _ _ _ h => h) (Or.inl ⟨by rfl, ?_⟩) hS ?_
        rotate_left
        · intro W hW; go_simp; with_reducible rfl
        try simp only [Act.put, List.setIfInBounds_toArray, List.set_cons_zero, List.set_cons_succ]
        refine wpAnyH_take (i := 5) (oi := ⟨some 45, _, _, _, _, _⟩) (v := ?_) rfl (by kernel_rfl) (by kernel_rfl) (by kernel_rfl) (fun _ _ _ h => h) (Or.inl ⟨by rfl, ?_⟩) hS ?_
        rotate_left
        · intro W hW; go_simp; with_reducible rfl
        try simp only [Act.put, List.setIfInBounds_toArray, List.set_cons_zero, List.set_cons_succ]
        refine wpAnyH_take (i := 6) (oi := ⟨some 46, _, _, _, _, _⟩) (v := ?_) rfl (by kernel_rfl) (by kernel_rfl) (by kernel_rfl) (fun _ _ _ h => h) (Or.inl ⟨by rfl, ?_⟩) hS ?_
        rotate_left
        · intro W hW; go_simp; with_reducible rfl
        try simp only [Act.put, List.setIfInBounds_toArray, List.set_cons_zero, List.set_cons_succ]
        refine wpAnyH_take (i := 7) (oi := ⟨some 47, _, _, _, _, _⟩) (v := ?_) rfl (by kernel_rfl) (by kernel_rfl) (by kernel_rfl) (fun _ _ _ h => h) (Or.inl ⟨by rfl, ?_⟩) hS ?_
        rotate_left
        · intro W hW; go_simp; with_reducible rfl
        try simp only [Act.put, List.setIfInBounds_toArray, List.set_cons_zero, List.set_cons_succ]
        refine wpAnyH_take (i := 8) (oi := ⟨some 48, _, _, _, _, _⟩) (v := ?_) rfl (by kernel_rfl) (by kernel_rfl) (by kernel_rfl) (fun _ _ _ h => h) (Or.inl ⟨by rfl, ?_⟩) hS ?_
        rotate_left
        · intro W hW; go_simp; with_reducible rfl
        try simp only [Act.put, List.setIfInBounds_toArray, List.set_cons_zero, List.set_cons_succ]
        refine wpAnyH_take (i := 9) (oi := ⟨some 49, _, _, _, _, _⟩) (v := ?_) rfl (by kernel_rfl) (by kernel_rfl) (by kernel_rfl) (fun _ _ _ h => h) (Or.inl ⟨by rfl, ?_⟩) hS ?_
        rotate_left
        · intro W hW; go_simp; with_reducible rfl
        try simp only [Act.put, List.setIfInBounds_toArray, List.set_cons_zero, List.set_cons_succ]
        refine wpAnyH_ready (rs := [10]) (by kernel_rfl) (by simp) ?_
        refine AllReadyH.cons (o := ⟨none, _, _, _, _, _⟩) rfl (fun Kr hKr => ?_) AllReadyH.nil
        -- operation 10: a step
        rw [if_pos (by kernel_rfl)]
        refine wp_store_int (.tmp 49) (.const (.int .i64 2)) rfl b (i * 4 + 1) 2 rfl rfl (HRW.c i hiN).2.1 (HRW.fr _) ?_
        replace HRW := HRW.s hiN 2
        show Kr _ _
        refine hKr.out _ _ ?_ (fun _ => ?_)
        · exact hS.setCell ⟨b, i * 4 + 1, none⟩ (.int .i64 2) (.inl rfl)
        clear hKr Kr
        replace hS : Turn (fun k => k = b) w5 ((World.drew w5).setCell ⟨b, i * 4 + 1, none⟩ (.int .i64 2)) := hS.setCell ⟨b, i * 4 + 1, none⟩ (.int .i64 2) (.inl rfl)
        try simp only [Act.put]
        refine wpAnyH_take (i := 11) (oi := ⟨some 50, _, _, _, _, _⟩) (v := ?_) rfl (by kernel_rfl) (by kernel_rfl) (by kernel_rfl) (fun _ _ _ h => h) (Or.inl ⟨by rfl, ?_⟩) hS ?_
        rotate_left
        · intro W hW; go_simp; with_reducible rfl
        try simp only [Act.put, List.setIfInBounds_toArray, List.set_cons_zero, List.set_cons_succ]
        refine wpAnyH_take (i := 12) (oi := ⟨some 51, _, _, _, _, _⟩) (v := ?_) rfl (by kernel_rfl) (by kernel_rfl) (by kernel_rfl) (fun _ _ _ h => h) (Or.inl ⟨by rfl, ?_⟩) hS ?_
        rotate_left
        · intro W hW; go_simp; with_reducible rfl
        try simp only [Act.put, List.setIfInBounds_toArray, List.set_cons_zero, List.set_cons_succ]
        refine wpAnyH_ready (rs := [13]) (by kernel_rfl) (by simp) ?_
        refine AllReadyH.cons (o := ⟨none, _, _, _, _, _⟩) rfl (fun Kr hKr => ?_) AllReadyH.nil
        -- operation 13: a step
        rw [if_pos (by kernel_rfl)]
        refine wp_store_int (.tmp 51) (.tmp 47) rfl b (i * 4 + 3) (c + 1) rfl rfl (HRW.c i hiN).2.2.2 (HRW.fr _) ?_
        replace HRW := HRW.e hiN (c + 1)
        show Kr _ _
        refine hKr.out _ _ ?_ (fun _ => ?_)
        · exact hS.setCell ⟨b, i * 4 + 3, none⟩ (.int .i64 (c + 1)) (.inl rfl)
        clear hKr Kr
        replace hS : Turn (fun k => k = b) w5 (((World.drew w5).setCell ⟨b, i * 4 + 1, none⟩ (.int .i64 2)).setCell ⟨b, i * 4 + 3, none⟩ (.int .i64 (c + 1))) := hS.setCell ⟨b, i * 4 + 3, none⟩ (.int .i64 (c + 1)) (.inl rfl)
        try simp only [Act.put]
        refine wpAnyH_done (by kernel_rfl) ?_ _
        have HRW3 := Lib.hid HRW
        have hb7 := HB5.out.turn hS (by have := HLO.out; have := HBL.out; omega)
        have HT7 := Lib.hid hS
        have HB7 := Lib.hid hb7
        clear HRW hS hb7 k0 k1
        generalize ((World.drew w5).setCell ⟨b, i * 4 + 1, none⟩ (.int .i64 2)).setCell ⟨b, i * 4 + 3, none⟩ (.int .i64 (c + 1)) = w7 at *
        have k0 := HB7.out.c0
        have k1 := HB7.out.c1
        have H47 := Lib.hid ((H44.out.turn HT5.out (by omega)).turn HT7.out (by have := HLO.out; have := HBL.out; omega))
        go_wp2_with (first | (refine wpList_store_tree rfl (.tmp 4) (.tmp 52) rfl rfl rfl H47.out ?_; intro w8 hb8 hg8; have HB8 := Lib.hid hb8; have HG8 := Lib.hid hg8; clear hb8 hg8) | fail)
        refine bodyPost_ret (results_tree2 rfl _ rfl _ rfl HB8.out) rfl ?_
        have hsz : w.heap.size ≤ w4.heap.size := HB4.out.size
        have hB7 := (HB4.out.trans (HT5.out.below (fun k e => by omega) hsz)).trans (HT7.out.below (fun k e => by have := HLO.out; have := HBL.out; omega) (Nat.le_trans hsz HT5.out.size))
        have hrow := HRW3.out.turn (S := fun k => k = w.heap.size + 1) ((Turn.refl _ w7).grown HG8.out (fun j e => by injection e with e; exact .inl e.symm)) (by have := HLO.out; have := HBL.out; omega)
        refine ⟨hB7.grown HG8.out hB7.size (fun j e => by injection e with e; omega), .inl ⟨i, rfl, HMD.out, some ⟨b, 0, none⟩, k', N, HN.out.symm, ?_, ?_⟩⟩
        · show _ = Ending.returned (.tuple #[.agg #[.slice (some ⟨b, 0, none⟩) N k', .int .i64 (T.c + 1)], _])
          rw [HC.out]
          rfl
        · refine RowF.tx (T := T.done i) (n := N) (hrow.congr (fun j hj => ?_)) (by unfold Tr.done; rw [len_turned]; exact HN.out)
          unfold Tr.done
          rw [tx_turned (by rw [HN.out]; exact hj), HC.out]
          by_cases e : j = i <;> simp [e]
  · have hzb : (E == 0) = false := by simpa using hz
    have HZ := Lib.hid hz
    clear hz
    go_wp2_with (first | (refine wpList_store_tree rfl (.tmp 4) (.tmp 14) rfl rfl rfl H42.out ?_; intro w5 hb5 hg5; have HB5 := Lib.hid hb5; have HG5 := Lib.hid hg5; clear hb5 hg5) | fail)
    refine bodyPost_ret (results_tree2 rfl _ rfl _ rfl HB5.out) rfl ?_
    exact ⟨HB2.out.grown HG5.out HB2.out.size (fun j e => by injection e with e; omega), .inr ⟨E, HZ.out, fun i hp m => HZ.out (by
      rw [HE.out, hp]
      unfold Tr.liveE
      rw [if_pos (by have := m.lt; omega)]
      simp [m.live]), rfl⟩⟩

end Go.Proofs.Ytohnfjneghbceaa
