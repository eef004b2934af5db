/-
  The document's Spans, place by place: the same pairs.
-/
import Derived.Test.YtkdppepeenokbaaSpans
import Derived.Test.YtkdppepeenokbaaRefSmall
namespace Go.Proofs.Ytkdppepeenokbaa
open Go.RowKit

/-- the lots of the first i places from one whose sector is the ring's k-th -/
def spansI (F S k i : Int) : List (Int × Int) := if i = 0 then [] else if i ≤ S - k then [(F + k, i)] else [(F + k, S - k), (F, i - (S - k))]

theorem spans_is {r : Rg} {at_ n : Int} (h : r.may at_ n = true) : r.spans at_ n = spansI r.F r.S (at_ % r.S) n := by
  unfold Rg.spans spansI
  rw [if_pos h]

/-- where the place stands: ahead of the ring's end, at it, behind it -/
theorem mod_ahead {a S k i : Int} (hk : k = a % S) (h0 : 0 ≤ i) (h2 : i < S - k) (_g : 0 ≤ k) : (a + i) % S = k + i := by
  rw [Int.add_emod, ← hk, Int.add_emod_emod, Int.emod_eq_of_lt (by omega) (by omega)]
theorem mod_behind {a S k i : Int} (hk : k = a % S) (h0 : S - k ≤ i) (h2 : i < S) (_g : 0 ≤ k) (_g2 : k < S) : (a + i) % S = k + i - S := by
  have e : (k + i) % S = k + i - S := by
    obtain ⟨x, hx⟩ : ∃ x, x = k + i - S := ⟨_, rfl⟩
    have e2 : k + i = x + S := by omega
    rw [e2, Int.add_emod_right, Int.emod_eq_of_lt (by omega) (by omega)]
    omega
  rw [Int.add_emod, ← hk, Int.add_emod_emod, e]

theorem spansI_first {a F S k e : Int} (hk : k = a % S) (he : e = (a + 0) % S) (g : 0 ≤ k) (g2 : k < S) : spansI F S k (0 + 1) = [(F + e, 1)] := by
  rw [Int.add_zero, ← hk] at he
  subst he
  unfold spansI
  rw [if_neg (by omega), if_pos (by omega)]
  rfl
theorem spansI_step {a F S k e i : Int} (hk : k = a % S) (he : e = (a + i) % S) (g : 0 ≤ k) (g2 : k < S) (h1 : 1 ≤ i) (h2 : i < S) :
    ∃ (l0 : List (Int × Int)) (x c : Int), spansI F S k i = l0 ++ [(x, c)] ∧ l0.length ≤ 1 ∧ (F ≤ x ∧ x ≤ F + S ∧ 0 ≤ c ∧ c ≤ S) ∧
      ((x + c = F + e ∧ spansI F S k (i + 1) = l0 ++ [(x, c + 1)]) ∨ (x + c ≠ F + e ∧ spansI F S k (i + 1) = l0 ++ [(x, c)] ++ [(F + e, 1)])) := by
  rcases Int.lt_or_le i (S - k) with h | h
  · rw [mod_ahead hk (by omega) h g] at he
    subst he
    refine ⟨[], F + k, i, ?_, by simp, by omega, .inl ⟨by omega, ?_⟩⟩
    · unfold spansI
      rw [if_neg (by omega), if_pos (by omega)]; rfl
    · unfold spansI
      rw [if_neg (by omega), if_pos (by omega)]; rfl
  · rw [mod_behind hk h h2 g g2] at he
    subst he
    rcases Int.lt_or_le (S - k) i with h3 | h3
    · refine ⟨[(F + k, S - k)], F, i - (S - k), ?_, by simp, by omega, .inl ⟨by omega, ?_⟩⟩
      · unfold spansI
        rw [if_neg (by omega), if_neg (by omega)]; rfl
      · unfold spansI
        rw [if_neg (by omega), if_neg (by omega), show i + 1 - (S - k) = i - (S - k) + 1 from by omega]; rfl
    · refine ⟨[], F + k, i, ?_, by simp, by omega, .inr ⟨by omega, ?_⟩⟩
      · unfold spansI
        rw [if_neg (by omega), if_pos (by omega)]; rfl
      · unfold spansI
        rw [if_neg (by omega), if_neg (by omega), show i + 1 - (S - k) = 1 from by omega, show S - k = i from by omega, show F + (k + i - S) = F from by omega]; rfl

/-- a number laid into the last pair -/
theorem pairC_set (l : List (Int × Int)) (x c d : Int) : (pairC (l ++ [(x, c)])).set (l.length * 2 + 1) (.int .i64 d) = pairC (l ++ [(x, d)]) := by
  rw [pairC_append, pairC_append, List.set_append_right _ _ (by rw [length_pairC]; omega), length_pairC, show l.length * 2 + 1 - l.length * 2 = 1 from by omega]
  rfl

theorem Bx.grown {w w' : World} {g : Nat} {r : Rg} {t : TypeId} {row : Option Nat} (h : Bx w g r t) (hg : w.grownBy w' row) (hr : ∀ k, row = some k → g + 1 ≤ k) : Bx w' g r t :=
  (hg.block g h.lt (fun e => by have := hr g e.symm; omega)).trans h
/-- a pair is appended beside the ring's block -/
theorem ref_append {w wy w2 : World} {B n : Nat} {v v2 : Value} {l : List (Int × Int)} {p : Int × Int} {r : Rg} {t : TypeId} {o : Obj} (ho : OwnP wy (B + 1) v l) (hb : Below B w wy) (hx : Bx wy B r t) (hn : l.length = n)
    (hown : w2.ownsRow (B + 1) 47 2 v2 (n + 1) (pairC l ++ [.int .i64 p.1, .int .i64 p.2])) (hg : (wy.alloc o).grownBy w2 v.ownBlock) : OwnP w2 (B + 1) v2 (l ++ [p]) ∧ Below B w w2 ∧ Bx w2 B r t := by
  subst hn
  have hlt := hx.lt
  refine ⟨?_, (hb.alloc (by omega) o).grown hg (by simp; omega) fun k hk => ?_, Bx.grown (hx.below (below_new wy o)) hg fun k hk => (ho.lt k hk).1⟩
  · unfold OwnP
    rw [List.length_append, pairC_append]
    exact hown
  · have := (ho.lt k hk).1
    omega
/-- a number is laid into the last pair -/
theorem ref_store {w wy : World} {B g m cap : Nat} {l0 : List (Int × Int)} {x c d : Int} {r : Rg} {t : TypeId} (ho : wy.ownsRow (B + 1) 47 2 (.slice (some ⟨g, 0, none⟩) (m + 1) cap) (m + 1) (pairC (l0 ++ [(x, c)]))) (hm : m = l0.length) (hb : Below B w wy) (hx : Bx wy B r t) :
    OwnP (wy.setCell ⟨g, m * 2 + 1, none⟩ (.int .i64 d)) (B + 1) (.slice (some ⟨g, 0, none⟩) (m + 1) cap) (l0 ++ [(x, d)]) ∧ Below B w (wy.setCell ⟨g, m * 2 + 1, none⟩ (.int .i64 d)) ∧ Bx (wy.setCell ⟨g, m * 2 + 1, none⟩ (.int .i64 d)) B r t := by
  have hg := (ho.lt g rfl).1
  have hs := ho.stored (m * 2 + 1) (.int .i64 d)
  refine ⟨?_, hb.setCell (by show B ≤ g; omega) _, (heap_setCell_other _ _ _ _ (by show B ≠ g; omega)).trans hx⟩
  unfold OwnP
  have := hs.1
  rw [hm] at this ⊢
  rw [pairC_set] at this
  rw [List.length_append]
  exact this

theorem OwnP.base_le {w : World} {base b : Nat} {v : Value} {l : List (Int × Int)} (h : OwnP w base v l) (hb : b ≤ base) : OwnP w b v l := by
  refine ⟨h.1, ?_⟩
  rcases h.2 with h2 | ⟨g, c, cur, e, hg, rest⟩
  · exact .inl h2
  · exact .inr ⟨g, c, cur, e, Nat.le_trans hb hg, rest⟩

set_option maxHeartbeats 2000000 in
set_option maxRecDepth 100000 in
theorem refspans_any (r : Rg) (at_ n : Int) (w : World) : Calls Try.prog 28 #[rgV r, .int .i64 at_, .int .i64 n] w (Lots w (r.spans at_ n)) := by
  obtain ⟨i0, hi, hz0, hz1, hz2⟩ := info_parts pair_facts
  have hs := refsane_any r
  have HN : Hid (r.may at_ n = false → r.spans at_ n = []) := fun h => by unfold Rg.spans; rw [h]; rfl
  have HS : Hid (r.may at_ n = true → r.spans at_ n = spansI r.F r.S (at_ % r.S) n) := fun h => spans_is h
  have HM : Hid (r.may at_ n = ((r.sane && (decide (0 ≤ at_) && decide (at_ ≤ 2199023255552))) && (decide (0 ≤ n) && decide (n ≤ r.S)))) := rfl
  have HW : Hid (r.sane = true → r.Ok) := fun h => Rg.ok h
  have HX := Lib.hid (Bx.new w r 23)
  have HB := Lib.hid (below_new w (.cells (rgC r) 23))
  obtain ⟨F, S, H, T⟩ := r
  go_enter Try.func28, Try.ntmps28
  go_wp2_with fail
  refine (hs _).mono ?_
  rintro e w1 ⟨rfl, hb1⟩
  have HX1 := Lib.hid (HX.out.below hb1)
  have HB1 := Lib.hid (below_two HB.out hb1)
  clear hb1 HX HB hs
  have c1 := HX1.out.c1
  generalize (Rg.mk F S H T).sane = b at *
  rcases Bool.eq_false_or_eq_true ((Rg.mk F S H T).may at_ n) with hm | hm
  · rw [hm] at HM
    replace HM := HM.out.symm
    simp only [Bool.and_eq_true, decide_eq_true_eq] at HM
    obtain ⟨⟨rfl, h1, h2⟩, h3, h4⟩ := HM
    have ok := HW.out rfl
    have HS2 := Lib.hid (HS.out hm)
    clear HW HS HN hm
    obtain ⟨q1, q2, q3, q4, q5, q6, q7, q8⟩ := ok
    simp only at q1 q2 q3 q4 q5 q6 q7 q8 HS2
    clear q5 q6 q7 q8
    obtain ⟨N, rfl⟩ := Int.eq_ofNat_of_zero_le h3
    obtain ⟨k, HK⟩ : ∃ k, Hid (k = at_ % S) := ⟨_, Lib.hid rfl⟩
    have g1 : 0 ≤ k := by rw [HK.out]; exact Int.emod_nonneg _ (by omega)
    have g2 : k < S := by rw [HK.out]; exact Int.emod_lt_of_pos _ (by omega)
    rw [← HK.out] at HS2
    have d1 : decide (at_ < 0) = false := decide_eq_false (by omega)
    have d2 : decide (at_ > 2199023255552) = false := decide_eq_false (by omega)
    have d3 : decide ((N : Int) < 0) = false := decide_eq_false (by omega)
    have d4 : decide ((N : Int) > S) = false := decide_eq_false (by omega)
    go_wp2_with fail
    clear d1 d2 d3 d4 c1
    go_loopw [7, 8] (fun v u wr => ∃ i : Nat, u = .int .i64 (i : Int) ∧ i ≤ N ∧ Hid (OwnP wr (w.heap.size + 1) v (spansI F S k i)) ∧ Hid (Below w.heap.size w wr) ∧ Hid (Bx wr w.heap.size ⟨F, S, H, T⟩ 23)) (fun _ u _ => N - (intOf u).toNat)
    case atStart => exact ⟨0, rfl, Nat.zero_le _, World.ownsRow_nil _ _ _ _, HB1.out, HX1.out⟩
    case round =>
      obtain ⟨i, rfl, hi2, HO, HB, HX⟩ := hrel
      have c0 := HX.out.c0
      have c1 := HX.out.c1
      have hbl : w.heap.size ≤ wr.heap.size := HB.out.size
      rcases Nat.lt_or_ge i N with hlt | hge
      · have hdj : decide ((i : Int) < (N : Int)) = true := decide_eq_true (by omega)
        have hdj2 : decide (i < N) = true := decide_eq_true (by omega)
        have hw1 : IntKind.i64.wrap (at_ + (i : Int)) = at_ + (i : Int) := by rw [IntKind.wrap_i64]; omega
        have hpos : 0 ≤ at_ + (i : Int) := by omega
        have hpos2 : 0 < S := by omega
        obtain ⟨e, HE⟩ : ∃ e, Hid (e = (at_ + (i : Int)) % S) := ⟨_, Lib.hid rfl⟩
        have he := HE.out.symm
        have he0 : 0 ≤ e ∧ e < S := by rw [HE.out]; exact ⟨Int.emod_nonneg _ (by omega), Int.emod_lt_of_pos _ (by omega)⟩
        have hw2 : IntKind.i64.wrap (F + e) = F + e := by rw [IntKind.wrap_i64]; omega
        go_wp2_with fail
        go_quiet (fail)
        have HO1 : Hid (OwnP (wr.drewN nq) (w.heap.size + 1) u7 (spansI F S k i)) := HO
        have HB1 : Hid (Below w.heap.size w (wr.drewN nq)) := below_drewN HB.out nq
        have HX1 : Hid (Bx (wr.drewN nq) w.heap.size ⟨F, S, H, T⟩ 23) := HX
        have hbl1 : w.heap.size ≤ (wr.drewN nq).heap.size := hbl
        clear HO HB HX hbl c0 c1 hw1 hpos hpos2 he hw2
        generalize wr.drewN nq = wz at *
        have hlw := HX1.out.lt
        rcases i with _ | i
        · have hfirst := spansI_first (F := F) HK.out HE.out g1 g2
          have h0 : spansI F S k ((0 : Nat) : Int) = [] := rfl
          rw [h0] at HO1
          obtain ⟨A, c, rfl, _⟩ := HO1.out.form
          have hown : wz.ownsRow (w.heap.size + 1) 47 2 (.slice A 0 c) 0 [] := HO1.out
          have HF := Lib.hid hfirst
          clear hfirst h0
          go_wp2_with fail
          go_quiet (fail)
          have HO2 : Hid (OwnP (wz.drewN nq) (w.heap.size + 1) (.slice A 0 c) []) := HO1
          have HB2 : Hid (Below w.heap.size w (wz.drewN nq)) := below_drewN HB1.out nq
          have HX2 : Hid (Bx (wz.drewN nq) w.heap.size ⟨F, S, H, T⟩ 23) := HX1
          have hbl2 : w.heap.size ≤ (wz.drewN nq).heap.size := hbl1
          clear HO1 HB1 HX1 hbl1 hown
          generalize wz.drewN nq = wy at *
          have hown : wy.ownsRow (w.heap.size + 1) 47 2 (.slice A 0 c) 0 [] := HO2.out
          go_wp2_with (at_builtin; refine wpList_append_own _ rfl (.tmp 74) (.tmp 77) 42 rfl (w.heap.size + 1) 47 i0 (.agg #[.int .i64 0, .int .i64 0]) 2 16 Try.underlying42 hi hz0 hz1 hz2 rfl (by decide) _ (0) _ rfl (World.ownsRow.alloc hown _) ⟨wy.heap.size, 0, none⟩ 1 1 [.int .i64 (F + e), .int .i64 1] rfl rfl (two_new _ _ _ _ _ (by simp)) (by intro u hu; simp at hu; rcases hu with rfl | rfl <;> rfl) (by unfold maxLen; omega) (by omega) (by simp; omega) ?_; intro v2 w2 hown2 hg2 hnil2)
          obtain ⟨p1, p2, p3⟩ := ref_append (n := 0) (p := (F + e, 1)) HO2.out HB2.out HX2.out rfl hown2 hg2
          refine ⟨⟨1, rfl, by omega, ?_, p2, p3⟩, by simp [intOf]; omega⟩
          show OwnP _ _ _ _
          rw [show spansI F S k ((1 : Nat) : Int) = spansI F S k (0 + 1) from rfl, HF.out]
          exact p1
        · obtain ⟨l0, x, c, e1, e2, e3, e4⟩ := spansI_step (F := F) (i := ((i + 1 : Nat) : Int)) HK.out HE.out g1 g2 (by omega) (by omega)
          rw [e1] at HO1
          have E4 := Lib.hid e4
          obtain ⟨m, hm⟩ : ∃ m, m = l0.length := ⟨_, rfl⟩
          rw [← hm] at e2
          have HM2 := Lib.hid hm
          rcases HO1.out.2 with ⟨_, hn⟩ | ⟨g, cap, cur, rfl, _⟩
          · exact absurd hn (by simp)
          have k0 : wz.cell? ⟨g, m * 2, none⟩ = some (.int .i64 x) := by
            have := HO1.out.cellAt (m * 2) (by rw [List.length_append, ← hm]; simp)
            rw [this, pairC_append, List.getElem?_append_right (by rw [length_pairC, hm]; omega), length_pairC, hm, Nat.sub_self]
            rfl
          have k1 : wz.cell? ⟨g, m * 2 + 1, none⟩ = some (.int .i64 c) := by
            have := HO1.out.cellAt (m * 2 + 1) (by rw [List.length_append, ← hm]; simp; omega)
            rw [this, pairC_append, List.getElem?_append_right (by rw [length_pairC, hm]; omega), length_pairC, hm, show l0.length * 2 + 1 - l0.length * 2 = 1 from by omega]
            rfl
          have f1 := HO1.out.frozenAt (m * 2 + 1)
          have hlen : (l0 ++ [(x, c)]).length = m + 1 := by rw [List.length_append, ← hm]; rfl
          have HO2 : Hid (wz.ownsRow (w.heap.size + 1) 47 2 (.slice (some ⟨g, 0, none⟩) (m + 1) cap) (m + 1) (pairC (l0 ++ [(x, c)]))) := by
            have := HO1.out
            unfold OwnP at this
            rw [hlen] at this
            exact this
          rw [hlen]
          have hwl : IntKind.i64.wrap (((m + 1 : Nat) : Int) - 1) = (m : Int) := by rw [IntKind.wrap_i64]; omega
          have hws : IntKind.i64.wrap (x + c) = x + c := by rw [IntKind.wrap_i64]; omega
          have hwc : IntKind.i64.wrap (c + 1) = c + 1 := by rw [IntKind.wrap_i64]; omega
          have hx1 : (m : Int) < ((m + 1 : Nat) : Int) := by omega
          have hge : decide ((m : Int) ≥ 0) = true := decide_eq_true (by omega)
          clear HO1 e1 e4 hm hlen e3
          by_cases hxs : x + c = F + e
          · have hd : (x + c == F + e) = true := by rw [hxs]; exact beq_self_eq_true _
            clear hxs
            go_wp2_with fail
            go_quiet (fail)
            have HY : Hid (Below w.heap.size w (wz.drewN nq)) := below_drewN HB1.out nq
            have HX2 : Hid (Bx (wz.drewN nq) w.heap.size ⟨F, S, H, T⟩ 23) := HX1
            have hbl2 : w.heap.size ≤ (wz.drewN nq).heap.size := hbl1
            have hlw2 : w.heap.size < (wz.drewN nq).heap.size := hlw
            have HO3 : Hid ((wz.drewN nq).ownsRow (w.heap.size + 1) 47 2 (.slice (some ⟨g, 0, none⟩) (m + 1) cap) (m + 1) (pairC (l0 ++ [(x, c)]))) := HO2
            have k0' : (wz.drewN nq).cell? ⟨g, m * 2, none⟩ = some (.int .i64 x) := k0
            have k1' : (wz.drewN nq).cell? ⟨g, m * 2 + 1, none⟩ = some (.int .i64 c) := k1
            have f1' : (wz.drewN nq).frozen? ⟨g, m * 2 + 1, none⟩ = false := f1
            clear HO2 HB1 HX1 hbl1 hlw k0 k1 f1
            generalize wz.drewN nq = wy at *
            have hmid := E4.out.resolve_right (fun hh => hh.1 (by simpa using hd))
            have HMID := Lib.hid hmid.2
            clear hmid E4
            go_wp2_with fail
            go_region
            obtain ⟨p1, p2, p3⟩ := ref_store (d := c + 1) HO3.out HM2.out HY.out HX2.out
            go_wp2_with fail
            refine ⟨⟨i + 1 + 1, by go_num, by omega, ?_, p2.drew, p3⟩, by simp [intOf]; omega⟩
            show OwnP _ _ _ _
            rw [show (((i + 1 + 1 : Nat)) : Int) = ((i + 1 : Nat) : Int) + 1 from by omega, HMID.out]
            exact p1
          · have hd : (x + c == F + e) = false := by simpa using hxs
            clear hxs
            go_wp2_with fail
            go_quiet (fail)
            have HY : Hid (Below w.heap.size w (wz.drewN nq)) := below_drewN HB1.out nq
            have HX2 : Hid (Bx (wz.drewN nq) w.heap.size ⟨F, S, H, T⟩ 23) := HX1
            have hbl2 : w.heap.size ≤ (wz.drewN nq).heap.size := hbl1
            have hlw2 : w.heap.size < (wz.drewN nq).heap.size := hlw
            have HO3 : Hid ((wz.drewN nq).ownsRow (w.heap.size + 1) 47 2 (.slice (some ⟨g, 0, none⟩) (m + 1) cap) (m + 1) (pairC (l0 ++ [(x, c)]))) := HO2
            have k0' : (wz.drewN nq).cell? ⟨g, m * 2, none⟩ = some (.int .i64 x) := k0
            have k1' : (wz.drewN nq).cell? ⟨g, m * 2 + 1, none⟩ = some (.int .i64 c) := k1
            have f1' : (wz.drewN nq).frozen? ⟨g, m * 2 + 1, none⟩ = false := f1
            clear HO2 HB1 HX1 hbl1 hlw k0 k1 f1
            generalize wz.drewN nq = wy at *
            have hmid := E4.out.resolve_left (fun hh => by rw [hh.1] at hd; simp at hd)
            have HMID := Lib.hid hmid.2
            clear hmid E4
            have hown := HO3.out
            go_wp2_with (at_builtin; refine wpList_append_own _ rfl (.tmp 74) (.tmp 77) 42 rfl (w.heap.size + 1) 47 i0 (.agg #[.int .i64 0, .int .i64 0]) 2 16 Try.underlying42 hi hz0 hz1 hz2 rfl (by decide) _ (m + 1) _ rfl (World.ownsRow.alloc hown _) ⟨wy.heap.size, 0, none⟩ 1 1 [.int .i64 (F + e), .int .i64 1] rfl rfl (two_new _ _ _ _ _ (by simp)) (by intro u hu; simp at hu; rcases hu with rfl | rfl <;> rfl) (by unfold maxLen; omega) (by omega) (by simp; omega) ?_; intro v2 w2 hown2 hg2 hnil2)
            have hl1 : (l0 ++ [(x, c)]).length = m + 1 := by rw [List.length_append, ← HM2.out]; rfl
            obtain ⟨p1, p2, p3⟩ := ref_append (n := m + 1) (l := l0 ++ [(x, c)]) (p := (F + e, 1)) (by unfold OwnP; rw [hl1]; exact HO3.out) HY.out HX2.out hl1 hown2 hg2
            refine ⟨⟨i + 1 + 1, by go_num, by omega, ?_, p2, p3⟩, by simp [intOf]; omega⟩
            show OwnP _ _ _ _
            rw [show (((i + 1 + 1 : Nat)) : Int) = ((i + 1 : Nat) : Int) + 1 from by omega, HMID.out]
            exact p1
      · obtain rfl : i = N := by omega
        have hdj : decide ((i : Int) < (i : Int)) = false := decide_eq_false (by omega)
        have hdj2 : decide (i < i) = false := decide_eq_false (by omega)
        go_wp2_with fail
        go_ret
        have ho := HO.out
        rw [← HS2.out] at ho
        exact Lots.of (ho.base_le (Nat.le_succ _)) HB.out
  · have e := HN.out hm
    have E0 := Lib.hid e
    rw [hm] at HM
    clear e HN HS HW hm
    cases b with
    | false =>
      go_wp2_with fail
      go_ret
      exact ⟨none, 0, 0, rfl, by rw [E0.out]; rfl, .inl E0.out, HB1.out⟩
    | true =>
      rcases Int.lt_or_le at_ 0 with h1 | h1
      · have d1 : decide (at_ < 0) = true := decide_eq_true h1
        go_wp2_with fail
        go_ret
        exact ⟨none, 0, 0, rfl, by rw [E0.out]; rfl, .inl E0.out, HB1.out⟩
      · have d1 : decide (at_ < 0) = false := decide_eq_false (by omega)
        rcases Int.lt_or_le 2199023255552 at_ with h2 | h2
        · have d2 : decide (at_ > 2199023255552) = true := decide_eq_true h2
          go_wp2_with fail
          go_ret
          exact ⟨none, 0, 0, rfl, by rw [E0.out]; rfl, .inl E0.out, HB1.out⟩
        · have d2 : decide (at_ > 2199023255552) = false := decide_eq_false (by omega)
          rcases Int.lt_or_le n 0 with h3 | h3
          · have d3 : decide (n < 0) = true := decide_eq_true h3
            go_wp2_with fail
            go_ret
            exact ⟨none, 0, 0, rfl, by rw [E0.out]; rfl, .inl E0.out, HB1.out⟩
          · have d3 : decide (n < 0) = false := decide_eq_false (by omega)
            have h4 : S < n := by
              rcases Int.lt_or_le S n with h | h
              · exact h
              · have hm := HM.out
                rw [decide_eq_true h1, decide_eq_true h2, decide_eq_true h3, decide_eq_true h] at hm
                cases hm
            have d4 : decide (n > S) = true := decide_eq_true h4
            go_wp2_with fail
            go_ret
            exact ⟨none, 0, 0, rfl, by rw [E0.out]; rfl, .inl E0.out, HB1.out⟩

end Go.Proofs.Ytkdppepeenokbaa
