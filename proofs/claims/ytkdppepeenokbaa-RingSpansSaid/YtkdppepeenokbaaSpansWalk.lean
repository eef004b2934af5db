/-
  RingSpans: the walk: lots have as many sectors as places; place by place they are the places' sectors.
-/
import Derived.Test.YtkdppepeenokbaaApartWalk
namespace Go.Proofs.Ytkdppepeenokbaa
open Go.RowKit

/-- how many places the first j lots have -/
def sumC (l : List (Int × Int)) (j : Nat) : Int := ((l.take j).map Prod.snd).sum
theorem sumC_step {l : List (Int × Int)} {j : Nat} {z : Int × Int} (h : l[j]? = some z) : sumC l (j + 1) = sumC l j + z.2 := by
  unfold sumC
  rw [List.take_add_one, h]
  simp

structure SpanFacts (r : Rg) (a n : Int) (l : List (Int × Int)) : Prop where
  two : l.length ≤ 2
  all : sumC l l.length = n
  within : ∀ j, 0 ≤ sumC l j ∧ sumC l j ≤ n
  bound : ∀ (j : Nat) (z : Int × Int), l[j]? = some z → r.F ≤ z.1 ∧ z.1 ≤ r.F + r.S ∧ 1 ≤ z.2 ∧ z.2 ≤ 300
  place : ∀ (j : Nat) (z : Int × Int), l[j]? = some z → ∀ m : Nat, (0 : Int) ≤ m → (m : Int) < z.2 → ∀ i : Int, i = sumC l j → r.sector (a + (i + m)) = z.1 + m

theorem spans_facts {r : Rg} (ok : r.Ok) {a n : Int} (h0 : 0 ≤ a) (h1 : a ≤ 100000000) (hn : 0 ≤ n) (hn2 : n ≤ r.S) (hS : r.S ≤ 300) : SpanFacts r a n (r.spans a n) := by
  have s0 := ok.s0
  have hm : r.may a n = true := Rg.may_iff.2 ⟨ok, ⟨h0, by omega⟩, hn, hn2⟩
  rw [spans_is hm]
  obtain ⟨k, hk⟩ : ∃ k, k = a % r.S := ⟨_, rfl⟩
  have g1 : 0 ≤ k := by rw [hk]; exact Int.emod_nonneg _ (by omega)
  have g2 : k < r.S := by rw [hk]; exact Int.emod_lt_of_pos _ (by omega)
  have hs : ∀ x : Int, 0 ≤ x → x ≤ r.S → r.sector (a + x) = r.F + (a + x) % r.S := fun x hx hx2 => sector_ok ok (by omega) (by omega)
  rw [← hk]
  unfold spansI
  by_cases e0 : n = 0
  · subst e0
    rw [if_pos rfl]
    exact ⟨by simp, rfl, fun j => by simp [sumC], fun j z h => by simp at h, fun j z h => by simp at h⟩
  · rw [if_neg e0]
    by_cases e1 : n ≤ r.S - k
    · rw [if_pos e1]
      refine ⟨by simp, by simp [sumC], fun j => ?_, fun j z h => ?_, fun j z h m hm0 hm1 i hi => ?_⟩
      · rcases j with _ | j
        · simp [sumC]; omega
        · simp [sumC]; omega
      · rcases j with _ | j
        · simp at h; subst h; simp only; omega
        · simp at h
      · rcases j with _ | j
        · simp at h
          subst h
          simp only at hm1 ⊢
          simp [sumC] at hi
          subst hi
          rw [Int.zero_add, hs m hm0 (by omega), mod_ahead hk hm0 (by omega) g1]
          omega
        · simp at h
    · rw [if_neg e1]
      refine ⟨by simp, by simp [sumC]; omega, fun j => ?_, fun j z h => ?_, fun j z h m hm0 hm1 i hi => ?_⟩
      · rcases j with _ | _ | j
        · simp [sumC]; omega
        · simp [sumC]; omega
        · simp [sumC]; omega
      · rcases j with _ | _ | j
        · simp at h; subst h; simp only; omega
        · simp at h; subst h; simp only; omega
        · simp at h
      · rcases j with _ | _ | j
        · simp at h
          subst h
          simp only at hm1 ⊢
          simp [sumC] at hi
          subst hi
          rw [Int.zero_add, hs m hm0 (by omega), mod_ahead hk hm0 (by omega) g1]
          omega
        · simp at h
          subst h
          simp only at hm1 ⊢
          simp [sumC] at hi
          subst hi
          rw [hs _ (by omega) (by omega), mod_behind hk (by omega) (by omega) g1 g2]
          omega
        · simp at h

set_option maxHeartbeats 16000000 in
set_option maxRecDepth 100000 in
theorem spans_walk (f0 s0 a0 b0 : Int) (w : World) : Calls Try.prog 6 #[.int .i64 f0, .int .i64 s0, .int .i64 a0, .int .i64 b0] w fun e w' => e = .returned (.bool true) ∧ Below w.heap.size w w' := by
  obtain ⟨F, hF, eF⟩ := low f0 1023 10 (by decide) (by omega)
  obtain ⟨s, hs, eS⟩ := low s0 255 8 (by decide) (by omega)
  obtain ⟨p, hp, eP⟩ := low a0 16777215 24 (by decide) (by omega)
  obtain ⟨b, hb, eB⟩ := low b0 65535 16 (by decide) (by omega)
  simp only [Nat.reducePow] at hF hs hp hb
  have ok : (Rg.mk F (1 + s) 0 0).Ok := ok_new (by omega) (by omega) (by omega) (by omega)
  obtain ⟨d, HD⟩ : ∃ d, Hid (d = (b : Int) % (1 + (s : Int) + 1)) := ⟨_, Lib.hid rfl⟩
  have hd0 : 0 ≤ d := by rw [HD.out]; exact Int.emod_nonneg _ (by omega)
  have hd1 : d < 1 + s + 1 := by rw [HD.out]; exact Int.emod_lt_of_pos _ (by omega)
  have hd := HD.out.symm
  have HP := Lib.hid (spans_facts ok (a := (p : Int)) (n := d) (by omega) (by omega) hd0 (by show d ≤ 1 + (s : Int); omega) (by show (1 + (s : Int)) ≤ 300; omega))
  have cs := spans_any ⟨F, 1 + s, 0, 0⟩ p d
  have ce := sector_any ⟨F, 1 + s, 0, 0⟩
  generalize (Rg.mk F (1 + s) 0 0).spans p d = l at *
  clear ok
  go_enter Try.func6, Try.ntmps6
  go_wp2_with fail
  refine (awake_any w).mono ?_
  rintro e w0 ⟨rfl, hb0⟩
  have HB := Lib.hid (below_two hb0 (below_new w0 (.cells (rgC ⟨F, 1 + s, 0, 0⟩) 25)))
  have Ho_ := Lib.hid (Bx.new w0 ⟨F, 1 + s, 0, 0⟩ 25)
  clear hb0
  go_wp2_with fail
  refine (cs _).mono ?_
  rintro e w1 ⟨A, N, cap, rfl, hN, hl, hb⟩
  replace HB := Lib.hid (below_two HB.out hb)
  replace Ho_ := Lib.hid (Ho_.out.below hb)
  have HL := Lib.hid hl
  have HN := Lib.hid hN
  have hN2 : N ≤ 2 := by rw [hN]; exact HP.out.two
  clear hb hl hN cs
  go_wp2_with fail
  go_loopw [14, 15] (fun u v wr => ∃ (j : Nat) (i : Int), u = .int .i64 i ∧ v = .int .i64 (j : Int) ∧ j ≤ N ∧ Hid (i = sumC l j) ∧ Hid (Below w.heap.size w wr) ∧ Hid (Bx wr w0.heap.size ⟨F, 1 + s, 0, 0⟩ 25) ∧ Hid (Lt wr wr.heap.size A l)) (fun _ v _ => N - (intOf v).toNat)
  case atStart => exact ⟨0, 0, rfl, rfl, Nat.zero_le _, rfl, HB.out, Ho_.out, HL.out⟩
  case round =>
    obtain ⟨j, i, rfl, rfl, hj, HI, HB, Ho_, HL⟩ := hrel
    obtain ⟨wa, rfl⟩ : ∃ wa, wa = wr := ⟨_, rfl⟩
    rcases Nat.lt_or_ge j N with hlt | hge
    · have hjl : j < l.length := by have := HN.out; omega
      have hbd := HP.out.bound j _ (List.getElem?_eq_getElem hjl)
      have HSC := Lib.hid (HP.out.place j _ (List.getElem?_eq_getElem hjl))
      have HSU := Lib.hid (sumC_step (List.getElem?_eq_getElem hjl))
      have hsu := HP.out.within j
      have hsu2 := HP.out.within (j + 1)
      rw [HSU.out] at hsu2
      rw [← HI.out] at hsu hsu2
      rcases HL.out with h0 | ⟨g, rfl, hg, hc⟩
      · rw [h0] at hjl; simp at hjl
      have k0 := (hc j _ (List.getElem?_eq_getElem hjl)).1
      have k1 := (hc j _ (List.getElem?_eq_getElem hjl)).2
      generalize l[j] = z at k0 k1 HSC HSU hbd hsu2
      obtain ⟨x, c⟩ := z
      simp only at k0 k1 hbd hsu2
      obtain ⟨hx0, hx1, hc1, hc2⟩ := hbd
      obtain ⟨C, rfl⟩ := Int.eq_ofNat_of_zero_le (show 0 ≤ c by omega)
      have HK0 := Lib.hid k0
      have HK1 := Lib.hid k1
      have hdj : decide ((j : Int) < (N : Int)) = true := decide_eq_true (by omega)
      have hdj2 : decide (j < N) = true := decide_eq_true (by omega)
      have hjN : (j : Int) < (N : Int) := by omega
      have hb1 : decide ((C : Int) < 1) = false := decide_eq_false (by omega)
      have hb2 : decide ((C : Int) > 300) = false := decide_eq_false (by omega)
      clear hc
      go_wp2_with fail
      clear hb1 hb2 k0 k1 hdj hdj2
      go_loopw [14, 16] (fun u v wq => ∃ m : Nat, u = .int .i64 (i + (m : Int)) ∧ v = .int .i64 (m : Int) ∧ m ≤ C ∧ Hid (Below wa.heap.size wa wq)) (fun _ v _ => C - (intOf v).toNat)
      case atStart => exact ⟨0, by simp, rfl, Nat.zero_le _, Below.refl _ _⟩
      case round =>
        obtain ⟨m, rfl, rfl, hm, HQ⟩ := hrel
        have HBx := Lib.hid (Ho_.out.below HQ.out)
        have k1 := (HQ.out.cell (p := ⟨g, j * 2 + 1, none⟩) hg).trans HK1.out
        rcases Nat.lt_or_ge m C with hmlt | hmge
        · have ht := ce (p + (i + m))
          rw [HSC.out m (by omega) (by omega) i HI.out] at ht
          have k0' : ∀ V, Since wr V → V.cell? ⟨g, j * 2, none⟩ = some (.int .i64 x) := fun V hV => ((HQ.out.trans (hV.mono HQ.out.size)).cell (p := ⟨g, j * 2, none⟩) hg).trans HK0.out
          have k1' : ∀ V, Since wr V → V.cell? ⟨g, j * 2 + 1, none⟩ = some (.int .i64 (C : Int)) := fun V hV => ((HQ.out.trans (hV.mono HQ.out.size)).cell (p := ⟨g, j * 2 + 1, none⟩) hg).trans HK1.out
          have HE : Hid (∀ V, Since wr V → Bx V w0.heap.size ⟨F, 1 + s, 0, 0⟩ 25) := HBx.out.from
          have c_o0 : ∀ V, Since wr V → V.cell? ⟨w0.heap.size, 0, none⟩ = some (.int .i64 ((F : Int))) := fun V hV => (HE.out V hV).c0
          have c_o1 : ∀ V, Since wr V → V.cell? ⟨w0.heap.size, 1, none⟩ = some (.int .i64 (1 + (s : Int))) := fun V hV => (HE.out V hV).c1
          have c_o2 : ∀ V, Since wr V → V.cell? ⟨w0.heap.size, 2, none⟩ = some (.int .i64 (0)) := fun V hV => (HE.out V hV).c2
          have c_o3 : ∀ V, Since wr V → V.cell? ⟨w0.heap.size, 3, none⟩ = some (.int .i64 (0)) := fun V hV => (HE.out V hV).c3
          have hdm : decide ((m : Int) < (C : Int)) = true := decide_eq_true (by omega)
          have hdm2 : decide (m < C) = true := decide_eq_true (by omega)
          have hw1 : IntKind.i64.wrap ((p : Int) + (i + (m : Int))) = (p : Int) + (i + (m : Int)) := by rw [IntKind.wrap_i64]; omega
          have hw2 : IntKind.i64.wrap (x + (m : Int)) = x + (m : Int) := by rw [IntKind.wrap_i64]; omega
          go_wp2_with fail
          refine wp_region_since (by kernel_rfl) ?_
          have hS : Since wr (World.drew wr) := (Below.refl _ _).drew
          refine wpAnyH_take (i := 0) (oi := ⟨some 65, _, _, _, _, _⟩) (v := ?_) rfl (by kernel_rfl) (by kernel_rfl) (by kernel_rfl) (fun _ _ _ h => h) (Or.inl ⟨by rfl, ?_⟩) hS ?_
          rotate_left
          · intro W hW; go_simp; with_reducible rfl
          try simp only [Act.put, List.setIfInBounds_toArray, List.set_cons_zero, List.set_cons_succ]
          refine wpAnyH_take (i := 1) (oi := ⟨some 66, _, _, _, _, _⟩) (v := ?_) rfl (by kernel_rfl) (by kernel_rfl) (by kernel_rfl) (fun _ _ _ h => h) (Or.inl ⟨by rfl, ?_⟩) hS ?_
          rotate_left
          · intro W hW; go_simp; with_reducible rfl
          try simp only [Act.put, List.setIfInBounds_toArray, List.set_cons_zero, List.set_cons_succ]
          refine wpAnyH_take (i := 2) (oi := ⟨some 67, _, _, _, _, _⟩) (v := ?_) rfl (by kernel_rfl) (by kernel_rfl) (by kernel_rfl) (fun _ _ _ h => h) (Or.inl ⟨by rfl, ?_⟩) hS ?_
          rotate_left
          · intro W hW; go_simp; with_reducible rfl
          try simp only [Act.put, List.setIfInBounds_toArray, List.set_cons_zero, List.set_cons_succ]
          refine wpAnyH_take (i := 3) (oi := ⟨some 68, _, _, _, _, _⟩) (v := ?_) rfl (by kernel_rfl) (by kernel_rfl) (by kernel_rfl) (fun _ _ _ h => h) (Or.inl ⟨by rfl, ?_⟩) hS ?_
          rotate_left
          · intro W hW; go_simp; with_reducible rfl
          try simp only [Act.put, List.setIfInBounds_toArray, List.set_cons_zero, List.set_cons_succ]
          refine wpAnyH_take (i := 5) (oi := ⟨some 70, _, _, _, _, _⟩) (v := ?_) rfl (by kernel_rfl) (by kernel_rfl) (by kernel_rfl) (fun _ _ _ h => h) (Or.inl ⟨by rfl, ?_⟩) hS ?_
          rotate_left
          · intro W hW; go_simp; with_reducible rfl
          try simp only [Act.put, List.setIfInBounds_toArray, List.set_cons_zero, List.set_cons_succ]
          refine wpAnyH_take (i := 6) (oi := ⟨some 71, _, _, _, _, _⟩) (v := ?_) rfl (by kernel_rfl) (by kernel_rfl) (by kernel_rfl) (fun _ _ _ h => h) (Or.inl ⟨by rfl, ?_⟩) hS ?_
          rotate_left
          · intro W hW; go_simp; with_reducible rfl
          try simp only [Act.put, List.setIfInBounds_toArray, List.set_cons_zero, List.set_cons_succ]
          refine wpAnyH_take (i := 7) (oi := ⟨some 72, _, _, _, _, _⟩) (v := ?_) rfl (by kernel_rfl) (by kernel_rfl) (by kernel_rfl) (fun _ _ _ h => h) (Or.inl ⟨by rfl, ?_⟩) hS ?_
          rotate_left
          · intro W hW; go_simp; with_reducible rfl
          try simp only [Act.put, List.setIfInBounds_toArray, List.set_cons_zero, List.set_cons_succ]
          refine wpAnyH_take (i := 8) (oi := ⟨some 73, _, _, _, _, _⟩) (v := ?_) rfl (by kernel_rfl) (by kernel_rfl) (by kernel_rfl) (fun _ _ _ h => h) (Or.inl ⟨by rfl, ?_⟩) hS ?_
          rotate_left
          · intro W hW; go_simp; with_reducible rfl
          try simp only [Act.put, List.setIfInBounds_toArray, List.set_cons_zero, List.set_cons_succ]
          refine wpAnyH_take (i := 9) (oi := ⟨some 74, _, _, _, _, _⟩) (v := ?_) rfl (by kernel_rfl) (by kernel_rfl) (by kernel_rfl) (fun _ _ _ h => h) (Or.inl ⟨by rfl, ?_⟩) hS ?_
          rotate_left
          · intro W hW; go_simp; with_reducible rfl
          try simp only [Act.put, List.setIfInBounds_toArray, List.set_cons_zero, List.set_cons_succ]
          refine wpAnyH_take (i := 10) (oi := ⟨some 75, _, _, _, _, _⟩) (v := ?_) rfl (by kernel_rfl) (by kernel_rfl) (by kernel_rfl) (fun _ _ _ h => h) (Or.inl ⟨by rfl, ?_⟩) hS ?_
          rotate_left
          · intro W hW; go_simp; with_reducible rfl
          try simp only [Act.put, List.setIfInBounds_toArray, List.set_cons_zero, List.set_cons_succ]
          refine wpAnyH_take (i := 11) (oi := ⟨some 76, _, _, _, _, _⟩) (v := ?_) rfl (by kernel_rfl) (by kernel_rfl) (by kernel_rfl) (fun _ _ _ h => h) (Or.inl ⟨by rfl, ?_⟩) hS ?_
          rotate_left
          · intro W hW; go_simp; with_reducible rfl
          try simp only [Act.put, List.setIfInBounds_toArray, List.set_cons_zero, List.set_cons_succ]
          refine wpAnyH_ready (rs := [4]) (by kernel_rfl) (by simp) ?_
          refine AllReadyH.cons (o := ⟨some 69, _, _, _, _, _⟩) rfl (fun Kr hKr => ?_) AllReadyH.nil
          -- operation 4: a call
          go_simp
          refine (ht _).mono ?_
          rintro e V0 ⟨rfl, hx⟩
          show Kr _ _
          refine hKr.out _ _ ?_ (fun _ => ?_)
          · exact since_trans hS hx
          clear hKr Kr
          replace hS : Since wr V0 := since_trans hS hx
          try simp only [Act.put, List.setIfInBounds_toArray, List.set_cons_zero, List.set_cons_succ]
          refine wpAnyH_take (i := 12) (oi := ⟨some 77, _, _, _, _, _⟩) (v := ?_) rfl (by kernel_rfl) (by kernel_rfl) (by kernel_rfl) (fun _ _ _ h => h) (Or.inl ⟨by rfl, ?_⟩) hS ?_
          rotate_left
          · intro W hW; go_simp; with_reducible rfl
          try simp only [Act.put, List.setIfInBounds_toArray, List.set_cons_zero, List.set_cons_succ]
          refine wpAnyH_done (by kernel_rfl) ?_ _
          go_wp2_with fail
          refine ⟨⟨m + 1, by go_num, by go_num, by omega, below_two HQ.out hS⟩, by simp [intOf]; omega⟩
        · obtain rfl : m = C := by omega
          have hdm : decide ((m : Int) < (m : Int)) = false := decide_eq_false (by omega)
          have hdm2 : decide (m < m) = false := decide_eq_false (by omega)
          go_wp2_with fail
          refine ⟨⟨j + 1, i + m, rfl, by go_num, by omega, ?_, HB.out.trans (HQ.out.mono HB.out.size), HBx.out, HL.out.up HQ.out⟩, by simp [intOf]; omega⟩
          show i + (m : Int) = _
          rw [HSU.out, ← HI.out]
    · obtain rfl : j = N := by omega
      have hdj : decide ((j : Int) < (j : Int)) = false := decide_eq_false (by omega)
      have hdj2 : decide (j < j) = false := decide_eq_false (by omega)
      have hi : i = d := by rw [HI.out, HN.out]; exact HP.out.all
      have hbq : (i == d) = true := by rw [hi]; exact beq_self_eq_true _
      have hj2 : decide ((j : Int) ≤ 2) = true := decide_eq_true (by omega)
      have hj3 : decide (j ≤ 2) = true := decide_eq_true (by omega)
      clear hi
      go_wp2_with fail
      go_ret
      exact ⟨rfl, HB.out⟩

end Go.Proofs.Ytkdppepeenokbaa
