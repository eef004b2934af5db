/-
  SpanRoom: as much as there is room for fits, and one more does not.
-/
import Derived.Test.YtimpebilgoekdaaAw
import Derived.Test.YtimpebilgoekdaaAp
namespace Go.Proofs.Ytimpebilgoekdaa
set_option maxRecDepth 100000
set_option linter.unusedVariables false
set_option linter.unusedSimpArgs false
open Go.RowKit

theorem room_okI (a b v : Int) (l : List Int) : okI (roomL a b v l) ∧ okI (roomH a b v l) := by
  unfold roomL roomH
  constructor <;> split <;> first | exact clamp_ok _ | decide
theorem ok_snoc {l : List Int} {x : Int} (h : ∀ y ∈ l, okI y) (hx : okI x) : ∀ y ∈ l ++ [x], okI y := by
  intro y hy
  rcases List.mem_append.1 hy with hy | hy
  · exact h y hy
  · simp at hy; subst hy; exact hx

set_option maxHeartbeats 1000000 in
theorem room_walk (a b v : Int) (ha : okI a) (hb : okI b) (hv : okI v) (A : Option Addr) (n c : Nat) (l : List Int) (w : World) (hl : Ls w A n l) (hcap : n ≤ c) (hsp : c = 0 ∨ Sp A) :
    Calls Try.prog 6 #[spV a b, .int .i64 v, .slice A n c] w fun e w' => e = .returned (.bool true) ∧ Below w.heap.size w w' := by
  have HL := Lib.hid hl
  have HSA : Hid (l = [] ∨ Sp A) := by
    rcases hsp with h | h
    · exact .inl (List.eq_nil_of_length_eq_zero (by rw [hl.len]; omega))
    · exact .inr h
  have HX := Lib.hid (Bk.new w (spC a b) 24)
  have HB := Lib.hid (below_new w (.cells (spC a b) 24))
  have hfi := fun V hV => fits_any a b v hv A n c l V (HL.out.below hV)
  have hfg := fun g N cc (p : List Int) V hV => fits_any a b v hv (some ⟨g, 0, none⟩) N cc p V hV
  have hro := fun V hV => room_any a b v ha hb hv A n c l V (HL.out.below hV)
  have hoa := ours_any a b
  have HRF := Lib.hid (fun (h : l.length < 4096) h2 => room_fits (a := a) (b := b) (v := v) (l := l) ha hb h h2)
  have HRK := Lib.hid (room_okI a b v l)
  have HR0 : Hid (fitsB a b v l = false → roomL a b v l = 0 ∧ roomH a b v l = 0) := fun h => by unfold roomL roomH; rw [h]; simp
  obtain ⟨N, hN⟩ : ∃ N, N = n + 1 := ⟨_, rfl⟩
  have HN := Lib.hid hN
  have hnN : n < N := by omega
  have hnN2 : (n : Int) < (N : Int) := by omega
  clear hl hv ha hb hcap hsp hN
  unfold roV at hro
  generalize roomL a b v l = xl at *
  generalize roomH a b v l = xh at *
  go_enter Try.func6, Try.ntmps6
  go_wp2_with fail
  refine (awake_any _).mono ?_
  rintro e w1 ⟨rfl, hb⟩
  replace HX := Lib.hid (HX.out.below hb)
  replace HB := Lib.hid (below_two HB.out hb)
  clear hb
  rcases Nat.lt_or_ge 100 n with hbig | hfew
  · have hd : decide ((n : Int) > 100) = true := decide_eq_true (by omega)
    have hd2 : decide ((100 : Int) < (n : Int)) = true := decide_eq_true (by omega)
    have hd3 : decide (100 < n) = true := decide_eq_true hbig
    go_wp2_with fail
    go_ret
    exact ⟨rfl, HB.out⟩
  have hd : decide ((n : Int) > 100) = false := decide_eq_false (by omega)
  have hd2 : decide ((100 : Int) < (n : Int)) = false := decide_eq_false (by omega)
  have hd3 : decide (100 < n) = false := decide_eq_false (by omega)
  have x0 := HX.out.s0
  have x1 := HX.out.s1
  go_wp2_with fail
  refine (hoa _).mono ?_
  rintro e w2 ⟨rfl, hb⟩
  have HO := Lib.hid (Bk.new w2 (spC a b) 29)
  replace HB := Lib.hid (below_two (below_two HB.out hb) (below_new w2 (.cells (spC a b) 29)))
  clear hb x0 x1 HX hoa
  go_wp2_with fail
  refine (hro _ HB.out).mono ?_
  rintro e w3 ⟨rfl, hb⟩
  replace HO := Lib.hid (HO.out.below hb)
  replace HB := Lib.hid (HB.out.trans (hb.mono HB.out.size))
  clear hb hro
  generalize w2.heap.size = go at *
  have o0 := HO.out.s0
  have o1 := HO.out.s1
  go_wp2_with fail
  refine (hfi _ HB.out).mono ?_
  rintro e w4 ⟨rfl, hb⟩
  replace HO := Lib.hid (HO.out.below hb)
  replace HB := Lib.hid (HB.out.trans (hb.mono HB.out.size))
  clear hb hfi o0 o1
  cases hfb : fitsB a b v l with
  | false =>
    obtain ⟨rfl, rfl⟩ := HR0.out hfb
    clear hfb HR0 HRF
    go_wp2_with fail
    go_ret
    exact ⟨rfl, HB.out⟩
  | true =>
  obtain ⟨⟨hl0, hh0⟩, ⟨hf1, hf2⟩, hf3, hf4⟩ := HRF.out (by rw [HL.out.len]; omega) hfb
  have HF1 := Lib.hid hf1
  have HF2 := Lib.hid hf2
  have HF3 := Lib.hid hf3
  have HF4 := Lib.hid hf4
  have dl1 : decide (xl > 0) = false := decide_eq_false (by omega)
  have dl2 : decide (0 < xl) = false := decide_eq_false (by omega)
  have dh1 : decide (xh < 0) = false := decide_eq_false (by omega)
  have HLH := Lib.hid (And.intro hl0 hh0)
  have HGL := Lib.hid HO.out.lt
  have HBW4 := Lib.hid HB.out.size
  clear hfb HR0 HRF hf1 hf2 hf3 hf4 hl0 hh0
  have HLa := Lib.hid (HL.out.below HB.out)
  have hBB : w4.heap.size ≤ w4.heap.size := Nat.le_refl _
  go_upto_region 9 with (first
    | (at_builtin; refine Rk.wpList_append2 ri_ok rfl (.tmp 41) (.tmp 42) rfl w4.heap.size (.slice (some ⟨w4.heap.size, 0, none⟩) 0 0) [] l rfl (own_lit w4 _ (Nat.le_refl _)) A n c rfl (HLa.out.at_.below (below_new w4 _)) HLa.out.len HSA.out (by rw [HLa.out.len, List.length_nil]; omega) (by simp) ?_; intro p1 w5 hx1 hg1 ha1; have HO1 := Lib.hid hx1; have HG1 := Lib.hid (show Below w4.heap.size w4 w5 from Below.grown (below_new w4 _) hg1 (by simp) (fun k e => by have e : some w4.heap.size = some k := e; injection e with e; omega)); clear hx1 hg1 ha1)
    | (at_builtin; refine Rk.wpList_append ri_ok rfl (.tmp 43) (.tmp 45) rfl w4.heap.size p1 ([] ++ l) [xl] rfl (HO1.out.below (below_new w5 (.cells #[.int .i64 xl] 3))) _ 1 1 rfl (one_at w5 xl) rfl (.inr ⟨_, _, rfl⟩) (by rw [List.nil_append, HLa.out.len, List.length_singleton]; omega) (Nat.le_trans HG1.out.size (below_new w5 _).size) ?_; intro p2 w6 hx1 hg1 ha1; have HO2 := Lib.hid hx1; have HG2 := Lib.hid (show Below w4.heap.size w4 w6 from Below.grown (HG1.out.trans ((below_new w5 _).mono HG1.out.size)) hg1 (Nat.le_trans HG1.out.size (below_new w5 _).size) (fun k e => (HO1.out.lt k e).1)); clear hx1 hg1 ha1)
    | fail)
  obtain ⟨g1, c1, cs1, e2, hg2, hr2⟩ := own_rb HO2.out (by simp)
  rw [List.nil_append] at e2 hr2
  rw [List.length_append, HL.out.len, List.length_singleton, ← HN.out] at e2
  subst e2
  have HR_g1 := Lib.hid hr2
  have HE_g1 := Lib.hid hg2
  clear hr2 hg2 HO2 HO1 HG1 hBB HLa
  have HO6 := Lib.hid (HO.out.below HG2.out)
  replace HB := Lib.hid (HB.out.trans (HG2.out.mono HB.out.size))
  clear HO HG2
  have HLa := Lib.hid (HL.out.below HB.out)
  have hBB : w6.heap.size ≤ w6.heap.size := Nat.le_refl _
  go_upto_region 10 with (first
    | (at_builtin; refine Rk.wpList_append2 ri_ok rfl (.tmp 47) (.tmp 48) rfl w6.heap.size (.slice (some ⟨w6.heap.size, 0, none⟩) 0 0) [] l rfl (own_lit w6 _ (Nat.le_refl _)) A n c rfl (HLa.out.at_.below (below_new w6 _)) HLa.out.len HSA.out (by rw [HLa.out.len, List.length_nil]; omega) (by simp) ?_; intro p3 w7 hx1 hg1 ha1; have HO1 := Lib.hid hx1; have HG1 := Lib.hid (show Below w6.heap.size w6 w7 from Below.grown (below_new w6 _) hg1 (by simp) (fun k e => by have e : some w6.heap.size = some k := e; injection e with e; omega)); clear hx1 hg1 ha1)
    | (at_builtin; refine Rk.wpList_append ri_ok rfl (.tmp 49) (.tmp 51) rfl w6.heap.size p3 ([] ++ l) [xh] rfl (HO1.out.below (below_new w7 (.cells #[.int .i64 xh] 3))) _ 1 1 rfl (one_at w7 xh) rfl (.inr ⟨_, _, rfl⟩) (by rw [List.nil_append, HLa.out.len, List.length_singleton]; omega) (Nat.le_trans HG1.out.size (below_new w7 _).size) ?_; intro p4 w8 hx1 hg1 ha1; have HO2 := Lib.hid hx1; have HG2 := Lib.hid (show Below w6.heap.size w6 w8 from Below.grown (HG1.out.trans ((below_new w7 _).mono HG1.out.size)) hg1 (Nat.le_trans HG1.out.size (below_new w7 _).size) (fun k e => (HO1.out.lt k e).1)); clear hx1 hg1 ha1)
    | fail)
  obtain ⟨g2, c2, cs2, e2, hg2, hr2⟩ := own_rb HO2.out (by simp)
  rw [List.nil_append] at e2 hr2
  rw [List.length_append, HL.out.len, List.length_singleton, ← HN.out] at e2
  subst e2
  have HR_g2 := Lib.hid hr2
  have HE_g2 := Lib.hid hg2
  clear hr2 hg2 HO2 HO1 HG1 hBB HLa
  have HO8 := Lib.hid (HO6.out.below HG2.out)
  have HR1 := Lib.hid (HR_g1.out.below HG2.out)
  have HR2 := Lib.hid HR_g2.out
  have HG2W := Lib.hid (show w.heap.size ≤ g1 ∧ w.heap.size ≤ g2 from by have h1 := HB.out.size; have h2 := HE_g1.out; have h3 := HE_g2.out; have h4 := HBW4.out; exact ⟨by omega, by omega⟩)
  replace HB := Lib.hid (HB.out.trans (HG2.out.mono HB.out.size))
  have HNE := Lib.hid (show g1 ≠ g2 from by have h1 := HR_g1.out.bk.lt; have h2 := HE_g2.out; omega)
  have HGO := Lib.hid (show go < g1 ∧ go < g2 from by have h1 := HO6.out.lt; have h2 := HE_g2.out; have h3 := HE_g1.out; have h4 := HGL.out; exact ⟨by omega, by omega⟩)
  clear HO6 HG2 HR_g1 HR_g2 HE_g1 HE_g2 HGL HBW4
  have hq := hfg g1 N c1 (l ++ [xl]) _ (by have h := HR1.out.ls (ok_snoc HL.out.ok HRK.out.1); rw [List.length_append, HL.out.len, List.length_singleton, ← HN.out] at h; exact h)
  rw [HF1.out] at hq
  have o0 := HO8.out.s0
  have o1 := HO8.out.s1
  go_wp2_with fail
  refine hq.mono ?_
  rintro e w9 ⟨rfl, hb⟩
  replace HO8 := Lib.hid (HO8.out.below hb)
  replace HR1 := Lib.hid (HR1.out.below hb)
  replace HR2 := Lib.hid (HR2.out.below hb)
  replace HB := Lib.hid (HB.out.trans (hb.mono HB.out.size))
  clear hb hq o0 o1
  have hq := hfg g2 N c2 (l ++ [xh]) _ (by have h := HR2.out.ls (ok_snoc HL.out.ok HRK.out.2); rw [List.length_append, HL.out.len, List.length_singleton, ← HN.out] at h; exact h)
  rw [HF2.out] at hq
  have o0 := HO8.out.s0
  have o1 := HO8.out.s1
  go_wp2_with fail
  refine hq.mono ?_
  rintro e wa ⟨rfl, hb⟩
  replace HO8 := Lib.hid (HO8.out.below hb)
  replace HR1 := Lib.hid (HR1.out.below hb)
  replace HR2 := Lib.hid (HR2.out.below hb)
  replace HB := Lib.hid (HB.out.trans (hb.mono HB.out.size))
  clear hb hq o0 o1
  rcases Int.lt_or_le (-9223372036854775808) xl with hm | hm
  · have m1 : decide (-9223372036854775808 < xl) = true := decide_eq_true hm
    have m2 : decide (xl > -9223372036854775808) = true := decide_eq_true hm
    obtain ⟨xd, hxd⟩ : ∃ xd, xd = xl - 1 := ⟨_, rfl⟩
    have hxo : okI xd := by rw [hxd]; have h1 := HRK.out.1; have h2 := HLH.out.1; unfold okI at h1 ⊢; omega
    have HXO := Lib.hid hxo
    have ew : IntKind.i64.wrap (xl - 1) = xd := by unfold okI at hxo; rw [IntKind.wrap_i64]; omega
    have hvxd := HF3.out hm
    rw [← hxd] at hvxd
    have HV3 := Lib.hid hvxd
    clear hvxd hxd
    have k0 := HR1.out.bk.c n _ (HR1.out.get (z := xl) (by rw [List.getElem?_append_right (by rw [HL.out.len]; exact Nat.le_refl _), HL.out.len, Nat.sub_self]; rfl))
    have kf := HR1.out.bk.fr n
    clear hm hxo
    go_upto_region 14 with fail
    have HO9 : Hid (Bk (World.setCell wa ⟨g1, n, none⟩ (.int .i64 xd)) go (spC a b) 29) := HO8.out.oth (by have := HGO.out; omega) _ _
    have HR9 : Hid (Rb (World.setCell wa ⟨g1, n, none⟩ (.int .i64 xd)) g1 (cs1.setIfInBounds n (.int .i64 xd)) (l ++ [xd])) := HR1.out.last HL.out.len
    have HR8 : Hid (Rb (World.setCell wa ⟨g1, n, none⟩ (.int .i64 xd)) g2 cs2 (l ++ [xh])) := ⟨HR2.out.bk.oth (fun e => HNE.out e.symm) _ _, HR2.out.le, HR2.out.eq⟩
    have HB9 : Hid (Below w.heap.size w (World.setCell wa ⟨g1, n, none⟩ (.int .i64 xd))) := HB.out.setCell (by have := HG2W.out; show w.heap.size ≤ g1; omega) _
    clear k0 kf ew HO8 HR1 HR2 HB
    generalize World.setCell wa ⟨g1, n, none⟩ (.int .i64 xd) = wx at *
    have o0 := HO9.out.s0
    have o1 := HO9.out.s1
    have hq := hfg g1 N c1 (l ++ [xd]) _ (by have h := HR9.out.ls (ok_snoc HL.out.ok HXO.out); rw [List.length_append, HL.out.len, List.length_singleton, ← HN.out] at h; exact h)
    rw [HV3.out] at hq
    go_wp2_with fail
    refine hq.mono ?_
    rintro e wb ⟨rfl, hb⟩
    have HO8 := Lib.hid (HO9.out.below hb)
    have HR2 := Lib.hid (HR8.out.below hb)
    have HB := Lib.hid (HB9.out.trans (hb.mono HB9.out.size))
    clear hb hq o0 o1 HO9 HR9 HR8 HB9 m1 m2
    go_upto_region 16 with fail
    rcases Int.lt_or_le xh 9223372036854775807 with hm | hm
    · have m1 : decide (xh < 9223372036854775807) = true := decide_eq_true hm
      obtain ⟨xu, hxu⟩ : ∃ xu, xu = xh + 1 := ⟨_, rfl⟩
      have hxo : okI xu := by rw [hxu]; have h1 := HRK.out.2; have h2 := HLH.out.2; unfold okI at h1 ⊢; omega
      have HXO := Lib.hid hxo
      have ew : IntKind.i64.wrap (xh + 1) = xu := by unfold okI at hxo; rw [IntKind.wrap_i64]; omega
      have hvxu := HF4.out hm
      rw [← hxu] at hvxu
      have HV4 := Lib.hid hvxu
      clear hvxu hxu
      have k0 := HR2.out.bk.c n _ (HR2.out.get (z := xh) (by rw [List.getElem?_append_right (by rw [HL.out.len]; exact Nat.le_refl _), HL.out.len, Nat.sub_self]; rfl))
      have kf := HR2.out.bk.fr n
      clear hm hxo
      go_upto_region 18 with fail
      have HO9 : Hid (Bk (World.setCell wb ⟨g2, n, none⟩ (.int .i64 xu)) go (spC a b) 29) := HO8.out.oth (by have := HGO.out; omega) _ _
      have HR9 : Hid (Rb (World.setCell wb ⟨g2, n, none⟩ (.int .i64 xu)) g2 (cs2.setIfInBounds n (.int .i64 xu)) (l ++ [xu])) := HR2.out.last HL.out.len
      have HB9 : Hid (Below w.heap.size w (World.setCell wb ⟨g2, n, none⟩ (.int .i64 xu))) := HB.out.setCell (by have := HG2W.out; show w.heap.size ≤ g2; omega) _
      clear k0 kf ew HO8 HR2 HB
      generalize World.setCell wb ⟨g2, n, none⟩ (.int .i64 xu) = wy at *
      have o0 := HO9.out.s0
      have o1 := HO9.out.s1
      have hq := hfg g2 N c2 (l ++ [xu]) _ (by have h := HR9.out.ls (ok_snoc HL.out.ok HXO.out); rw [List.length_append, HL.out.len, List.length_singleton, ← HN.out] at h; exact h)
      rw [HV4.out] at hq
      go_wp2_with fail
      refine hq.mono ?_
      rintro e wz ⟨rfl, hb⟩
      replace HB9 := Lib.hid (HB9.out.trans (hb.mono HB9.out.size))
      clear hb hq o0 o1
      go_wp2_with fail
      go_ret
      exact ⟨rfl, HB9.out⟩
    · have m1 : decide (xh < 9223372036854775807) = false := decide_eq_false (by omega)
      clear hm
      go_wp2_with fail
      go_ret
      exact ⟨rfl, HB.out⟩
  · have m1 : decide (-9223372036854775808 < xl) = false := decide_eq_false (by omega)
    have m2 : decide (xl > -9223372036854775808) = false := decide_eq_false (by omega)
    clear hm
    go_upto_region 16 with fail
    clear m1 m2
    rcases Int.lt_or_le xh 9223372036854775807 with hm | hm
    · have m1 : decide (xh < 9223372036854775807) = true := decide_eq_true hm
      obtain ⟨xu, hxu⟩ : ∃ xu, xu = xh + 1 := ⟨_, rfl⟩
      have hxo : okI xu := by rw [hxu]; have h1 := HRK.out.2; have h2 := HLH.out.2; unfold okI at h1 ⊢; omega
      have HXO := Lib.hid hxo
      have ew : IntKind.i64.wrap (xh + 1) = xu := by unfold okI at hxo; rw [IntKind.wrap_i64]; omega
      have hvxu := HF4.out hm
      rw [← hxu] at hvxu
      have HV4 := Lib.hid hvxu
      clear hvxu hxu
      have k0 := HR2.out.bk.c n _ (HR2.out.get (z := xh) (by rw [List.getElem?_append_right (by rw [HL.out.len]; exact Nat.le_refl _), HL.out.len, Nat.sub_self]; rfl))
      have kf := HR2.out.bk.fr n
      clear hm hxo
      go_upto_region 18 with fail
      have HO9 : Hid (Bk (World.setCell wa ⟨g2, n, none⟩ (.int .i64 xu)) go (spC a b) 29) := HO8.out.oth (by have := HGO.out; omega) _ _
      have HR9 : Hid (Rb (World.setCell wa ⟨g2, n, none⟩ (.int .i64 xu)) g2 (cs2.setIfInBounds n (.int .i64 xu)) (l ++ [xu])) := HR2.out.last HL.out.len
      have HB9 : Hid (Below w.heap.size w (World.setCell wa ⟨g2, n, none⟩ (.int .i64 xu))) := HB.out.setCell (by have := HG2W.out; show w.heap.size ≤ g2; omega) _
      clear k0 kf ew HO8 HR2 HB
      generalize World.setCell wa ⟨g2, n, none⟩ (.int .i64 xu) = wy at *
      have o0 := HO9.out.s0
      have o1 := HO9.out.s1
      have hq := hfg g2 N c2 (l ++ [xu]) _ (by have h := HR9.out.ls (ok_snoc HL.out.ok HXO.out); rw [List.length_append, HL.out.len, List.length_singleton, ← HN.out] at h; exact h)
      rw [HV4.out] at hq
      go_wp2_with fail
      refine hq.mono ?_
      rintro e wz ⟨rfl, hb⟩
      replace HB9 := Lib.hid (HB9.out.trans (hb.mono HB9.out.size))
      clear hb hq o0 o1
      go_wp2_with fail
      go_ret
      exact ⟨rfl, HB9.out⟩
    · have m1 : decide (xh < 9223372036854775807) = false := decide_eq_false (by omega)
      clear hm
      go_wp2_with fail
      go_ret
      exact ⟨rfl, HB.out⟩
end Go.Proofs.Ytimpebilgoekdaa
