/-
  Any super's sector: the document's answer.
-/
import Derived.Test.YtojidejlohpeaaaRefSane
import Derived.Test.YtojidejlohpeaaaEnc8
namespace Go.Proofs.Ytojidejlohpeaaa
set_option maxRecDepth 100000
open Go.RowKit Crc Wm Sup

/-- 'append' onto a literal's full row -/
theorem run_append_full {P : Program} (t ty : TypeId) (i : TypeInfo) (ht : P.underlying t = some (.slice 5)) (hi : P.info? 5 = some i) (hz : i.zero = some (.int .u8 0)) (hsize : i.size = 1) (hby : i.bytes = 1)
    {w : World} {B g h n m : Nat} {c : Nat} {l1 l2 : List UInt8} (r1 : Rd w B (some ⟨g, 0, none⟩) l1) (h1 : l1.length = n) (r2 : Rd w B (some ⟨h, 0, none⟩) l2) (h2 : l2.length = m) (hn : 0 < n) (hm : 0 < m) (hb : n + m ≤ 1000000) :
    ∃ c' w', (Builtin.append_ #[t, t] ty #[.slice (some ⟨g, 0, none⟩) n n, .slice (some ⟨h, 0, none⟩) m c]).run P w = .ok (.slice (some ⟨w.heap.size, 0, none⟩) (n + m) c') w' ∧ Owns w' w.heap.size (some ⟨w.heap.size, 0, none⟩) c' (n + m) (l1 ++ l2) ∧ Below w.heap.size w w' := by
  have cells : ∀ {g : Nat} {l : List UInt8} {n : Nat}, Rd w B (some ⟨g, 0, none⟩) l → l.length = n → 0 < n → ∀ j u, (byteVs l)[j]? = some u → w.cell? ((⟨g, 0, none⟩ : Addr).add j) = some u := by
    intro g l n r hl hn j u hu
    rcases r with h0 | ⟨b, o, e, _, hc⟩
    · subst h0; simp at hl; omega
    · injection e with e
      injection e with e1 e2
      subst e1 e2
      rw [addr_add]
      rw [byteVs, List.getElem?_map] at hu
      cases hx : l[j]? with
      | none => rw [hx] at hu; cases hu
      | some x =>
        rw [hx] at hu
        injection hu with hu
        rw [← hu]
        exact hc j x hx
  have hr := run_append_grow (P := P) w t ty 5 i (.int .u8 0) ht hi hz ⟨g, 0, none⟩ n n (byteVs l1) (by rw [length_byteVs, h1, hsize, Nat.mul_one]) (cells r1 h1 hn) ⟨h, 0, none⟩ m c (byteVs l2) (by rw [length_byteVs, h2, hsize, Nat.mul_one]) (cells r2 h2 hm) (by omega) (by omega) (growslice_fits (by omega) (by rw [hby]; omega))
  refine ⟨_, _, hr, ⟨?_, .inr ⟨w.heap.size, _, _, rfl, Nat.le_refl _, heap_alloc_new w.drew _, grownCap_ge w (n + m) n 5, grownCap_le_maxLen w (n + m) n 5 (by unfold maxLen; omega), ?_, ?_⟩⟩, ?_⟩
  · rw [length_byteVs, List.length_append]; omega
  · have hge := grownCap_ge w (n + m) n 5
    rw [zeroCells_bytes]
    simp only [Array.size_append, List.size_toArray, length_byteVs, List.length_replicate]
    omega
  · have hL : (byteVs (l1 ++ l2)).length = (n + m) * 1 := by rw [length_byteVs, List.length_append]; omega
    rw [zeroCells_bytes]
    simp only [Array.toList_append]
    rw [← byteVs_append, ← hL, List.take_left]
  · exact ⟨rfl, rfl, rfl, by simp, fun j hj => heap_alloc_old w.drew _ hj⟩

def name6 : List UInt8 := [72, 69, 82, 79, 78, 49]
theorem name6_rd (w : World) : Rd (w.alloc (.cells #[.int .u8 72, .int .u8 69, .int .u8 82, .int .u8 79, .int .u8 78, .int .u8 49] 5 (6, 7))) (w.heap.size + 1) (some ⟨w.heap.size, 0, none⟩) name6 := by
  refine .inr ⟨_, 0, rfl, by omega, fun j y hy => ?_⟩
  rw [Nat.zero_add, cell_of_row _ _ _ _ _ _ (heap_alloc_new w _)]
  rcases j with _ | _ | _ | _ | _ | _ | j
  all_goals first | (injection hy with hy; subst hy; rfl) | cases hy

set_option maxHeartbeats 4000000 in
theorem refenc_any (w : World) (s : Sup) : Calls Try.prog 13 #[supV s] w (EncOut w s) := by
  have hs0 : SupAt (w.alloc (.cells (supC s) 23)) w.heap.size 23 s := heap_alloc_new w _
  have hb0 := below_new w (.cells (supC s) 23)
  have hsane := fun W => refsane_any W s
  unfold supV at *
  by_cases hm : s.May
  · rw [decide_eq_true hm] at hsane
    have HM := Lib.hid hm
    have HSN := Lib.hid hsane
    clear hm hsane
    obtain ⟨C, hC⟩ : ∃ C, C = supC s := ⟨_, rfl⟩
    rw [← hC] at hs0 hb0 ⊢
    have HC := Lib.hid hC
    have HS0 := Lib.hid hs0
    have HB0 := Lib.hid hb0
    clear hs0 hb0 hC
    go_enter Try.func13, Try.ntmps13
    go_upto_region 1 with fail
    generalize w.alloc (.cells C 23) = w0 at *
    obtain ⟨c0, c1, c2, c3, c4, c5, c6⟩ := HS0.out.seven
    go_wp2_with fail
    refine (HSN.out w0).mono ?_
    rintro e w1 ⟨rfl, hb1⟩
    have HS1 := Lib.hid (HS0.out.below hb1)
    have HB1 := Lib.hid (HB0.out.trans (hb1.mono HB0.out.size))
    clear c0 c1 c2 c3 c4 c5 c6 hb1 HS0 HB0
    have kc := Lib.run_convert_bytes_const (P := Try.prog) w1 24 5 #[.int .u8 72, .int .u8 69, .int .u8 82, .int .u8 79, .int .u8 78, .int .u8 49] 6 6 Try.underlying24 Try.underlying5
    have hrn := name6_rd w1
    have hz6 : (w1.alloc (.cells #[.int .u8 72, .int .u8 69, .int .u8 82, .int .u8 79, .int .u8 78, .int .u8 49] 5 (6, 7))).heap.size = w1.heap.size + 1 := by simp
    have hr2 := rd_two (w1.alloc (.cells #[.int .u8 72, .int .u8 69, .int .u8 82, .int .u8 79, .int .u8 78, .int .u8 49] 5 (6, 7))) 0 0 0 0 rfl rfl
    have hb6 := below_new w1 (.cells #[.int .u8 72, .int .u8 69, .int .u8 82, .int .u8 79, .int .u8 78, .int .u8 49] 5 (6, 7))
    have hb7 := below_new (w1.alloc (.cells #[.int .u8 72, .int .u8 69, .int .u8 82, .int .u8 79, .int .u8 78, .int .u8 49] 5 (6, 7))) (.cells #[.int .u8 0, .int .u8 0] 5)
    obtain ⟨i0, hi, hz0, hz1, hz2⟩ := info_parts byte_facts
    rw [hz6] at hr2
    obtain ⟨cc0, w2, hrun, ho2, hb8⟩ := run_append_full (P := Try.prog) 24 24 i0 Try.underlying24 hi hz0 hz1 hz2 (n := 6) (m := 2) (c := 2) ((hrn.below' hb7 (Nat.le_of_eq hz6.symm)).more (Nat.le_succ _)) rfl hr2 rfl (by omega) (by omega) (by omega)
    have hsz7 := hb7.size
    have hsz6 := hb6.size
    have HO0 : Hid (Owns w2 w.heap.size (some ⟨((w1.alloc (.cells #[.int .u8 72, .int .u8 69, .int .u8 82, .int .u8 79, .int .u8 78, .int .u8 49] 5 (6, 7))).alloc (.cells #[.int .u8 0, .int .u8 0] 5)).heap.size, 0, none⟩) cc0 8 (s.headTo 0)) := Lib.hid (ho2.base_le (by have := HB1.out.size; omega))
    have HP0 : Hid (Below w.heap.size w w2) := Lib.hid (HB1.out.trans ((below_two hb6 (below_two hb7 hb8)).mono HB1.out.size))
    have HT0 : Hid (SupAt w2 w.heap.size 23 s) := Lib.hid (HS1.out.below (below_two hb6 (below_two hb7 hb8)))
    clear ho2 hb8 hsz7 hsz6 hb6 hb7 hr2 hrn HS1 HB1 hi hz0 hz1 hz2
    simp only [World.size_alloc] at hrun HO0
    generalize hA0 : (some ⟨w1.heap.size + 1 + 1, 0, none⟩ : Option Addr) = A0 at hrun HO0
    clear hA0
    go_upto_region 3 with fail

    have hbd := okTo_all.2 HM.out 0 (by omega)
    obtain ⟨X0, hX⟩ : ∃ X : Nat, s.at_ 0 = (X : Int) := ⟨(s.at_ 0).toNat, by have h : lo 0 = 0 := rfl; omega⟩
    have ci := HT0.out.cell (i := 0) (by omega)
    rw [hX] at ci
    have hxb : X0 ≤ 9223372036854775807 := by have h := (pow_sz 0 (by omega)).2.1; omega
    have hwX : IntKind.u64.wrap (X0 : Int) = (X0 : Int) := by rw [IntWalk.u64_in _ ⟨by omega, by omega⟩]
    have HN : Hid (s.headTo 1 = s.headTo 0 ++ putB 8 X0) := Lib.hid (by rw [headTo_succ, hX]; rfl)
    clear hX hbd
    go_wp2_with (at_builtin; refine Lib.wpList_append_run _ rfl _ _ _ _ rfl _ _ rfl rfl _ _ hrun ?_; clear hrun kc)
    refine (refput_core A0 cc0 8 (s.headTo 0) (Lib.hid HO0.out.len) X0 8 8 _ HO0.out.read (by omega) (by omega) (by omega) (.inr (.inl ⟨by omega, by omega, by omega⟩))).mono ?_
    rintro e v1 ⟨A1, cc1, rfl, ho, hb⟩
    have HO1 : Hid (Owns v1 w.heap.size A1 cc1 16 (s.headTo 1)) := Lib.hid (by rw [HN.out]; exact ho.base_le HP0.out.size)
    have HP1 : Hid (Below w.heap.size w v1) := Lib.hid (HP0.out.trans (hb.mono HP0.out.size))
    have HT1 : Hid (SupAt v1 w.heap.size 23 s) := Lib.hid (HT0.out.below hb)
    clear ho hb ci hwX hxb HN HO0 HP0 HT0
    have hbd := okTo_all.2 HM.out 1 (by omega)
    obtain ⟨X1, hX⟩ : ∃ X : Nat, s.at_ 1 = (X : Int) := ⟨(s.at_ 1).toNat, by have h : lo 1 = 0 := rfl; omega⟩
    have ci := HT1.out.cell (i := 1) (by omega)
    rw [hX] at ci
    have hxb : X1 ≤ 9223372036854775807 := by have h := (pow_sz 1 (by omega)).2.1; omega
    have hwX : IntKind.u64.wrap (X1 : Int) = (X1 : Int) := by rw [IntWalk.u64_in _ ⟨by omega, by omega⟩]
    have HN : Hid (s.headTo 2 = s.headTo 1 ++ putB 4 X1) := Lib.hid (by rw [headTo_succ, hX]; rfl)
    clear hX hbd
    go_wp2_with fail
    refine (refput_core A1 cc1 16 (s.headTo 1) (Lib.hid HO1.out.len) X1 4 4 _ HO1.out.read (by omega) (by omega) (by omega) (.inr (.inl ⟨by omega, by omega, by omega⟩))).mono ?_
    rintro e v2 ⟨A2, cc2, rfl, ho, hb⟩
    have HO2 : Hid (Owns v2 w.heap.size A2 cc2 20 (s.headTo 2)) := Lib.hid (by rw [HN.out]; exact ho.base_le HP1.out.size)
    have HP2 : Hid (Below w.heap.size w v2) := Lib.hid (HP1.out.trans (hb.mono HP1.out.size))
    have HT2 : Hid (SupAt v2 w.heap.size 23 s) := Lib.hid (HT1.out.below hb)
    clear ho hb ci hwX hxb HN HO1 HP1 HT1
    have hbd := okTo_all.2 HM.out 2 (by omega)
    obtain ⟨X2, hX⟩ : ∃ X : Nat, s.at_ 2 = (X : Int) := ⟨(s.at_ 2).toNat, by have h : lo 2 = 0 := rfl; omega⟩
    have ci := HT2.out.cell (i := 2) (by omega)
    rw [hX] at ci
    have hxb : X2 ≤ 9223372036854775807 := by have h := (pow_sz 2 (by omega)).2.1; omega
    have hwX : IntKind.u64.wrap (X2 : Int) = (X2 : Int) := by rw [IntWalk.u64_in _ ⟨by omega, by omega⟩]
    have HN : Hid (s.headTo 3 = s.headTo 2 ++ putB 2 X2) := Lib.hid (by rw [headTo_succ, hX]; rfl)
    clear hX hbd
    go_wp2_with fail
    refine (refput_core A2 cc2 20 (s.headTo 2) (Lib.hid HO2.out.len) X2 2 2 _ HO2.out.read (by omega) (by omega) (by omega) (.inr (.inl ⟨by omega, by omega, by omega⟩))).mono ?_
    rintro e v3 ⟨A3, cc3, rfl, ho, hb⟩
    have HO3 : Hid (Owns v3 w.heap.size A3 cc3 22 (s.headTo 3)) := Lib.hid (by rw [HN.out]; exact ho.base_le HP2.out.size)
    have HP3 : Hid (Below w.heap.size w v3) := Lib.hid (HP2.out.trans (hb.mono HP2.out.size))
    have HT3 : Hid (SupAt v3 w.heap.size 23 s) := Lib.hid (HT2.out.below hb)
    clear ho hb ci hwX hxb HN HO2 HP2 HT2
    have hbd := okTo_all.2 HM.out 3 (by omega)
    obtain ⟨X3, hX⟩ : ∃ X : Nat, s.at_ 3 = (X : Int) := ⟨(s.at_ 3).toNat, by have h : lo 3 = 0 := rfl; omega⟩
    have ci := HT3.out.cell (i := 3) (by omega)
    rw [hX] at ci
    have hxb : X3 ≤ 9223372036854775807 := by have h := (pow_sz 3 (by omega)).2.1; omega
    have hwX : IntKind.u64.wrap (X3 : Int) = (X3 : Int) := by rw [IntWalk.u64_in _ ⟨by omega, by omega⟩]
    have HN : Hid (s.headTo 4 = s.headTo 3 ++ putB 2 X3) := Lib.hid (by rw [headTo_succ, hX]; rfl)
    clear hX hbd
    go_wp2_with fail
    refine (refput_core A3 cc3 22 (s.headTo 3) (Lib.hid HO3.out.len) X3 2 2 _ HO3.out.read (by omega) (by omega) (by omega) (.inr (.inl ⟨by omega, by omega, by omega⟩))).mono ?_
    rintro e v4 ⟨A4, cc4, rfl, ho, hb⟩
    have HO4 : Hid (Owns v4 w.heap.size A4 cc4 24 (s.headTo 4)) := Lib.hid (by rw [HN.out]; exact ho.base_le HP3.out.size)
    have HP4 : Hid (Below w.heap.size w v4) := Lib.hid (HP3.out.trans (hb.mono HP3.out.size))
    have HT4 : Hid (SupAt v4 w.heap.size 23 s) := Lib.hid (HT3.out.below hb)
    clear ho hb ci hwX hxb HN HO3 HP3 HT3
    have hbd := okTo_all.2 HM.out 4 (by omega)
    obtain ⟨X4, hX⟩ : ∃ X : Nat, s.at_ 4 = (X : Int) := ⟨(s.at_ 4).toNat, by have h : lo 4 = 1 := rfl; omega⟩
    have ci := HT4.out.cell (i := 4) (by omega)
    rw [hX] at ci
    have hxb : X4 ≤ 9223372036854775807 := by have h := (pow_sz 4 (by omega)).2.1; omega
    have hwX : IntKind.u64.wrap (X4 : Int) = (X4 : Int) := by rw [IntWalk.u64_in _ ⟨by omega, by omega⟩]
    have HN : Hid (s.headTo 5 = s.headTo 4 ++ putB 2 X4) := Lib.hid (by rw [headTo_succ, hX]; rfl)
    clear hX hbd
    go_wp2_with fail
    refine (refput_core A4 cc4 24 (s.headTo 4) (Lib.hid HO4.out.len) X4 2 2 _ HO4.out.read (by omega) (by omega) (by omega) (.inr (.inl ⟨by omega, by omega, by omega⟩))).mono ?_
    rintro e v5 ⟨A5, cc5, rfl, ho, hb⟩
    have HO5 : Hid (Owns v5 w.heap.size A5 cc5 26 (s.headTo 5)) := Lib.hid (by rw [HN.out]; exact ho.base_le HP4.out.size)
    have HP5 : Hid (Below w.heap.size w v5) := Lib.hid (HP4.out.trans (hb.mono HP4.out.size))
    have HT5 : Hid (SupAt v5 w.heap.size 23 s) := Lib.hid (HT4.out.below hb)
    clear ho hb ci hwX hxb HN HO4 HP4 HT4
    have hbd := okTo_all.2 HM.out 5 (by omega)
    obtain ⟨X5, hX⟩ : ∃ X : Nat, s.at_ 5 = (X : Int) := ⟨(s.at_ 5).toNat, by have h : lo 5 = 0 := rfl; omega⟩
    have ci := HT5.out.cell (i := 5) (by omega)
    rw [hX] at ci
    have hxb : X5 ≤ 9223372036854775807 := by have h := (pow_sz 5 (by omega)).2.1; omega
    have hwX : IntKind.u64.wrap (X5 : Int) = (X5 : Int) := by rw [IntWalk.u64_in _ ⟨by omega, by omega⟩]
    have HN : Hid (s.headTo 6 = s.headTo 5 ++ putB 8 X5) := Lib.hid (by rw [headTo_succ, hX]; rfl)
    clear hX hbd
    go_wp2_with fail
    refine (refput_core A5 cc5 26 (s.headTo 5) (Lib.hid HO5.out.len) X5 8 8 _ HO5.out.read (by omega) (by omega) (by omega) (.inr (.inl ⟨by omega, by omega, by omega⟩))).mono ?_
    rintro e v6 ⟨A6, cc6, rfl, ho, hb⟩
    have HO6 : Hid (Owns v6 w.heap.size A6 cc6 34 (s.headTo 6)) := Lib.hid (by rw [HN.out]; exact ho.base_le HP5.out.size)
    have HP6 : Hid (Below w.heap.size w v6) := Lib.hid (HP5.out.trans (hb.mono HP5.out.size))
    have HT6 : Hid (SupAt v6 w.heap.size 23 s) := Lib.hid (HT5.out.below hb)
    clear ho hb ci hwX hxb HN HO5 HP5 HT5
    have hbd := okTo_all.2 HM.out 6 (by omega)
    obtain ⟨X6, hX⟩ : ∃ X : Nat, s.at_ 6 = (X : Int) := ⟨(s.at_ 6).toNat, by have h : lo 6 = 0 := rfl; omega⟩
    have ci := HT6.out.cell (i := 6) (by omega)
    rw [hX] at ci
    have hxb : X6 ≤ 9223372036854775807 := by have h := (pow_sz 6 (by omega)).2.1; omega
    have hwX : IntKind.u64.wrap (X6 : Int) = (X6 : Int) := by rw [IntWalk.u64_in _ ⟨by omega, by omega⟩]
    have HN : Hid (s.headTo 7 = s.headTo 6 ++ putB 8 X6) := Lib.hid (by rw [headTo_succ, hX]; rfl)
    clear hX hbd
    go_wp2_with fail
    refine (refput_core A6 cc6 34 (s.headTo 6) (Lib.hid HO6.out.len) X6 8 8 _ HO6.out.read (by omega) (by omega) (by omega) (.inr (.inl ⟨by omega, by omega, by omega⟩))).mono ?_
    rintro e v7 ⟨A7, cc7, rfl, ho, hb⟩
    have HO7 : Hid (Owns v7 w.heap.size A7 cc7 42 (s.headTo 7)) := Lib.hid (by rw [HN.out]; exact ho.base_le HP6.out.size)
    have HP7 : Hid (Below w.heap.size w v7) := Lib.hid (HP6.out.trans (hb.mono HP6.out.size))
    have HT7 : Hid (SupAt v7 w.heap.size 23 s) := Lib.hid (HT6.out.below hb)
    clear ho hb ci hwX hxb HN HO6 HP6 HT6
    go_wp2_with fail
    go_loopg [4] 18 (fun gn b wr => ∃ (o : Nat) (A : Option Addr) (c : Nat), b = .slice A o c ∧ 42 ≤ o ∧ o + gn = 60 ∧ Hid (Owns wr w.heap.size A c o (s.headTo 7 ++ List.replicate (o - 42) 0)) ∧ Hid (Below w.heap.size w wr))
    case atStart => exact ⟨42, A7, cc7, rfl, by omega, by omega, Lib.hid (by rw [Nat.sub_self, List.replicate_zero, List.append_nil]; exact HO7.out), HP7⟩
    case round =>
      obtain ⟨o, A, c, rfl, ho42, hog, HOW, HBW⟩ := hrel
      obtain ⟨i0, hi, hz0, hz1, hz2⟩ := info_parts byte_facts
      rcases Nat.lt_or_ge o 60 with hlt | hge
      · have hdj : decide ((o : Int) < 60) = true := decide_eq_true (by omega)
        go_wp2_with (at_builtin; refine wpList_append_rd rfl (.tmp 50) (.tmp 51) _ rfl w.heap.size i0 Try.underlying24 hi hz0 hz1 hz2 (.slice A o c) o _ rfl (HOW.out.alloc _) _ _ [0] 1 1 rfl (rd_one _ 0 0 rfl) rfl (by omega) (Nat.le_trans HBW.out.size (by simp)) ?_; intro v2 w3 hown2 hg2 hat2)
        all_goals
          obtain ⟨A2, c2, rfl, ho2, hb2⟩ := append_step HOW.out HBW.out HBW.out.size hown2 hg2
          have HO2 : Hid (Owns w3 w.heap.size A2 c2 (o + 1) (s.headTo 7 ++ List.replicate (o + 1 - 42) 0)) := Lib.hid (by
            rw [show o + 1 - 42 = (o - 42) + 1 from by omega, List.replicate_succ', ← List.append_assoc]
            exact ho2)
          have HB2 := Lib.hid hb2
          clear ho2 hb2 hown2 hg2 hat2 hi hz0 hz1 hz2
          go_roundg (gk - 1)
          case measure => omega
          case rel => exact ⟨o + 1, A2, c2, rfl, by omega, by omega, HO2, HB2⟩
      · obtain rfl : o = 60 := by omega
        have HO8 : Hid (Owns wr w.heap.size A c 60 s.body) := HOW
        clear HOW hi hz0 hz1 hz2 HO7 HP7 HT7
        go_wp2_with fail
        refine (refseal_any A c 60 s.body (Lib.hid (length_body s)) _ HO8.out.read (by omega)).mono ?_
        rintro e w5 ⟨A5, c5, rfl, ho5, hb5⟩
        have HO5 := Lib.hid ho5
        have HB5 := Lib.hid hb5
        clear ho5 hb5
        go_wp2_with fail
        go_ret2
        unfold EncOut encE encB
        rw [if_pos HM.out, if_pos HM.out]
        exact ⟨A5, 64, c5, rfl, (length_sector s).symm, HO5.out.base_le HBW.out.size, HBW.out.trans (HB5.out.mono HBW.out.size)⟩
  · rw [decide_eq_false hm] at hsane
    have HM := Lib.hid hm
    have HSN := Lib.hid hsane
    clear hm hsane
    obtain ⟨C, hC⟩ : ∃ C, C = supC s := ⟨_, rfl⟩
    rw [← hC] at hs0 hb0 ⊢
    have HC := Lib.hid hC
    have HS0 := Lib.hid hs0
    have HB0 := Lib.hid hb0
    clear hs0 hb0 hC
    go_enter Try.func13, Try.ntmps13
    go_upto_region 1 with fail
    generalize w.alloc (.cells C 23) = w0 at *
    obtain ⟨c0, c1, c2, c3, c4, c5, c6⟩ := HS0.out.seven
    go_wp2_with fail
    refine (HSN.out w0).mono ?_
    rintro e w1 ⟨rfl, hb1⟩
    have HB1 := Lib.hid (HB0.out.trans (hb1.mono HB0.out.size))
    clear c0 c1 c2 c3 c4 c5 c6 hb1 HS0 HB0
    go_wp2_with fail
    go_ret2
    unfold EncOut encE encB
    rw [if_neg HM.out, if_neg HM.out]
    exact ⟨none, 0, 0, rfl, rfl, ⟨rfl, .inl ⟨rfl, rfl⟩⟩, HB1.out⟩

end Go.Proofs.Ytojidejlohpeaaa
