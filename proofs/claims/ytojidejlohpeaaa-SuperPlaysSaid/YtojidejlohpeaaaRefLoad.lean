/-
  What is loaded of a device: the document's answer.
-/
import Derived.Test.YtojidejlohpeaaaLoad8
import Derived.Test.YtojidejlohpeaaaRefDec
import Derived.Test.YtojidejlohpeaaaRefDevs
namespace Go.Proofs.Ytojidejlohpeaaa
set_option maxRecDepth 100000
open Go.RowKit Crc Wm Sup

theorem ld_no0 {D : Dv} (h : D.readE 0 ≠ 0) : D.ldE = D.readE 0 ∧ D.ldS = Sup.zero := by
  unfold Dv.ldE Dv.ldS
  rw [if_pos h, if_pos (.inl h)]
  exact ⟨rfl, rfl⟩
theorem ld_no1 {D : Dv} (h0 : D.readE 0 = 0) (h : D.readE 1 ≠ 0) : D.ldE = D.readE 1 ∧ D.ldS = Sup.zero := by
  unfold Dv.ldE Dv.ldS
  rw [if_neg (fun g => g h0), if_pos h, if_pos (.inr h)]
  exact ⟨rfl, rfl⟩
theorem ld_yes {D : Dv} (h0 : D.readE 0 = 0) (h1 : D.readE 1 = 0) : D.ldE = pickE (D.read 0) (D.read 1) ∧ D.ldS = pick (D.read 0) (D.read 1) := by
  unfold Dv.ldE Dv.ldS
  rw [if_neg (fun g => g h0), if_neg (fun g => g h1), if_neg (fun g => by rcases g with g | g; exact g h0; exact g h1)]
  exact ⟨rfl, rfl⟩

theorem Dv.Ok.read_len {D : Dv} (h : D.Ok) (at_ : Int) : (D.read at_).length ≤ 64 := by
  unfold Dv.read
  split
  · exact Nat.zero_le _
  · split
    · rename_i hh
      exact Nat.le_of_eq (h.sector (Dv.has_lt hh).1)
    · exact Nat.zero_le _

set_option maxHeartbeats 4000000 in
theorem refload_any {w : World} {q a b c : Nat} {D : Dv} (h : IsRef w q a b c D) : Calls Try.prog 34 #[ptr q] w (SupOut w D.ldS D.ldE) := by
  have HR : Hid (∀ W, Below w.heap.size w W → IsRef W q a b c D) := Lib.hid (fun W hW => h.turn (Turn.ofBelow (S := fun _ => False) hW) (fun h => h) (fun h => h) (fun h => h))
  have HOK : Hid (∀ at_, (D.read at_).length ≤ 64) := Lib.hid (fun at_ => h.ok.read_len at_)
  clear h
  have HS0 : Hid (SupAt (w.alloc (.cells (supC Sup.zero) 23)) w.heap.size 23 Sup.zero) := Lib.hid (heap_alloc_new w _)
  have HB0 := Lib.hid (below_new w (.cells (supC Sup.zero) 23))
  have hz : supC Sup.zero = #[.int .i64 0, .int .i64 0, .int .i64 0, .int .i64 0, .int .i64 0, .int .i64 0, .int .i64 0] := rfl
  rw [hz] at HS0 HB0
  clear hz
  go_enter Try.func34, Try.ntmps34
  go_upto_region 1 with fail
  generalize w.alloc (.cells #[.int .i64 0, .int .i64 0, .int .i64 0, .int .i64 0, .int .i64 0, .int .i64 0, .int .i64 0] 23) = w0 at *
  go_wp2_with fail
  refine (drefread_any (HR.out w0 HB0.out) 0).mono ?_
  rintro e w1 ⟨A0, n0, c0, rfl, hn0, hr0, hb1, hc0, _⟩
  have HS1 := Lib.hid (HS0.out.below hb1)
  have HB1 := Lib.hid (HB0.out.trans (hb1.mono HB0.out.size))
  clear hb1 HS0 HB0
  by_cases h0 : D.readE 0 = 0
  case neg =>
    have e1 : (D.readE 0 == 0) = false := beq_eq_false_iff_ne.2 h0
    have HE := Lib.hid (ld_no0 h0)
    clear h0 hn0 hr0 hc0
    go_wp2_with (refine wpList_store_sup tyR HS1.out rfl (.tmp 2) (.tmp 18) rfl rfl Sup.zero rfl ?_; intro w6 hs6 hg6)
    exact bodyPost_ret (results_sup2 tyR rfl _ rfl _ rfl hs6) rfl ⟨by rw [HE.out.1, HE.out.2]; rfl, HB1.out.grown hg6 HB1.out.size (fun k hk => by injection hk with hk; omega)⟩
  rw [h0]
  have H0 := Lib.hid h0
  have HG0 := Lib.hid (show Lies w1 A0 c0 n0 (D.read 0) ∧ n0 ≤ 64 from ⟨⟨hr0, hn0, hc0⟩, by rw [← hn0]; exact HOK.out 0⟩)
  clear h0 hn0 hr0 hc0
  go_wp2_with fail
  refine (drefread_any (HR.out w1 HB1.out) 1).mono ?_
  rintro e w2 ⟨A1, n1, c1, rfl, hn1, hr1, hb2, hc1, _⟩
  have HS2 := Lib.hid (HS1.out.below hb2)
  have HB2 := Lib.hid (HB1.out.trans (hb2.mono HB1.out.size))
  have HG02 := Lib.hid (HG0.out.1.up hb2)
  clear hb2 HS1 HB1
  by_cases h1 : D.readE 1 = 0
  case neg =>
    have e1 : (D.readE 1 == 0) = false := beq_eq_false_iff_ne.2 h1
    have HE := Lib.hid (ld_no1 H0.out h1)
    clear h1 hn1 hr1 hc1 H0
    go_wp2_with (refine wpList_store_sup tyR HS2.out rfl (.tmp 2) (.tmp 27) rfl rfl Sup.zero rfl ?_; intro w6 hs6 hg6)
    exact bodyPost_ret (results_sup2 tyR rfl _ rfl _ rfl hs6) rfl ⟨by rw [HE.out.1, HE.out.2]; rfl, HB2.out.grown hg6 HB2.out.size (fun k hk => by injection hk with hk; omega)⟩
  rw [h1]
  have HE := Lib.hid (ld_yes H0.out h1)
  have HG1 := Lib.hid (show Lies w2 A1 c1 n1 (D.read 1) ∧ n1 ≤ 64 from ⟨⟨hr1, hn1, hc1⟩, by rw [← hn1]; exact HOK.out 1⟩)
  clear h1 hn1 hr1 hc1 H0
  go_wp2_with fail
  refine (refdec_any A0 c0 n0 (D.read 0) w2 HG02.out (by have := HG0.out.2; omega)).mono ?_
  rintro e w3 ⟨rfl, hb3⟩
  have hbx := below_new w3 (.cells #[.int .i64 0, .int .i64 0, .int .i64 0, .int .i64 0, .int .i64 0, .int .i64 0, .int .i64 0] 23)
  have HZ : Hid (SupAt (w3.alloc (.cells #[.int .i64 0, .int .i64 0, .int .i64 0, .int .i64 0, .int .i64 0, .int .i64 0, .int .i64 0] 23)) w3.heap.size 23 Sup.zero) := Lib.hid (heap_alloc_new w3 _)
  have HS3 := Lib.hid ((HS2.out.below hb3).below hbx)
  have HB3 := Lib.hid (HB2.out.trans ((below_two hb3 hbx).mono HB2.out.size))
  have hlt3 : w.heap.size < w3.heap.size := lt_of_block (HS2.out.below hb3)
  have HG13 := Lib.hid ((HG1.out.1.up hb3).up hbx)
  have HLB : Hid (∀ V : World, (w3.alloc (.cells #[.int .i64 0, .int .i64 0, .int .i64 0, .int .i64 0, .int .i64 0, .int .i64 0, .int .i64 0] 23)).grownBy V (some w3.heap.size) → Lies V A1 c1 n1 (D.read 1)) := Lib.hid (fun V hg => HG1.out.1.up (below_of_grown_new hb3 hg))
  clear hb3 hbx HS2 HB2 HG02 HG0
  obtain ⟨sa, hsa⟩ : ∃ sa, sa = decS (D.read 0) := ⟨_, rfl⟩
  rw [← hsa]
  have HSA := Lib.hid hsa
  clear hsa
  go_wp2_with (refine wpList_store_sup tyR HZ.out rfl (.tmp 7) (.tmp 32) rfl rfl sa rfl ?_; intro w4 hs4 hg4; have HA4 := Lib.hid hs4; have HS4 := Lib.hid (HS3.out.far hg4 (by omega)); have HB4 := Lib.hid (HB3.out.grown hg4 HB3.out.size (fun k hk => by injection hk with hk; omega)); have HG14 := Lib.hid (HLB.out w4 hg4); clear hs4 hg4 HZ HS3 HB3 HG13 HLB)
  refine (refdec_any A1 c1 n1 (D.read 1) w4 HG14.out (by have := HG1.out.2; omega)).mono ?_
  rintro e w5 ⟨rfl, hb5⟩
  have hbx := below_new w5 (.cells #[.int .i64 0, .int .i64 0, .int .i64 0, .int .i64 0, .int .i64 0, .int .i64 0, .int .i64 0] 23)
  have HZ : Hid (SupAt (w5.alloc (.cells #[.int .i64 0, .int .i64 0, .int .i64 0, .int .i64 0, .int .i64 0, .int .i64 0, .int .i64 0] 23)) w5.heap.size 23 Sup.zero) := Lib.hid (heap_alloc_new w5 _)
  have HA5 := Lib.hid ((HA4.out.below hb5).below hbx)
  have HS5 := Lib.hid ((HS4.out.below hb5).below hbx)
  have HB5 := Lib.hid (HB4.out.trans ((below_two hb5 hbx).mono HB4.out.size))
  have hlt5 : w.heap.size < w5.heap.size := lt_of_block (HS4.out.below hb5)
  have hltA : w3.heap.size < w5.heap.size := lt_of_block (HA4.out.below hb5)
  clear hb5 hbx HA4 HS4 HB4 HG14 HG1
  obtain ⟨sb, hsb⟩ : ∃ sb, sb = decS (D.read 1) := ⟨_, rfl⟩
  rw [← hsb]
  have HSB := Lib.hid hsb
  clear hsb
  by_cases ha : decE (D.read 0) = 0 <;> by_cases hb : decE (D.read 1) = 0

  · rw [ha, hb]
    by_cases hv : sa.V < sb.V
    · have e2 : decide (sa.V < sb.V) = true := decide_eq_true hv
      have HP : Hid (pickE (D.read 0) (D.read 1) = 0 ∧ pick (D.read 0) (D.read 1) = sb) := Lib.hid (by
        unfold pickE pick
        rw [if_pos (.inl ha), if_pos ⟨hb, .inr (by rw [← HSA.out, ← HSB.out]; exact hv)⟩, HSB.out]
        exact ⟨rfl, rfl⟩)
      clear ha hb
      go_wp2_with (first
        | (refine wpList_load_sup tyR HT6.out rfl (.tmp 9) rfl rfl ?_)
        | (refine wpList_store_sup tyR HZ.out rfl (.tmp 9) (.tmp 37) rfl rfl sb rfl ?_; intro w6 hs6 hg6; have HT6 := Lib.hid hs6; have HA6 := Lib.hid (HA5.out.far hg6 (by omega)); have HS6 := Lib.hid (HS5.out.far hg6 (by omega)); have HB6 := Lib.hid (HB5.out.grown hg6 HB5.out.size (fun k hk => by injection hk with hk; omega)); have cb : w6.cell? ⟨w5.heap.size, 0, none⟩ = some (.int .i64 sb.V) := HT6.out.cell (i := 0) (by omega); have ca : w6.cell? ⟨w3.heap.size, 0, none⟩ = some (.int .i64 sa.V) := HA6.out.cell (i := 0) (by omega); clear hs6 hg6 HZ HA5 HS5 HB5)
        | (refine wpList_store_sup tyR HS6.out rfl (.tmp 2) (.tmp 59) rfl rfl sb rfl ?_; intro w7 hs7 hg7))
      exact bodyPost_ret (results_sup2 tyR rfl _ rfl _ rfl hs7) rfl ⟨by rw [HE.out.1, HE.out.2, HP.out.1, HP.out.2]; rfl, HB6.out.grown hg7 HB6.out.size (fun k hk => by injection hk with hk; omega)⟩
    · have e2 : decide (sa.V < sb.V) = false := decide_eq_false hv
      have HP : Hid (pickE (D.read 0) (D.read 1) = 0 ∧ pick (D.read 0) (D.read 1) = sa) := Lib.hid (by
        unfold pickE pick
        rw [if_pos (.inl ha), if_neg (fun h => by rcases h.2 with g | g; exact g ha; exact hv (by rw [HSA.out, HSB.out]; exact g)), HSA.out]
        exact ⟨rfl, rfl⟩)
      clear ha hb
      go_wp2_with (first
        | (refine wpList_load_sup tyR HA6.out rfl (.tmp 7) rfl rfl ?_)
        | (refine wpList_store_sup tyR HZ.out rfl (.tmp 9) (.tmp 37) rfl rfl sb rfl ?_; intro w6 hs6 hg6; have HT6 := Lib.hid hs6; have HA6 := Lib.hid (HA5.out.far hg6 (by omega)); have HS6 := Lib.hid (HS5.out.far hg6 (by omega)); have HB6 := Lib.hid (HB5.out.grown hg6 HB5.out.size (fun k hk => by injection hk with hk; omega)); have cb : w6.cell? ⟨w5.heap.size, 0, none⟩ = some (.int .i64 sb.V) := HT6.out.cell (i := 0) (by omega); have ca : w6.cell? ⟨w3.heap.size, 0, none⟩ = some (.int .i64 sa.V) := HA6.out.cell (i := 0) (by omega); clear hs6 hg6 HZ HA5 HS5 HB5)
        | (refine wpList_store_sup tyR HS6.out rfl (.tmp 2) (.tmp 60) rfl rfl sa rfl ?_; intro w7 hs7 hg7))
      exact bodyPost_ret (results_sup2 tyR rfl _ rfl _ rfl hs7) rfl ⟨by rw [HE.out.1, HE.out.2, HP.out.1, HP.out.2]; rfl, HB6.out.grown hg7 HB6.out.size (fun k hk => by injection hk with hk; omega)⟩
  · rw [ha]
    have e2 : (decE (D.read 1) == 0) = false := beq_eq_false_iff_ne.2 hb
    have HP : Hid (pickE (D.read 0) (D.read 1) = 0 ∧ pick (D.read 0) (D.read 1) = sa) := Lib.hid (by
      unfold pickE pick
      rw [if_pos (.inl ha), if_neg (fun h => hb h.1), HSA.out]
      exact ⟨rfl, rfl⟩)
    clear ha hb
    go_wp2_with (first
      | (refine wpList_load_sup tyR HA6.out rfl (.tmp 7) rfl rfl ?_)
      | (refine wpList_store_sup tyR HZ.out rfl (.tmp 9) (.tmp 37) rfl rfl sb rfl ?_; intro w6 hs6 hg6; have HT6 := Lib.hid hs6; have HA6 := Lib.hid (HA5.out.far hg6 (by omega)); have HS6 := Lib.hid (HS5.out.far hg6 (by omega)); have HB6 := Lib.hid (HB5.out.grown hg6 HB5.out.size (fun k hk => by injection hk with hk; omega)); have cb : w6.cell? ⟨w5.heap.size, 0, none⟩ = some (.int .i64 sb.V) := HT6.out.cell (i := 0) (by omega); have ca : w6.cell? ⟨w3.heap.size, 0, none⟩ = some (.int .i64 sa.V) := HA6.out.cell (i := 0) (by omega); clear hs6 hg6 HZ HA5 HS5 HB5)
      | (refine wpList_store_sup tyR HS6.out rfl (.tmp 2) (.tmp 60) rfl rfl sa rfl ?_; intro w7 hs7 hg7))
    exact bodyPost_ret (results_sup2 tyR rfl _ rfl _ rfl hs7) rfl ⟨by rw [HE.out.1, HE.out.2, HP.out.1, HP.out.2]; rfl, HB6.out.grown hg7 HB6.out.size (fun k hk => by injection hk with hk; omega)⟩
  · rw [hb]
    have e1 : (decE (D.read 0) == 0) = false := beq_eq_false_iff_ne.2 ha
    have b1 : (decE (D.read 0) != 0) = true := bne_iff_ne.2 ha
    have HP : Hid (pickE (D.read 0) (D.read 1) = 0 ∧ pick (D.read 0) (D.read 1) = sb) := Lib.hid (by
      unfold pickE pick
      rw [if_pos (.inr hb), if_pos ⟨hb, .inl ha⟩, HSB.out]
      exact ⟨rfl, rfl⟩)
    skip
    go_wp2_with (first
      | (refine wpList_load_sup tyR HT6.out rfl (.tmp 9) rfl rfl ?_)
      | (refine wpList_store_sup tyR HZ.out rfl (.tmp 9) (.tmp 37) rfl rfl sb rfl ?_; intro w6 hs6 hg6; have HT6 := Lib.hid hs6; have HA6 := Lib.hid (HA5.out.far hg6 (by omega)); have HS6 := Lib.hid (HS5.out.far hg6 (by omega)); have HB6 := Lib.hid (HB5.out.grown hg6 HB5.out.size (fun k hk => by injection hk with hk; omega)); have cb : w6.cell? ⟨w5.heap.size, 0, none⟩ = some (.int .i64 sb.V) := HT6.out.cell (i := 0) (by omega); have ca : w6.cell? ⟨w3.heap.size, 0, none⟩ = some (.int .i64 sa.V) := HA6.out.cell (i := 0) (by omega); clear hs6 hg6 HZ HA5 HS5 HB5)
      | (refine wpList_store_sup tyR HS6.out rfl (.tmp 2) (.tmp 59) rfl rfl sb rfl ?_; intro w7 hs7 hg7))
    exact bodyPost_ret (results_sup2 tyR rfl _ rfl _ rfl hs7) rfl ⟨by rw [HE.out.1, HE.out.2, HP.out.1, HP.out.2]; rfl, HB6.out.grown hg7 HB6.out.size (fun k hk => by injection hk with hk; omega)⟩
  · have e1 : (decE (D.read 0) == 0) = false := beq_eq_false_iff_ne.2 ha
    have e2 : (decE (D.read 1) == 0) = false := beq_eq_false_iff_ne.2 hb
    have b1 : (decE (D.read 0) != 0) = true := bne_iff_ne.2 ha
    have b2 : (decE (D.read 1) != 0) = true := bne_iff_ne.2 hb
    have HP : Hid (pickE (D.read 0) (D.read 1) = 6 ∧ pick (D.read 0) (D.read 1) = Sup.zero) := Lib.hid (by
      unfold pickE pick
      rw [if_neg (fun h => by rcases h with h | h; exact ha h; exact hb h), if_neg (fun h => hb h.1), decE_not ha]
      exact ⟨rfl, rfl⟩)
    skip
    go_wp2_with (first
      | (refine wpList_store_sup tyR HZ.out rfl (.tmp 9) (.tmp 37) rfl rfl sb rfl ?_; intro w6 hs6 hg6; have HT6 := Lib.hid hs6; have HA6 := Lib.hid (HA5.out.far hg6 (by omega)); have HS6 := Lib.hid (HS5.out.far hg6 (by omega)); have HB6 := Lib.hid (HB5.out.grown hg6 HB5.out.size (fun k hk => by injection hk with hk; omega)); have cb : w6.cell? ⟨w5.heap.size, 0, none⟩ = some (.int .i64 sb.V) := HT6.out.cell (i := 0) (by omega); have ca : w6.cell? ⟨w3.heap.size, 0, none⟩ = some (.int .i64 sa.V) := HA6.out.cell (i := 0) (by omega); clear hs6 hg6 HZ HA5 HS5 HB5)
      | (refine wpList_store_sup tyR HS6.out rfl (.tmp 2) (.tmp 45) rfl rfl Sup.zero rfl ?_; intro w7 hs7 hg7))
    exact bodyPost_ret (results_sup2 tyR rfl _ rfl _ rfl hs7) rfl ⟨by rw [HE.out.1, HE.out.2, HP.out.1, HP.out.2]; rfl, HB6.out.grown hg7 HB6.out.size (fun k hk => by injection hk with hk; omega)⟩

end Go.Proofs.Ytojidejlohpeaaa
