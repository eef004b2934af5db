/-
  What is saved on a device: the program's answer.
-/
import Derived.Test.YtojidejlohpeaaaLoad8
namespace Go.Proofs.Ytojidejlohpeaaa
set_option maxRecDepth 100000
open Go.RowKit Crc Wm Sup

theorem Owns.firm {X : Nat → Prop} {w : World} {base : Nat} {A : Option Addr} {cap n : Nat} {l : List UInt8} (h : Owns w base A cap n l) (hn : 0 < n) (hx : ∀ k, X k → k < base) : Firm X w A l := by
  obtain ⟨g, rfl, hl, hb, hc, _⟩ := h.at_ hn
  exact Firm.block (fun hk => by have := hx g hk; omega) hl hc

/-- the super that was handed in, and the result; what turned is the device's -/
structure Sv (w W : World) (X : Nat → Prop) (t : TypeId) (s : Sup) : Prop where
  own : SupAt W w.heap.size t s
  res : SupAt W (w.heap.size + 1) t Sup.zero
  turn : Turn X w W
  lt : ∀ k, X k → k < w.heap.size
section
variable {w W V : World} {X : Nat → Prop} {t : TypeId} {s s' : Sup}
theorem Sv.below (h : Sv w W X t s) (hb : Below W.heap.size W V) : Sv w V X t s := ⟨h.own.below hb, h.res.below hb, h.turn.trans (Turn.ofBelow hb), h.lt⟩
theorem Sv.dev (h : Sv w W X t s) (ht : Turn X W V) : Sv w V X t s := by
  refine ⟨?_, ?_, h.turn.trans ht, h.lt⟩
  · exact (ht.block _ (lt_of_block h.own) (fun hk => by have := h.lt _ hk; omega)).trans h.own
  · exact (ht.block _ (lt_of_block h.res) (fun hk => by have := h.lt _ hk; omega)).trans h.res
theorem Sv.set (h : Sv w W X t s) (hg : W.grownBy V (some w.heap.size)) (hs : SupAt V w.heap.size t s') : Sv w V X t s' :=
  ⟨hs, h.res.far hg (by omega), h.turn.grown hg (fun j hj => .inr (by injection hj with hj; omega)), h.lt⟩
theorem Sv.start (w : World) (X : Nat → Prop) (t : TypeId) (s : Sup) (hx : ∀ k, X k → k < w.heap.size) : Sv w ((w.alloc (.cells (supC s) t)).alloc (.cells (supC Sup.zero) t)) X t s := by
  refine ⟨SupAt.below (show SupAt _ w.heap.size t s from heap_alloc_new w _) (below_new _ (.cells (supC Sup.zero) t)), ?_, ((Turn.refl _ _).alloc _).alloc _, hx⟩
  have h2 := heap_alloc_new (w.alloc (.cells (supC s) t)) (.cells (supC Sup.zero) t)
  rw [World.size_alloc] at h2
  exact h2
/-- the version counted up -/
theorem Sv.next (h : Sv w W X t s) : Sv w (W.setCell ⟨w.heap.size, 0, none⟩ (.int .i64 (s.V + 1))) X t s.next := by
  refine h.set (setCell_grown W w.heap.size 0 _) ?_
  show (W.setCell ⟨w.heap.size, 0, none⟩ (.int .i64 (s.V + 1))).heap[w.heap.size]? = _
  rw [heap_setCell_same _ _ _ _ _ _ h.own]
  rfl
end

/-- Save's post -/
def SaveOut (w : World) (X : Nat → Prop) (I : World → Dv → Prop) (D : Dv) (s : Sup) (e : Ending) (w' : World) : Prop :=
  e = .returned (.tuple #[supV (D.svS s), .int .i64 (D.svE s)]) ∧ I w' (D.svD s) ∧ Turn X w w'

theorem save_bad {D : Dv} {s : Sup} (h : ¬ (s.May ∧ s.V ≠ 281474976710656)) : D.svE s = 1 ∧ D.svS s = Sup.zero ∧ D.svD s = D := by
  have h1 : D.svE s = 1 := if_neg h
  exact ⟨h1, by unfold Dv.svS; rw [h1]; rfl, if_neg h⟩
theorem save_wr {D : Dv} {s : Sup} (h : s.May ∧ s.V ≠ 281474976710656) (he : D.svE1 s ≠ 0) : D.svE s = D.svE1 s ∧ D.svS s = Sup.zero ∧ D.svD s = D.sv1 s := by
  have h1 : D.svE s = D.svE1 s := by unfold Dv.svE; rw [if_pos h, if_pos he]
  exact ⟨h1, by unfold Dv.svS; rw [h1, if_neg he], by unfold Dv.svD; rw [if_pos h, if_pos he]⟩
theorem save_fl {D : Dv} {s : Sup} (h : s.May ∧ s.V ≠ 281474976710656) (he : D.svE1 s = 0) : D.svE s = (D.sv1 s).flushE ∧ D.svD s = (D.sv1 s).flush := by
  exact ⟨by unfold Dv.svE; rw [if_pos h, if_neg (fun g => g he)], by unfold Dv.svD; rw [if_pos h, if_neg (fun g => g he)]⟩

set_option maxHeartbeats 4000000 in
theorem save_any {w : World} {p L M : Nat} {D : Dv} (h : IsDev w p L M D) (hf : D.spent ≤ 999999) (s : Sup) : Calls Try.prog 24 #[ptr p, supV s] w (SaveOut w (DS p L M) (fun V E => IsDev V p L M E) D s) := by
  have HSV := Lib.hid (Sv.start w (DS p L M) 29 s (fun k hk => by have := h.lt; rcases hk with rfl | rfl | rfl <;> omega))
  have HD0 : Hid (IsDev ((w.alloc (.cells (supC s) 29)).alloc (.cells (supC Sup.zero) 29)) p L M D) := Lib.hid (h.turn (S := fun _ => False) (((Turn.refl _ _).alloc _).alloc _) (fun h => h) (fun h => h) (fun h => h))
  have hsane := fun W => sane_any W s
  have HNE : Hid (∀ k, (DS p L M) k → k ≠ w.heap.size) := Lib.hid (fun k hk e => by have h1 := HSV.out.lt k hk; omega)
  clear h
  have hz : supC Sup.zero = #[.int .i64 0, .int .i64 0, .int .i64 0, .int .i64 0, .int .i64 0, .int .i64 0, .int .i64 0] := rfl
  rw [hz] at HSV HD0
  clear hz
  unfold supV
  obtain ⟨C, hC⟩ : ∃ C, C = supC s := ⟨_, rfl⟩
  rw [← hC] at HSV HD0 ⊢
  clear hC
  by_cases hm : s.May
  case neg =>
    rw [decide_eq_false hm] at hsane
    have HX := Lib.hid (save_bad (D := D) (s := s) (fun g => hm g.1))
    have HSN := Lib.hid hsane
    clear hsane hm
    go_enter Try.func24, Try.ntmps24
    go_upto_region 1 with fail
    generalize (w.alloc (.cells C 29)).alloc (.cells #[.int .i64 0, .int .i64 0, .int .i64 0, .int .i64 0, .int .i64 0, .int .i64 0, .int .i64 0] 29) = w0 at *
    go_wp2_with (refine wpList_load_sup tyP HSV.out.own rfl (.tmp 3) rfl rfl ?_)
    refine (HSN.out w0).mono ?_
    rintro e w1 ⟨rfl, hb1⟩
    have HS1 := Lib.hid (HSV.out.below hb1)
    have HD1 := Lib.hid (HD0.out.turn (Turn.ofBelow (S := fun _ => False) hb1) (fun h => h) (fun h => h) (fun h => h))
    clear hb1 HSV HD0
    go_wp2_with (refine wpList_store_sup tyP HS1.out.res rfl (.tmp 4) (.tmp 13) rfl rfl Sup.zero rfl ?_; intro w2 hs2 hg2)
    refine bodyPost_ret (results_sup2 tyP rfl _ rfl _ rfl hs2) rfl ⟨by rw [HX.out.1, HX.out.2.1]; rfl, ?_, HS1.out.turn.grown hg2 (fun j hj => .inr (by injection hj with hj; omega))⟩
    rw [HX.out.2.2]
    exact HD1.out.turn (S := (· = w.heap.size + 1)) (Turn.ofGrown hg2) (fun e => by have h1 := HS1.out.lt _ (.inl rfl); rw [e] at h1; omega) (fun e => by have h1 := HS1.out.lt _ (.inr (.inl rfl)); rw [e] at h1; omega) (fun e => by have h1 := HS1.out.lt _ (.inr (.inr rfl)); rw [e] at h1; omega)
  rw [decide_eq_true hm] at hsane
  have HSN := Lib.hid hsane
  have HM := Lib.hid hm
  have hv0 : 0 ≤ s.V ∧ s.V ≤ 281474976710656 := hm.1
  clear hsane hm
  by_cases hv : s.V = 281474976710656
  case pos =>
    have HX := Lib.hid (save_bad (D := D) (s := s) (fun g => g.2 hv))
    have HNX := Lib.hid (next_not hv)
    clear hv
    go_enter Try.func24, Try.ntmps24
    go_upto_region 1 with fail
    generalize (w.alloc (.cells C 29)).alloc (.cells #[.int .i64 0, .int .i64 0, .int .i64 0, .int .i64 0, .int .i64 0, .int .i64 0, .int .i64 0] 29) = w0 at *
    go_wp2_with (refine wpList_load_sup tyP HSV.out.own rfl (.tmp 3) rfl rfl ?_)
    refine (HSN.out w0).mono ?_
    rintro e w1 ⟨rfl, hb1⟩
    have HS1 := Lib.hid (HSV.out.below hb1)
    have HD1 := Lib.hid (HD0.out.turn (Turn.ofBelow (S := fun _ => False) hb1) (fun h => h) (fun h => h) (fun h => h))
    have cv : w1.cell? ⟨w.heap.size, 0, none⟩ = some (.int .i64 s.V) := HS1.out.own.cell (i := 0) (by omega)
    clear hb1 HSV HD0
    have fv : w1.frozen? ⟨w.heap.size, 0, none⟩ = false := frozen_of_row _ _ _ _ _ HS1.out.own
    have HS2 := Lib.hid HS1.out.next
    have HD2 := Lib.hid (HD1.out.turn (S := (· = w.heap.size)) (Turn.ofGrown (setCell_grown w1 w.heap.size 0 (.int .i64 (s.V + 1)))) (HNE.out _ (.inl rfl)) (HNE.out _ (.inr (.inl rfl))) (HNE.out _ (.inr (.inr rfl))))
    go_upto_region 4 with fail
    generalize w1.setCell ⟨w.heap.size, 0, none⟩ (.int .i64 (s.V + 1)) = w2 at *
    clear cv fv HS1 HD1
    go_wp2_with (refine wpList_load_sup tyP HS2.out.own rfl (.tmp 3) rfl rfl ?_)
    refine (enc_any w2 s.next).mono ?_
    rintro e w3 ⟨A3, n3, c3, rfl, hn3, ho3, hb3⟩
    have hE : s.next.encE = 1 := if_neg HNX.out
    rw [hE]
    have HS3 := Lib.hid (HS2.out.below hb3)
    have HD3 := Lib.hid (HD2.out.turn (Turn.ofBelow (S := fun _ => False) hb3) (fun h => h) (fun h => h) (fun h => h))
    clear hb3 HS2 HD2 hn3 ho3 hE
    go_wp2_with (refine wpList_store_sup tyP HS3.out.res rfl (.tmp 4) (.tmp 25) rfl rfl Sup.zero rfl ?_; intro w4 hs4 hg4)
    refine bodyPost_ret (results_sup2 tyP rfl _ rfl _ rfl hs4) rfl ⟨by rw [HX.out.1, HX.out.2.1]; rfl, ?_, HS3.out.turn.grown hg4 (fun j hj => .inr (by injection hj with hj; omega))⟩
    rw [HX.out.2.2]
    exact HD3.out.turn (S := (· = w.heap.size + 1)) (Turn.ofGrown hg4) (fun e => by have h1 := HS3.out.lt _ (.inl rfl); rw [e] at h1; omega) (fun e => by have h1 := HS3.out.lt _ (.inr (.inl rfl)); rw [e] at h1; omega) (fun e => by have h1 := HS3.out.lt _ (.inr (.inr rfl)); rw [e] at h1; omega)
  have HNM := Lib.hid (next_may HM.out hv)
  have HOK : Hid (s.May ∧ s.V ≠ 281474976710656) := Lib.hid ⟨HM.out, hv⟩
  go_enter Try.func24, Try.ntmps24
  go_upto_region 1 with fail
  generalize (w.alloc (.cells C 29)).alloc (.cells #[.int .i64 0, .int .i64 0, .int .i64 0, .int .i64 0, .int .i64 0, .int .i64 0, .int .i64 0] 29) = w0 at *
  go_wp2_with (refine wpList_load_sup tyP HSV.out.own rfl (.tmp 3) rfl rfl ?_)
  refine (HSN.out w0).mono ?_
  rintro e w1 ⟨rfl, hb1⟩
  have HS1 := Lib.hid (HSV.out.below hb1)
  have HD1 := Lib.hid (HD0.out.turn (Turn.ofBelow (S := fun _ => False) hb1) (fun h => h) (fun h => h) (fun h => h))
  have cv : w1.cell? ⟨w.heap.size, 0, none⟩ = some (.int .i64 s.V) := HS1.out.own.cell (i := 0) (by omega)
  have fv : w1.frozen? ⟨w.heap.size, 0, none⟩ = false := frozen_of_row _ _ _ _ _ HS1.out.own
  have HS2 := Lib.hid HS1.out.next
  have HD2 := Lib.hid (HD1.out.turn (S := (· = w.heap.size)) (Turn.ofGrown (setCell_grown w1 w.heap.size 0 (.int .i64 (s.V + 1)))) (HNE.out _ (.inl rfl)) (HNE.out _ (.inr (.inl rfl))) (HNE.out _ (.inr (.inr rfl))))
  clear hb1 HSV HD0
  go_upto_region 4 with fail
  generalize w1.setCell ⟨w.heap.size, 0, none⟩ (.int .i64 (s.V + 1)) = w2 at *
  clear cv fv HS1 HD1
  go_wp2_with (refine wpList_load_sup tyP HS2.out.own rfl (.tmp 3) rfl rfl ?_)
  refine (enc_any w2 s.next).mono ?_
  rintro e w3 ⟨A3, n3, c3, rfl, hn3, ho3, hb3⟩
  have hE : s.next.encE = 0 := if_pos HNM.out
  have hB : s.next.encB = s.next.sector := if_pos HNM.out
  rw [hE]
  rw [hB] at hn3 ho3
  rw [length_sector] at hn3
  subst hn3
  have HS3 := Lib.hid (HS2.out.below hb3)
  have HD3 := Lib.hid (HD2.out.turn (Turn.ofBelow (S := fun _ => False) hb3) (fun h => h) (fun h => h) (fun h => h))
  have HFM := Lib.hid (ho3.firm (by omega) (fun k hk => by have h1 := HS2.out.lt k hk; have h2 := lt_of_block HS2.out.own; omega) : Firm (DS p L M) w3 A3 s.next.sector)
  have cv : w3.cell? ⟨w.heap.size, 0, none⟩ = some (.int .i64 (s.V + 1)) := HS3.out.own.cell (i := 0) (by omega)
  clear hb3 HS2 HD2 ho3 hE hB
  go_wp2_with fail
  refine (dwrite_any HD3.out (by omega) ((s.V + 1) % 2) HFM.out 64 c3 (length_sector _)).mono ?_
  rintro e w4 ⟨rfl, hd4, ht4⟩
  have HD4 : Hid (IsDev w4 p L M (D.sv1 s)) := Lib.hid hd4
  have HS4 := Lib.hid (HS3.out.dev ht4)
  have hfold : D.writeE ((s.V + 1) % 2) s.next.sector = D.svE1 s := rfl
  rw [hfold]
  clear hfold hd4 ht4 cv HS3 HD3 HFM
  have HSP := Lib.hid (D.sv1_spent s)
  by_cases he : D.svE1 s = 0
  case neg =>
    have HX := Lib.hid (save_wr HOK.out he)
    have e2 : (D.svE1 s == 0) = false := beq_eq_false_iff_ne.2 he
    go_wp2_with (refine wpList_store_sup tyP HS4.out.res rfl (.tmp 4) (.tmp 35) rfl rfl Sup.zero rfl ?_; intro w6 hs6 hg6)
    refine bodyPost_ret (results_sup2 tyP rfl _ rfl _ rfl hs6) rfl ⟨by rw [HX.out.1, HX.out.2.1]; rfl, ?_, HS4.out.turn.grown hg6 (fun j hj => .inr (by injection hj with hj; omega))⟩
    rw [HX.out.2.2]
    exact HD4.out.turn (S := (· = w.heap.size + 1)) (Turn.ofGrown hg6) (fun e => by have h1 := HS4.out.lt _ (.inl rfl); rw [e] at h1; omega) (fun e => by have h1 := HS4.out.lt _ (.inr (.inl rfl)); rw [e] at h1; omega) (fun e => by have h1 := HS4.out.lt _ (.inr (.inr rfl)); rw [e] at h1; omega)
  rw [he]
  have HX2 := Lib.hid (save_fl HOK.out he)
  clear he
  go_wp2_with fail
  refine (flush_any HD4.out (by have := HSP.out; omega)).mono ?_
  rintro e w5 ⟨rfl, hd5, ht5⟩
  have HD5 := Lib.hid hd5
  have HS5 := Lib.hid (HS4.out.dev ht5)
  clear hd5 ht5 HS4 HD4
  by_cases he : (D.sv1 s).flushE = 0
  · rw [he]
    have HX : Hid (D.svE s = 0 ∧ D.svS s = s.next ∧ D.svD s = (D.sv1 s).flush) := Lib.hid (by
      have h1 : D.svE s = 0 := by rw [HX2.out.1, he]
      exact ⟨h1, if_pos h1, HX2.out.2⟩)
    clear he HX2
    go_wp2_with (first
      | (refine wpList_load_sup tyP HS5.out.own rfl (.tmp 3) rfl rfl ?_)
      | (refine wpList_store_sup tyP HS5.out.res rfl (.tmp 4) (.tmp 43) rfl rfl s.next rfl ?_; intro w6 hs6 hg6))
    refine bodyPost_ret (results_sup2 tyP rfl _ rfl _ rfl hs6) rfl ⟨by rw [HX.out.1, HX.out.2.1]; rfl, ?_, HS5.out.turn.grown hg6 (fun j hj => .inr (by injection hj with hj; omega))⟩
    rw [HX.out.2.2]
    exact HD5.out.turn (S := (· = w.heap.size + 1)) (Turn.ofGrown hg6) (fun e => by have h1 := HS5.out.lt _ (.inl rfl); rw [e] at h1; omega) (fun e => by have h1 := HS5.out.lt _ (.inr (.inl rfl)); rw [e] at h1; omega) (fun e => by have h1 := HS5.out.lt _ (.inr (.inr rfl)); rw [e] at h1; omega)
  · have HX : Hid (D.svE s = (D.sv1 s).flushE ∧ D.svS s = Sup.zero ∧ D.svD s = (D.sv1 s).flush) := Lib.hid (by
      exact ⟨HX2.out.1, if_neg (by rw [HX2.out.1]; exact he), HX2.out.2⟩)
    have e2 : ((D.sv1 s).flushE == 0) = false := beq_eq_false_iff_ne.2 he
    clear HX2
    go_wp2_with (refine wpList_store_sup tyP HS5.out.res rfl (.tmp 4) (.tmp 41) rfl rfl Sup.zero rfl ?_; intro w6 hs6 hg6)
    refine bodyPost_ret (results_sup2 tyP rfl _ rfl _ rfl hs6) rfl ⟨by rw [HX.out.1, HX.out.2.1]; rfl, ?_, HS5.out.turn.grown hg6 (fun j hj => .inr (by injection hj with hj; omega))⟩
    rw [HX.out.2.2]
    exact HD5.out.turn (S := (· = w.heap.size + 1)) (Turn.ofGrown hg6) (fun e => by have h1 := HS5.out.lt _ (.inl rfl); rw [e] at h1; omega) (fun e => by have h1 := HS5.out.lt _ (.inr (.inl rfl)); rw [e] at h1; omega) (fun e => by have h1 := HS5.out.lt _ (.inr (.inr rfl)); rw [e] at h1; omega)
end Go.Proofs.Ytojidejlohpeaaa
