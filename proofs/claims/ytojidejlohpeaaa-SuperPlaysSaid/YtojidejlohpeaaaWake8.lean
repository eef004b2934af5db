/-
  The statements' example: a device that is new tells nothing; what is saved is loaded.
-/
import Derived.Test.YtojidejlohpeaaaEq8
namespace Go.Proofs.Ytojidejlohpeaaa
set_option maxRecDepth 100000
open Go.RowKit Crc Wm Sup

theorem sector_head (s : Sup) : s.sector[0]? = some 72 := rfl
theorem dec_head {l : List UInt8} (h : decE l = 0) : l[0]? = some 72 := by rw [← enc_dec h]; exact sector_head _
theorem dec_zeros : decE Dv.zeros ≠ 0 := fun h => by
  have h1 := dec_head h
  have h2 : Dv.zeros[0]? = some 0 := rfl
  rw [h2] at h1
  exact absurd h1 (by decide)
theorem fresh_look (n i : Nat) : (Dv.fresh n).look i = Dv.zeros := rfl
theorem fresh_load {n : Nat} (h : 2 ≤ n) : (Dv.fresh n).ldE = 6 ∧ (Dv.fresh n).ldS = Sup.zero := by
  obtain ⟨h1, h2⟩ := Dv.load_look (D := Dv.fresh n) rfl h
  rw [h1, h2, fresh_look, fresh_look]
  unfold pickE pick
  rw [if_neg (fun h => by rcases h with h | h <;> exact dec_zeros h), if_neg (fun h => dec_zeros h.1), decE_not dec_zeros]
  exact ⟨rfl, rfl⟩
/-- the first that is saved -/
theorem fresh_save {n : Nat} (h : 2 ≤ n) {s : Sup} (hs : s.May) (hv : s.V ≠ 281474976710656) :
    (Dv.fresh n).svE s = 0 ∧ (Dv.fresh n).svS s = s.next ∧ ((Dv.fresh n).svD s).Free ∧ ((Dv.fresh n).svD s).n = n ∧ ((Dv.fresh n).svD s).spent = 2 ∧ (∀ i, ((Dv.fresh n).svD s).late i = none) ∧ Dv.Holds ((Dv.fresh n).svD s).look s.next ∧
      ∀ i, 2 ≤ i → ((Dv.fresh n).svD s).look i = Dv.zeros := by
  obtain ⟨h1, h2, h3, h4, h5, h6, h7⟩ := (Dv.free_fresh n).save h hs hv
  have e1 : Dv.here s.next = Dv.there s := rfl
  have hne : Dv.there s.next ≠ Dv.there s := by
    rw [← e1]
    rcases Dv.two_ways s.next with ⟨g1, g2⟩ | ⟨g1, g2⟩ <;> omega
  refine ⟨h1, h2, h3, h4, h5, h6, ⟨next_may hs hv, ?_, .inl ?_⟩, fun i hi => ?_⟩
  · rw [h7, e1, if_pos rfl]
  · rw [h7, if_neg hne, fresh_look]
    exact dec_zeros
  · have := (Dv.at_there s).2
    rw [h7, if_neg (by omega), fresh_look]

theorem may_mk {V E B C L H A : Int} (h0 : 0 ≤ V ∧ V ≤ 281474976710656) (h1 : 0 ≤ E ∧ E ≤ 4294967295) (h2 : 0 ≤ B ∧ B ≤ 256) (h3 : 0 ≤ C ∧ C ≤ 64) (h4 : 1 ≤ L ∧ L ≤ 4096) (h5 : 0 ≤ H ∧ H ≤ 1099511627776) (h6 : 0 ≤ A ∧ A ≤ 1099511627776) : (⟨V, E, B, C, L, H, A⟩ : Sup).May :=
  ⟨h0, h1, h2, h3, h4, h5, h6⟩

/-- the one that is saved first -/
def one : Sup := ⟨0, 0, 0, 0, 1, 0, 0⟩
theorem one_may : one.May := by unfold one Sup.May; decide

/-- what is in a new variable of the call's own: no old block turned -/
theorem box_below {w V : World} {o : Obj} (hg : (w.alloc o).grownBy V (some w.heap.size)) : Below w.heap.size w V := below_of_grown_new (Below.refl _ _) hg

theorem Dr.load {w W : World} {p L M : Nat} {D : Dv} (h : Dr w W p L M D) : Calls Try.prog 23 #[ptr p] W (SupOut W D.ldS D.ldE) := load_any h.dev
theorem Dr.save {w W : World} {p L M : Nat} {D : Dv} (h : Dr w W p L M D) (hf : D.spent ≤ 999999) (s : Sup) : Calls Try.prog 24 #[ptr p, supV s] W fun e V => e = .returned (.tuple #[supV (D.svS s), .int .i64 (D.svE s)]) ∧ Dr w V p L M (D.svD s) ∧ Turn (DS p L M) W V := by
  refine (save_any h.dev hf s).mono ?_
  rintro e V ⟨rfl, hd, ht⟩
  exact ⟨rfl, h.turn hd ht, ht⟩

set_option maxHeartbeats 2000000 in
theorem awake_any (w : World) : Calls Try.prog 10 #[] w fun e w' => e = .returned (.bool true) ∧ Below w.heap.size w w' := by
  obtain ⟨l1, l2⟩ := fresh_load (n := 4) (by omega)
  obtain ⟨s1, s2, s3, s4, s5, s6, s7, _⟩ := fresh_save (n := 4) (by omega) one_may (by decide)
  obtain ⟨k1, k2⟩ := s7.load s3.gone (by rw [s4]; omega)
  have hsp : (Dv.fresh 4).spent = 0 := rfl
  have HSP : Hid ((Dv.fresh 4).spent ≤ 999999) := Lib.hid (by rw [hsp]; omega)
  have HL := Lib.hid (show _ ∧ _ from ⟨l1, l2⟩)
  have HS := Lib.hid (show _ ∧ _ from ⟨s1, s2⟩)
  have HK := Lib.hid (show _ ∧ _ from ⟨k1, k2⟩)
  clear l1 l2 s1 s2 s3 s4 s5 s6 s7 k1 k2 hsp
  go_enter Try.func10, Try.ntmps10
  go_wp2_with fail
  refine (newdr (w := w) (Below.refl _ _) 4 (by omega) (by omega)).mono ?_
  rintro e w1 ⟨p, L, M, rfl, hd1, _, _, _, _⟩
  have HD1 := Lib.hid hd1
  clear hd1
  go_wp2_with fail
  refine HD1.out.load.mono ?_
  rintro e w2 ⟨rfl, hb2⟩
  rw [HL.out.1, HL.out.2]
  have HD2 := Lib.hid (HD1.out.below hb2)
  clear hb2 HD1 HL
  go_wp2_with (refine wpList_store_sup tyP (zero_new w2 _) rfl (.tmp 3) (.tmp 16) rfl rfl Sup.zero rfl ?_; intro w3 hs3 hg3; have HD3 := Lib.hid (HD2.out.below (box_below hg3)); clear hs3 hg3 HD2)
  refine (HD3.out.save HSP.out one).mono ?_
  rintro e w4 ⟨rfl, hd4, _⟩
  rw [HS.out.1, HS.out.2]
  have HD4 := Lib.hid hd4
  clear hd4 HD3 HS HSP
  go_wp2_with (refine wpList_store_sup tyP (zero_new w4 _) rfl (.tmp 5) (.tmp 22) rfl rfl one.next rfl ?_; intro w5 hs5 hg5; have HD5 := Lib.hid (HD4.out.below (box_below hg5)); have HS5 := Lib.hid hs5; clear hs5 hg5 HD4)
  refine HD5.out.load.mono ?_
  rintro e w6 ⟨rfl, hb6⟩
  rw [HK.out.1, HK.out.2]
  have HD6 := Lib.hid (HD5.out.below hb6)
  have HS6 := Lib.hid (HS5.out.below hb6)
  have hlt6 : w4.heap.size < w6.heap.size := lt_of_block HS6.out
  clear hb6 HD5 HK HS5
  have hone : one.next = ⟨1, 0, 0, 0, 1, 0, 0⟩ := rfl
  rw [hone] at HS6 ⊢
  clear hone
  have HE := Lib.hid (fun V => run_sup_eql ⟨1, 0, 0, 0, 1, 0, 0⟩ ⟨1, 0, 0, 0, 1, 0, 0⟩ V)
  go_wp2_with (refine wpList_store_sup tyP (zero_new w6 _) rfl (.tmp 7) (.tmp 27) rfl rfl ⟨1, 0, 0, 0, 1, 0, 0⟩ rfl ?_; intro w7 hs7 hg7; have HB7 := Lib.hid (HD6.out.below (box_below hg7)).bel; have HS7 := Lib.hid (HS6.out.below (box_below hg7)); obtain ⟨c0, c1, c2, c3, c4, c5, c6⟩ := hs7.seven; obtain ⟨d0, d1, d2, d3, d4, d5, d6⟩ := HS7.out.seven; have hq := HE.out w7; unfold supV supC at hq; rw [supEq_self] at hq; clear hs7 hg7 HD6 HS6 HS7)
  go_ret
  exact ⟨rfl, HB7.out⟩

end Go.Proofs.Ytojidejlohpeaaa
