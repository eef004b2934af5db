/-
  SuperWorse: what is there when sectors are spoilt (plain), and the walk: where one of the two is spoilt, the other one is told; where both are, none.
-/
import Derived.Test.YtojidejlohpeaaaWake8
import Derived.Test.YtojidejlohpeaaaIn7
namespace Go.Proofs.Ytojidejlohpeaaa
set_option maxRecDepth 100000
open Go.RowKit Crc Wm Sup

theorem here_at (s : Sup) : ((Dv.here s : Nat) : Int) = s.V % 2 ∧ Dv.here s < 2 := by
  unfold Dv.here
  omega
/-- a sector is written over -/
theorem spoil {D : Dv} (h : D.Free) (hn : 2 ≤ D.n) (s : Sup) {b : List UInt8} (hb : b.length ≤ 64) :
    D.writeE (s.V % 2) b = 0 ∧ (D.write (s.V % 2) b).Free ∧ (D.write (s.V % 2) b).n = D.n ∧ ∀ i, (D.write (s.V % 2) b).look i = if i = Dv.here s then Dv.pad b else D.look i := by
  obtain ⟨h1, h2⟩ := here_at s
  rw [← h1]
  refine ⟨h.writeE (by omega) hb, h.wrote _ _, Dv.write_n _ _, fun i => ?_⟩
  rw [h.write (by omega) hb, Dv.look_put, Dv.look_more]

/-- two saves, and both sectors spoilt, one behind the other -/
theorem worse_model {s : Sup} (hs : s.May) (h1 : s.V ≤ 1000000) {b : List UInt8} (hb : b.length ≤ 64) :
    ∃ D1 D2 D3 D4 : Dv, ((Dv.fresh 4).svE s = 0 ∧ (Dv.fresh 4).svS s = s.next ∧ (Dv.fresh 4).svD s = D1 ∧ D1.spent ≤ 10) ∧ (D1.svE s.next = 0 ∧ D1.svS s.next = s.next.next ∧ D1.svD s.next = D2 ∧ D2.spent ≤ 20) ∧
      (D2.writeE (s.next.next.V % 2) b = 0 ∧ D2.write (s.next.next.V % 2) b = D3 ∧ D3.spent ≤ 30) ∧ D3.write (s.next.V % 2) b = D4 ∧ (decE (Dv.pad b) ≠ 0 → D3.ldE = 0 ∧ D3.ldS = s.next ∧ D4.ldE = 6) := by
  have hv : s.V ≠ 281474976710656 := by omega
  obtain ⟨a1, a2, a3, a4, a5, a6, a7, _⟩ := fresh_save (n := 4) (by omega) hs hv
  have hm1 := next_may hs hv
  have hv1 : s.next.V ≠ 281474976710656 := by show s.V + 1 ≠ _; omega
  obtain ⟨b1, b2, b3, b4, b5, b6, b7⟩ := a3.save (by rw [a4]; omega) hm1 hv1
  have hH := Dv.holds_saved a3 (by rw [a4]; omega) a7 rfl hm1 hv1
  obtain ⟨c1, c2, c3, c4⟩ := spoil b3 (by rw [b4, a4]; omega) s.next.next hb
  obtain ⟨d1, d2, d3, d4⟩ := spoil c2 (by rw [c3, b4, a4]; omega) s.next hb
  have sp3 := Dv.write_spent (D := ((Dv.fresh 4).svD s).svD s.next) (s.next.next.V % 2) b
  refine ⟨_, _, _, _, ⟨a1, a2, rfl, by rw [a5]; omega⟩, ⟨b1, b2, rfl, by rw [b5, a5]; omega⟩, ⟨c1, rfl, by rw [b5, a5] at sp3; omega⟩, rfl, fun hj => ?_⟩
  have e1 : Dv.here s.next.next = Dv.there s.next := rfl
  have hh : (Dv.here s.next = 0 ∧ Dv.there s.next = 1) ∨ (Dv.here s.next = 1 ∧ Dv.there s.next = 0) := Dv.two_ways s.next
  have hne : Dv.here s.next ≠ Dv.there s.next := by rcases hh with ⟨g1, g2⟩ | ⟨g1, g2⟩ <;> omega
  have hold : Dv.Holds (((((Dv.fresh 4).svD s).svD s.next).write (s.next.next.V % 2) b).look) s.next := by
    refine ⟨hm1, ?_, .inl ?_⟩
    · rw [c4, e1, if_neg hne, b7, if_neg hne]
      exact a7.own
    · rw [c4, e1, if_pos rfl]
      exact hj
  obtain ⟨k1, k2⟩ := hold.load c2.gone (by rw [c3, b4, a4]; omega)
  refine ⟨k1, k2, ?_⟩
  obtain ⟨m1, _⟩ := Dv.load_look d2.gone (by rw [d3, c3, b4, a4]; omega)
  rw [m1]
  have all : ∀ i, i = 0 ∨ i = 1 → ((((((Dv.fresh 4).svD s).svD s.next).write (s.next.next.V % 2) b).write (s.next.V % 2) b).look i) = Dv.pad b := by
    intro i hi
    rw [d4]
    by_cases h : i = Dv.here s.next
    · rw [if_pos h]
    · rw [if_neg h, c4, e1, if_pos (by rcases hh with ⟨g1, g2⟩ | ⟨g1, g2⟩ <;> omega)]
  rw [all 0 (.inl rfl), all 1 (.inr rfl)]
  unfold pickE
  rw [if_neg (fun h => by rcases h with h | h <;> exact hj h)]

theorem Dr.write {w W : World} {p L M : Nat} {D : Dv} (h : Dr w W p L M D) (hf : D.spent ≤ 1000000) (at_ : Int) {A : Option Addr} {l : List UInt8} (hr : Rd w w.heap.size A l) (n c : Nat) (hn : l.length = n) : Calls Try.prog 30 #[ptr p, .int .i64 at_, .slice A n c] W fun e V => e = .returned (.int .i64 (D.writeE at_ l)) ∧ Dr w V p L M (D.write at_ l) ∧ Turn (DS p L M) W V := by
  refine (dwrite_any h.dev hf at_ (h.firm hr) n c hn).mono ?_
  rintro e V ⟨rfl, hd, ht⟩
  exact ⟨rfl, h.turn hd ht, ht⟩

/-- a super in a block that is none of the device's -/
theorem SupAt.turn {W V : World} {X : Nat → Prop} {g : Nat} {t : TypeId} {s : Sup} (h : SupAt W g t s) (ht : Turn X W V) (hx : ¬ X g) : SupAt V g t s := (ht.block g (lt_of_block h) hx).trans h

set_option maxHeartbeats 4000000 in
theorem worse_walk (z : Int) (A : Option Addr) (n c : Nat) (l : List UInt8) (w : World) (hl : Lies w A c n l) : Calls Try.prog 9 #[.int .i64 z, .slice A n c] w fun e w' => e = .returned (.bool true) ∧ Below w.heap.size w w' := by
  have HL := Lib.hid hl
  clear hl
  rcases Nat.lt_or_ge 60 n with hgt | hle
  · have hd : decide ((60 : Int) < (n : Int)) = true := decide_eq_true (by omega)
    go_enter Try.func9, Try.ntmps9
    go_wp2_with fail
    refine (awake_any w).mono ?_
    rintro e w1 ⟨rfl, hb1⟩
    have HB1 := Lib.hid hb1
    clear hb1
    go_wp2_with fail
    go_ret
    exact ⟨rfl, HB1.out⟩
  have hd : decide ((60 : Int) < (n : Int)) = false := decide_eq_false (by omega)
  obtain ⟨k, hk, hz⟩ := low z 65535 16 (by decide) (by omega)
  obtain ⟨D1, D2, D3, D4, ⟨a1, a2, a3, a4⟩, ⟨b1, b2, b3, b4⟩, ⟨c1, c2, c3⟩, d1, hld⟩ := worse_model (s := ⟨(k : Int), 0, 0, 0, 3, 0, 0⟩) (may_mk (by omega) (by omega) (by omega) (by omega) (by omega) (by omega) (by omega)) (by show (k : Int) ≤ 1000000; omega) (b := l) (by have := HL.out.len; omega)
  have hn1 : (⟨(k : Int), 0, 0, 0, 3, 0, 0⟩ : Sup).next = ⟨(k : Int) + 1, 0, 0, 0, 3, 0, 0⟩ := rfl
  have hn2 : (⟨(k : Int) + 1, 0, 0, 0, 3, 0, 0⟩ : Sup).next = ⟨(k : Int) + 1 + 1, 0, 0, 0, 3, 0, 0⟩ := rfl
  rw [hn1] at a2 b1 b2 b3 c1 c2 d1 hld
  rw [hn2] at b2 c1 c2
  obtain ⟨x, hx⟩ : ∃ x : Sup, x = ⟨(k : Int) + 1, 0, 0, 0, 3, 0, 0⟩ := ⟨_, rfl⟩
  obtain ⟨y, hy⟩ : ∃ y : Sup, y = ⟨(k : Int) + 1 + 1, 0, 0, 0, 3, 0, 0⟩ := ⟨_, rfl⟩
  rw [← hx] at a2 b1 b2 b3 d1 hld
  rw [← hy] at b2 c1 c2
  have HA := Lib.hid (show _ ∧ _ ∧ _ ∧ _ from ⟨a1, a2, a3, a4⟩)
  have HB := Lib.hid (show _ ∧ _ ∧ _ ∧ _ from ⟨b1, b2, b3, b4⟩)
  have HC := Lib.hid (show _ ∧ _ ∧ _ from ⟨c1, c2, c3⟩)
  have HD := Lib.hid d1
  have HLD := Lib.hid hld
  have hxb : 0 ≤ x.V ∧ x.V ≤ 100000 := by rw [hx]; show (0 : Int) ≤ (k : Int) + 1 ∧ (k : Int) + 1 ≤ 100000; omega
  have hyb : 0 ≤ y.V ∧ y.V ≤ 100000 := by rw [hy]; show (0 : Int) ≤ (k : Int) + 1 + 1 ∧ (k : Int) + 1 + 1 ≤ 100000; omega
  clear a1 a2 a3 a4 b1 b2 b3 b4 c1 c2 c3 d1 hld hn1 hn2 hx hy
  have hsp0 : (Dv.fresh 4).spent = 0 := rfl
  have HS0 : Hid ((Dv.fresh 4).spent ≤ 999999) := Lib.hid (by rw [hsp0]; omega)
  clear hsp0
  go_enter Try.func9, Try.ntmps9
  go_wp2_with fail
  refine (awake_any w).mono ?_
  rintro e w1 ⟨rfl, hb1⟩
  have HB1 := Lib.hid hb1
  clear hb1
  go_wp2_with fail
  refine (newdr (w := w) HB1.out 4 (by omega) (by omega)).mono ?_
  rintro e w2 ⟨p, L, M, rfl, hd2, _, _, _, _⟩
  have HD2 := Lib.hid hd2
  clear hd2 HB1
  go_wp2_with fail
  refine (HD2.out.save HS0.out ⟨(k : Int), 0, 0, 0, 3, 0, 0⟩).mono ?_
  rintro e w3 ⟨rfl, hd3, _⟩
  rw [HA.out.1, HA.out.2.1]
  rw [HA.out.2.2.1] at hd3
  have HD3 := Lib.hid hd3
  clear hd3 HD2 HS0
  go_wp2_with (first
    | (refine wpList_load_sup tyP HX4.out rfl (.tmp 8) rfl rfl ?_)
    | (refine wpList_store_sup tyP (zero_new w3 _) rfl (.tmp 8) (.tmp 34) rfl rfl x rfl ?_; intro w4 hs4 hg4; have HD4 := Lib.hid (HD3.out.below (box_below hg4)); have HX4 := Lib.hid hs4; have HN4 := Lib.hid HD3.out.notNew; clear hs4 hg4 HD3))
  refine (HD4.out.save (by have := HA.out.2.2.2; omega) x).mono ?_
  rintro e w5 ⟨rfl, hd5, ht5⟩
  rw [HB.out.1, HB.out.2.1]
  rw [HB.out.2.2.1] at hd5
  have HD5 := Lib.hid hd5
  have HX5 := Lib.hid (HX4.out.turn ht5 HN4.out)
  clear hd5 ht5 HD4 HX4 HA
  go_wp2_with (refine wpList_store_sup tyP (zero_new w5 _) rfl (.tmp 10) (.tmp 40) rfl rfl y rfl ?_; intro w6 hs6 hg6; have HD6 := Lib.hid (HD5.out.below (box_below hg6)); have HX6 := Lib.hid (HX5.out.below (box_below hg6)); have cy : w6.cell? ⟨w5.heap.size, 0, none⟩ = some (.int .i64 y.V) := SupAt.cell (i := 0) hs6 (by omega); clear hs6 hg6 HD5 HX5)
  refine (HD6.out.write (by have := HB.out.2.2.2; omega) (y.V % 2) HL.out.rd n c HL.out.len).mono ?_
  rintro e w7 ⟨rfl, hd7, ht7⟩
  rw [HC.out.1]
  rw [HC.out.2.1] at hd7
  have HD7 := Lib.hid hd7
  have HX7 := Lib.hid (HX6.out.turn ht7 HN4.out)
  clear hd7 ht7 HD6 HX6 HB cy
  go_wp2_with fail
  refine HD7.out.load.mono ?_
  rintro e w8 ⟨rfl, hb8⟩
  have HD8 := Lib.hid (HD7.out.below hb8)
  have HX8 := Lib.hid (HX7.out.below hb8)
  have HN8 := Lib.hid HD8.out.notNew
  clear hb8 HD7 HX7
  go_wp2_with (refine wpList_store_sup tyP (zero_new w8 _) rfl (.tmp 13) (.tmp 51) rfl rfl D3.ldS rfl ?_; intro w9 hs9 hg9; have HD9 := Lib.hid (HD8.out.below (box_below hg9)); have HX9 := Lib.hid (HX8.out.below (box_below hg9)); have HS9 := Lib.hid hs9; have cx : w9.cell? ⟨w3.heap.size, 0, none⟩ = some (.int .i64 x.V) := SupAt.cell (i := 0) HX9.out (by omega); clear hs9 hg9 HD8 HX8)
  refine (HD9.out.write (by have := HC.out.2.2; omega) (x.V % 2) HL.out.rd n c HL.out.len).mono ?_
  rintro e w10 ⟨rfl, hd10, ht10⟩
  rw [HD.out] at hd10
  have HD10 := Lib.hid hd10
  have HX10 := Lib.hid (HX9.out.turn ht10 HN4.out)
  have HS10 := Lib.hid (HS9.out.turn ht10 HN8.out)
  clear hd10 ht10 HD9 HX9 HS9 cx HC HD
  generalize D3.writeE (x.V % 2) l = we
  go_wp2_with fail
  refine HD10.out.load.mono ?_
  rintro e w11 ⟨rfl, hb11⟩
  have HD11 := Lib.hid (HD10.out.below hb11)
  have HX11 := Lib.hid (HX10.out.below hb11)
  have HS11 := Lib.hid (HS10.out.below hb11)
  clear hb11 HD10 HX10 HS10
  go_upto_region 11 with (refine wpList_store_sup tyP (zero_new w11 _) rfl (.tmp 15) (.tmp 62) rfl rfl D4.ldS rfl ?_; intro w12 hs12 hg12; have HD12 := Lib.hid (HD11.out.below (box_below hg12)); have HX12 := Lib.hid (HX11.out.below (box_below hg12)); have HS12 := Lib.hid (HS11.out.below (box_below hg12)); clear hs12 hg12 HD11 HX11 HS11)
  obtain ⟨K, hK⟩ : ∃ K : Nat, (64 : Int) - (n : Int) = (K : Int) := ⟨64 - n, by omega⟩
  have hK0 : 0 < K := by omega
  have hKn : n + K ≤ 64 := by omega
  have HPD : Hid (l ++ List.replicate K 0 = Dv.pad l) := Lib.hid (by
    unfold Dv.pad
    rw [HL.out.len, show 64 - n = K from by omega])
  obtain ⟨i0, hi, hz0, hz1, hz2⟩ := info_parts byte_facts
  have hown0 : (w12.alloc (.cells #[] 5)).ownsRow w12.heap.size 5 1 (.slice (some ⟨w12.heap.size, 0, none⟩) 0 0) 0 [] := World.ownsRow_lit w12 #[] 0 (Nat.le_refl _) (by simp [maxLen]) rfl
  have hb0 : Below w12.heap.size w12 (w12.alloc (.cells #[] 5)) := (Below.refl _ _).alloc (Nat.le_refl _) _
  have hr0 : Rd (w12.alloc (.cells #[] 5)) w12.heap.size A l := (HL.out.up HD12.out.bel).rd.below hb0
  go_wp2_with (first
    | (at_builtin; refine wpList_append_rd rfl (.tmp 65) (.tmp 66) _ rfl w12.heap.size i0 Try.underlying24 hi hz0 hz1 hz2 (.slice (some ⟨w12.heap.size, 0, none⟩) 0 0) 0 [] rfl hown0 w12.heap.size A l n c rfl hr0 HL.out.len (by omega) hb0.size ?_; intro v13 w13 hown13 hg13 hat13; obtain ⟨A13, c13, rfl, ho13, hb13⟩ := append_step' (l := []) hown0 hb0 hb0.size hown13 hg13; clear hown13 hg13 hat13 hown0 hb0 hr0; simp only [Nat.zero_add, List.nil_append] at ho13 ⊢)
    | (at_builtin; refine wpList_append_zeros rfl (.tmp 67) (.tmp 70) _ _ rfl w12.heap.size i0 .i64 Try.underlying24 Try.underlying3 hi hz0 hz1 hz2 rfl ho13 K rfl hK0 (by omega) hb13.size ?_; intro v14 w14 hown14 hg14; obtain ⟨A14, c14, rfl, ho14⟩ := own_form hown14))
  have hb14 : Below w12.heap.size w12 w14 := hb13.grown hg14 hb13.size fun k hk => by
    obtain ⟨ad, had⟩ : ∃ ad, A13 = some ad := by
      rcases A13 with _ | ad
      · cases hk
      · exact ⟨ad, rfl⟩
    subst had
    have : k = ad.block := by simpa [Value.ownBlock] using hk.symm
    rw [this]
    exact (ho13.block ad rfl).1
  have HO14 := Lib.hid ho14.lies
  have HD14 := Lib.hid (HD12.out.below hb14)
  have HX14 := Lib.hid (HX12.out.below hb14)
  have HS14 := Lib.hid (HS12.out.below hb14)
  clear hb14 ho14 ho13 hb13 hown14 hg14 hi hz0 hz1 hz2 HD12 HX12 HS12 hK
  refine (dec_any A14 c14 (n + K) _ w14 HO14.out (by omega)).mono ?_
  rintro e w15 ⟨rfl, hb15⟩
  rw [HPD.out]
  have HD15 := Lib.hid (HD14.out.below hb15)
  have HX15 := Lib.hid (HX14.out.below hb15)
  have HS15 := Lib.hid (HS14.out.below hb15)
  clear hb15 HD14 HX14 HS14 HO14 HPD
  by_cases hj : decE (Dv.pad l) = 0
  · rw [hj]
    go_wp2_with (refine wpList_store_sup tyP (zero_new w15 _) rfl (.tmp 17) (.tmp 73) rfl rfl _ rfl ?_; intro w16 hs16 hg16; have HB16 := Lib.hid (HD15.out.below (box_below hg16)).bel; clear hs16 hg16)
    go_ret
    exact ⟨rfl, HB16.out⟩
  · obtain ⟨h1, h2, h3⟩ := HLD.out hj
    rw [h1, h3]
    rw [h2] at HS15
    have e1 : (decE (Dv.pad l) == 0) = false := beq_eq_false_iff_ne.2 hj
    have HE := Lib.hid (fun V => run_sup_eql x x V)
    clear h1 h2 h3 HLD
    go_wp2_with (refine wpList_store_sup tyP (zero_new w15 _) rfl (.tmp 17) (.tmp 73) rfl rfl _ rfl ?_; intro w16 hs16 hg16; have HB16 := Lib.hid (HD15.out.below (box_below hg16)).bel; obtain ⟨c0, c1, c2, c3, c4, c5, c6⟩ := (HX15.out.below (box_below hg16)).seven; obtain ⟨d0, d1, d2, d3, d4, d5, d6⟩ := (HS15.out.below (box_below hg16)).seven; have hq : (binOp .eql 29 (.agg #[.int .i64 x.V, .int .i64 x.E, .int .i64 x.B, .int .i64 x.C, .int .i64 x.L, .int .i64 x.H, .int .i64 x.A]) (.agg #[.int .i64 x.V, .int .i64 x.E, .int .i64 x.B, .int .i64 x.C, .int .i64 x.L, .int .i64 x.H, .int .i64 x.A])).run Try.prog w16 = .ok (.bool true) w16 := (HE.out w16).trans (by rw [supEq_self]); clear hs16 hg16)
    go_ret
    exact ⟨rfl, HB16.out⟩

end Go.Proofs.Ytojidejlohpeaaa
