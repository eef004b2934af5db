/-
  What a sector of counters tells: the document's answer.
-/
import Derived.Test.YtknjkihcpcimpaaRca
namespace Go.Proofs.Ytknjkihcpcimpaa
set_option maxRecDepth 100000
set_option linter.unusedVariables false
open Go.RowKit Crc Wm Pg

def OcOut (w : World) (l : List UInt8) (e : Ending) (w' : World) : Prop := e = .returned (.tuple #[c3V (oc3 l), .int .i64 (ocE l)]) ∧ Below w.heap.size w w'

/-- the first cells told, the others zero -/
def toldTo (l : List UInt8) : Nat → C3
  | 0 => .zero
  | n + 1 => C3.put (toldTo l n) n (tellC l n)
theorem toldTo_all (l : List UInt8) : toldTo l 3 = tell3 l := rfl

theorem C3At.put2 {w : World} {g t : Nat} {x : C3} (h : C3At w g t x) (j : Nat) (hj : j < 3) (c : Ce) :
    C3At ((w.setCell ⟨g, j * 2, none⟩ (.int .i64 c.V)).setCell ⟨g, j * 2 + 1, none⟩ (.int .i64 c.L)) g t (C3.put x j c) ∧ w.grownBy ((w.setCell ⟨g, j * 2, none⟩ (.int .i64 c.V)).setCell ⟨g, j * 2 + 1, none⟩ (.int .i64 c.L)) (some g) := by
  have e1 := setCell_eq_setRow w g (j * 2) (c3C x) t (0, 0) (.int .i64 c.V) h
  have h1 : (w.setCell ⟨g, j * 2, none⟩ (.int .i64 c.V)).heap[g]? = some (.cells ((c3C x).setIfInBounds (j * 2) (.int .i64 c.V)) t (0, 0)) := by rw [e1]; exact setRow_heap _ _ _ _ _ _ h
  have e2 := setCell_eq_setRow (w.setCell ⟨g, j * 2, none⟩ (.int .i64 c.V)) g (j * 2 + 1) _ t (0, 0) (.int .i64 c.L) h1
  constructor
  · show _ = _
    rw [e2, setRow_heap _ _ _ _ _ _ h1, c3C_put x j hj c]
  · exact grown_trans (setCell_grown w g (j * 2) _) (setCell_grown _ g (j * 2 + 1) _)

theorem C3At.fr {w : World} {g t : Nat} {x : C3} (h : C3At w g t x) (i : Nat) : w.frozen? ⟨g, i, none⟩ = false := frozen_of_row _ _ _ _ _ h

set_option maxHeartbeats 4000000 in
theorem refofcells_any (A : Option Addr) (c n : Nat) (l : List UInt8) (w : World) (hl : Lies w A c n l) (hn : n ≤ 1073741824) : Calls Try.prog 17 #[.slice A n c] w (OcOut w l) := by
  have HLN := Lib.hid hl.len
  have HL := Lib.hid hl
  clear hl
  have hz : c3C .zero = #[.int .i64 0, .int .i64 0, .int .i64 0, .int .i64 0, .int .i64 0, .int .i64 0] := rfl
  have hs0 : C3At (w.alloc (.cells (c3C .zero) 25)) w.heap.size 25 .zero := heap_alloc_new w _
  have hb0 := below_new w (.cells (c3C .zero) 25)
  have hz0 : (w.alloc (.cells (c3C .zero) 25)).heap.size = w.heap.size + 1 := by simp
  have hs1 : C3At ((w.alloc (.cells (c3C .zero) 25)).alloc (.cells (c3C .zero) 25)) (w.heap.size + 1) 25 .zero := by
    have h := heap_alloc_new (w.alloc (.cells (c3C .zero) 25)) (.cells (c3C .zero) 25)
    rw [hz0] at h
    exact h
  have hb1 := below_new (w.alloc (.cells (c3C .zero) 25)) (.cells (c3C .zero) 25)
  rw [hz] at hs0 hb0 hz0 hs1 hb1
  have HS0 := Lib.hid (hs0.below hb1)
  have HS1 := Lib.hid hs1
  have HB1 := Lib.hid (below_two hb0 hb1)
  have HZ1 : Hid (((w.alloc (.cells #[.int .i64 0, .int .i64 0, .int .i64 0, .int .i64 0, .int .i64 0, .int .i64 0] 25)).alloc (.cells #[.int .i64 0, .int .i64 0, .int .i64 0, .int .i64 0, .int .i64 0, .int .i64 0] 25)).heap.size = w.heap.size + 2) := Lib.hid (by simp)
  clear hs0 hb0 hz0 hs1 hb1 hz
  go_enter Try.func17, Try.ntmps17
  go_upto_region 2 with fail
  generalize (w.alloc (.cells #[.int .i64 0, .int .i64 0, .int .i64 0, .int .i64 0, .int .i64 0, .int .i64 0] 25)).alloc (.cells #[.int .i64 0, .int .i64 0, .int .i64 0, .int .i64 0, .int .i64 0, .int .i64 0] 25) = w0 at *
  go_wp2_with fail
  refine (refwhy_any A c n l w0 (HL.out.up HB1.out) hn).mono ?_
  rintro e w1 ⟨rfl, hb⟩
  have HX1 := Lib.hid (HS0.out.below hb)
  have HY1 := Lib.hid (HS1.out.below hb)
  have HP1 := Lib.hid (HB1.out.trans (hb.mono HB1.out.size))
  have HZ2 : Hid (w.heap.size + 2 ≤ w1.heap.size) := Lib.hid (by have h1 := hb.size; have h2 := HZ1.out; omega)
  clear hb HS0 HS1 HB1 HZ1
  by_cases hE : whyE l = 0
  · obtain rfl : n = 64 := by have := whyE_len hE; rw [← HLN.out]; exact this
    obtain ⟨b, o, rfl⟩ : ∃ b o, A = some ⟨b, o, none⟩ := by
      rcases HL.out.rd with h0 | ⟨b, o, e, _⟩
      · subst h0; have := HLN.out; simp at this
      · exact ⟨b, o, e⟩
    have hc64 := HL.out.cap
    have HE := Lib.hid hE
    clear hE hn
    by_cases hz : l = nil64
    · have HZ : Hid (whyZ l = true) := Lib.hid (by rw [hz]; exact beq_self_eq_true _)
      have HNZ := Lib.hid hz
      clear hz
      rw [HE.out, HZ.out]
      go_wp2_with (first
        | (refine wpList_load_c3 tyR HY1.out rfl (.tmp 4) rfl rfl ?_)
        | (refine wpList_store_c3 tyR HX1.out rfl (.tmp 2) (.tmp 25) rfl rfl C3.zero rfl ?_; intro w6 hs6 hg6))
      exact bodyPost_ret (results_c32 tyR rfl _ rfl _ rfl hs6) rfl ⟨by rw [HNZ.out, oc3_nil, ocE_nil]; rfl, HP1.out.grown hg6 HP1.out.size (fun k hk => by injection hk with hk; omega)⟩
    · have HZ : Hid (whyZ l = false) := Lib.hid (by unfold whyZ; exact beq_eq_false_iff_ne.2 hz)
      have HNZ := Lib.hid hz
      have HR := Lib.hid (ocE_rest HE.out hz)
      clear hz
      rw [HE.out, HZ.out]
      have HCR : Hid (Cur (w1.alloc (.cells #[.slice (some ⟨b, o, none⟩) 64 c, .int .i64 2] 66)) w1.heap.size 66 (some ⟨b, o, none⟩) c 64 2 l) :=
        Lib.hid ⟨heap_alloc_new w1 _, by omega, HLN.out, hc64, by omega, (HL.out.up HP1.out).rd.below (below_new w1 _)⟩
      have hbx := below_new w1 (.cells #[.slice (some ⟨b, o, none⟩) 64 c, .int .i64 2] 66)
      have HP2 := Lib.hid (HP1.out.trans (hbx.mono HP1.out.size))
      have HX2 := Lib.hid (HX1.out.below hbx)
      have HY2 := Lib.hid (HY1.out.below hbx)
      clear hbx HX1 HY1 HP1
      go_upto_region 6 with fail
      generalize w1.alloc (.cells #[.slice (some ⟨b, o, none⟩) 64 c, .int .i64 2] 66) = v0 at *
      generalize w1.heap.size = r at *
      go_wp2_with fail
      go_loopg [8, 9, 10, 11, 12] 3 (fun gn i _ _ _ _ wr => ∃ (j : Nat), i = .int .i64 (j : Int) ∧ j + gn = 3 ∧ Hid (Cur wr r 66 (some ⟨b, o, none⟩) c 64 (2 + 14 * j) l) ∧ Hid (C3At wr w.heap.size 25 .zero) ∧ Hid (C3At wr (w.heap.size + 1) 25 (toldTo l j)) ∧ Hid (Below w.heap.size w wr))
      case atStart => exact ⟨0, rfl, by omega, HCR, HX2, HY2, HP2⟩
      case round =>
        obtain ⟨j, rfl, hog, HC, HX, HY, HP⟩ := hrel
        rcases Nat.lt_or_ge j 3 with hlt | hge
        · have hdj : decide ((j : Int) < 3) = true := decide_eq_true (by omega)
          go_wp2_with fail
          refine (refsignedr_ok HC.out (by omega)).mono ?_
          rintro e v1 ⟨rfl, hcur, hg⟩
          have HC1 : Hid (Cur v1 r 66 (some ⟨b, o, none⟩) c 64 (2 + 14 * j + 8) l) := Lib.hid hcur
          have HX1 := Lib.hid (HX.out.far hg (by have := HZ2.out; omega))
          have HY1 := Lib.hid (HY.out.far hg (by have := HZ2.out; omega))
          have HP1 := Lib.hid (HP.out.grown hg HP.out.size (fun k hk => by injection hk with hk; have := HZ2.out; omega))
          obtain ⟨V, hV⟩ : ∃ V, V = (tellC l j).V := ⟨_, rfl⟩
          have HV := Lib.hid hV
          have hV2 : sgnI (valB ((l.drop (2 + 14 * j)).take 8) : Int) = V := hV.symm
          rw [hV2]
          clear hcur hg HC HX HY HP hV hV2
          go_wp2_with fail
          refine (refget_ok HC1.out 6 (by omega) (by omega) (by omega)).mono ?_
          rintro e v2 ⟨rfl, hcur, hg⟩
          have HC2 : Hid (Cur v2 r 66 (some ⟨b, o, none⟩) c 64 (2 + 14 * j + 8 + 6) l) := Lib.hid hcur
          have HX2 := Lib.hid (HX1.out.far hg (by have := HZ2.out; omega))
          have HY2 := Lib.hid (HY1.out.far hg (by have := HZ2.out; omega))
          have HP2 := Lib.hid (HP1.out.grown hg HP1.out.size (fun k hk => by injection hk with hk; have := HZ2.out; omega))
          obtain ⟨X, hX⟩ : ∃ X, X = valB ((l.drop (2 + 14 * j + 8)).take 6) := ⟨_, rfl⟩
          have HXL : Hid ((tellC l j).L = (X : Int)) := Lib.hid (by
            have e : (tellC l j).L = ((valB ((l.drop (10 + 14 * j)).take 6) : Nat) : Int) := rfl
            rw [e, hX, show 10 + 14 * j = 2 + 14 * j + 8 from by omega])
          have hXb : X < 281474976710656 := by
            rw [hX]
            refine Nat.lt_of_lt_of_le (valB_lt _) ?_
            have h : ((l.drop (2 + 14 * j + 8)).take 6).length ≤ 6 := by rw [List.length_take]; omega
            exact Nat.le_trans (Nat.pow_le_pow_right (by omega) h) (by decide)
          have hwX : IntKind.i64.wrap (X : Int) = (X : Int) := by rw [IntKind.wrap_i64]; omega
          rw [← hX]
          obtain ⟨c0, c1⟩ := HY2.out.at_ j hlt
          have f0 := HY2.out.fr (j * 2)
          have f1 := HY2.out.fr (j * 2 + 1)
          obtain ⟨HY3, hg3⟩ := HY2.out.put2 j hlt (tellC l j)
          rw [← HV.out, HXL.out] at HY3 hg3
          have HY4 : Hid (C3At _ (w.heap.size + 1) 25 (toldTo l (j + 1))) := Lib.hid HY3
          have HX4 := Lib.hid (HX2.out.far hg3 (by omega))
          have HP4 := Lib.hid (HP2.out.grown hg3 HP2.out.size (fun k hk => by injection hk with hk; omega))
          have HC4 : Hid (Cur _ r 66 (some ⟨b, o, none⟩) c 64 (2 + 14 * (j + 1)) l) := Lib.hid ⟨(hg3.block r HC2.out.lt (fun e => by injection e with e; have := HZ2.out; omega)).trans (by have h := HC2.out.blk; rw [show 2 + 14 * j + 8 + 6 = 2 + 14 * (j + 1) from by omega] at h; exact h), by omega, HLN.out, hc64, by omega, (HL.out.rd.below HP4.out).more (by have := HZ2.out; omega)⟩
          clear hcur hg HC1 HX1 HY1 HP1 hX HY3 hg3 HC2 HX2 HY2 HP2
          go_wp2_with fail
          go_roundg (gk - 1)
          case measure => omega
          case rel => exact ⟨j + 1, by go_num, by omega, HC4, HX4, HY4, HP4⟩
        · obtain rfl : j = 3 := by omega
          have HY3 : Hid (C3At wr (w.heap.size + 1) 25 (tell3 l)) := HY
          clear HY
          go_wp2_with (refine wpList_load_c3 tyR HY3.out rfl (.tmp 4) rfl rfl ?_)
          refine (refcells_any (tell3 l) wr).mono ?_
          rintro e w4 ⟨A4, n4, c4, rfl, hn4, ho4, hb4⟩
          have HB4 := Lib.hid (HP.out.trans (hb4.mono HP.out.size))
          have HLY := Lib.hid (HL.out.up HB4.out)
          have HX4 := Lib.hid (HX.out.below hb4)
          have HY4 := Lib.hid (HY3.out.below hb4)
          clear hb4 HX HY3 HP HC
          by_cases hm : (tell3 l).May
          · have hE0 : celE (tell3 l) = 0 := if_pos hm
            have hB0 : celS (tell3 l) = sect (celTo (tell3 l) 3) := if_pos hm
            rw [hE0]
            rw [hB0] at ho4 hn4
            have hn64 : n4 = 64 := by rw [hn4, length_cel]
            clear hE0 hB0 hn4
            subst hn64
            have kc1 := ho4.lies.conv
            have kc2 := HLY.out.conv
            obtain ⟨sx, hsx⟩ : ∃ sx, sx = sect (celTo (tell3 l) 3) := ⟨_, rfl⟩
            rw [← hsx] at kc1
            clear ho4
            by_cases hq : sect (celTo (tell3 l) 3) = l
            · have H0 : Hid (ocE l = 0) := Lib.hid (by rw [HR.out, if_pos ⟨hm, hq⟩])
              have HD : Hid (oc3 l = tell3 l) := Lib.hid (oc3_ok H0.out HNZ.out)
              have hbq : (sx == l) = true := by rw [hsx, hq]; simp
              clear hm hq hsx
              go_wp2_with (first
                | (refine wpList_load_c3 tyR HY4.out rfl (.tmp 4) rfl rfl ?_)
                | (refine wpList_store_c3 tyR HX4.out rfl (.tmp 2) (.tmp 65) rfl rfl (tell3 l) rfl ?_; intro w6 hs6 hg6))
              exact bodyPost_ret (results_c32 tyR rfl _ rfl _ rfl hs6) rfl ⟨by rw [HD.out, H0.out]; rfl, HB4.out.grown hg6 HB4.out.size (fun k hk => by injection hk with hk; omega)⟩
            · have H0 : Hid (ocE l = 3) := Lib.hid (by rw [HR.out, if_neg (fun h => hq h.2)])
              have HD : Hid (oc3 l = .zero) := Lib.hid (oc3_not (by rw [H0.out]; decide))
              have hbq : (sx == l) = false := by rw [hsx]; simpa using hq
              clear hm hq hsx
              go_wp2_with (refine wpList_store_c3 tyR HX4.out rfl (.tmp 2) (.tmp 64) rfl rfl C3.zero rfl ?_; intro w6 hs6 hg6)
              exact bodyPost_ret (results_c32 tyR rfl _ rfl _ rfl hs6) rfl ⟨by rw [HD.out, H0.out]; rfl, HB4.out.grown hg6 HB4.out.size (fun k hk => by injection hk with hk; omega)⟩
          · have hE0 : celE (tell3 l) = 1 := if_neg hm
            rw [hE0]
            have H0 : Hid (ocE l = 3) := Lib.hid (by rw [HR.out, if_neg (fun h => hm h.1)])
            have HD : Hid (oc3 l = .zero) := Lib.hid (oc3_not (by rw [H0.out]; decide))
            clear hE0 hm hn4 ho4
            go_wp2_with (refine wpList_store_c3 tyR HX4.out rfl (.tmp 2) (.tmp 64) rfl rfl C3.zero rfl ?_; intro w6 hs6 hg6)
            exact bodyPost_ret (results_c32 tyR rfl _ rfl _ rfl hs6) rfl ⟨by rw [HD.out, H0.out]; rfl, HB4.out.grown hg6 HB4.out.size (fun k hk => by injection hk with hk; omega)⟩
  · have h0 := hE
    obtain ⟨E, hEE⟩ : ∃ E, E = whyE l := ⟨_, rfl⟩
    have HE : Hid (ocE l = E) := Lib.hid (by rw [hEE]; exact ocE_why h0)
    rw [← hEE] at h0 ⊢
    have HN : Hid (oc3 l = .zero) := Lib.hid (oc3_not (by rw [HE.out]; exact h0))
    have h1 : (E == 0) = false := beq_eq_false_iff_ne.2 h0
    have h2 : (E != 0) = true := by simp [h0]
    generalize whyZ l = z
    clear hE hEE
    go_wp2_with (first
      | (refine wpList_load_c3 tyR HY1.out rfl (.tmp 4) rfl rfl ?_)
      | (refine wpList_store_c3 tyR HX1.out rfl (.tmp 2) (.tmp 25) rfl rfl C3.zero rfl ?_; intro w6 hs6 hg6))
    exact bodyPost_ret (results_c32 tyR rfl _ rfl _ rfl hs6) rfl ⟨by rw [HN.out, HE.out]; rfl, HP1.out.grown hg6 HP1.out.size (fun k hk => by injection hk with hk; omega)⟩

end Go.Proofs.Ytknjkihcpcimpaa
