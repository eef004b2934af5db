/-
  WireReads: the walk: whatever is read of any bytes, one behind the other, what is answered, and how much is left, is what the document says.
-/
import Derived.Test.YtgmnhaohbpclkaaFn
import Derived.Test.YtgmnhaohbpclkaaAwake
namespace Go.Proofs.Ytgmnhaohbpclkaa
open Go.RowKit Wm

/-- the steps that came in: of step i what it is, and its number -/
def Steps (w : World) (B : Nat) (a : Option Addr) (len : Nat) (F G : Nat → Int) : Prop :=
  len = 0 ∨ ∃ b o, a = some ⟨b, o, none⟩ ∧ b < B ∧ ∀ i, i < len → w.cell? ⟨b, o + i * 2, none⟩ = some (.int .i64 (F i)) ∧ w.cell? ⟨b, o + i * 2 + 1, none⟩ = some (.int .i64 (G i))

/-- two readers over the same bytes, at one place -/
structure Two (w W : World) (r q : Nat) (A : Option Addr) (cap n k : Nat) (l : List UInt8) : Prop where
  p : Cur W r 57 A cap n k l
  x : Cur W q 34 A cap n k l
  b : Below w.heap.size w W

section
variable {w W V : World} {r q cap n k : Nat} {A : Option Addr} {l : List UInt8}
theorem Two.first (h : Two w W r q A cap n k l) (hr : Rd w w.heap.size A l) (hb : w.heap.size ≤ r) (hq : r < q) (hg : W.grownBy V (some r)) :
    Cur V q 34 A cap n k l ∧ Below w.heap.size w V := by
  have hB : Below w.heap.size w V := h.b.grown hg h.b.size (fun i hi => by injection hi with hi; omega)
  exact ⟨⟨(hg.block q h.x.lt (fun e => by injection e with e; omega)).trans h.x.blk, h.x.le, h.x.len, h.x.cap_, h.x.nm, (hr.below hB).more (by omega)⟩, hB⟩
theorem two_second {j : Nat} (hp : Cur W r 57 A cap n j l) (hbw : Below w.heap.size w W) (hr : Rd w w.heap.size A l) (hb : w.heap.size ≤ r) (hq : r < q) (hc : Cur V q 34 A cap n j l) (hg : W.grownBy V (some q)) : Two w V r q A cap n j l := by
  have hB : Below w.heap.size w V := hbw.grown hg hbw.size (fun i hi => by injection hi with hi; omega)
  exact ⟨⟨(hg.block r hp.lt (fun e => by injection e with e; omega)).trans hp.blk, hp.le, hp.len, hp.cap_, hp.nm, (hr.below hB).more (by omega)⟩, hc, hB⟩
end

set_option maxRecDepth 100000 in
set_option maxHeartbeats 4000000 in
theorem reads_walk (A : Option Addr) (c L : Nat) (l : List UInt8) (HL : Hid (l.length = L)) (w : World) (hr : Rd w w.heap.size A l) (hl : L ≤ c) (a : Option Addr) (len cap : Nat) (F G : Nat → Int) (hst : Steps w w.heap.size a len F G) :
    Calls Try.prog 4 #[.slice A L c, .slice a len cap] w fun e w' => e = .returned (.bool true) ∧ Below w.heap.size w w' := by
  by_cases hlen : L ≤ 2000 ∧ len ≤ 100
  · obtain ⟨h1, h2⟩ := hlen
    go_enter Try.func4, Try.ntmps4
    go_wp2_with fail
    refine (awake_any w).mono ?_
    rintro e w0 ⟨rfl, hb0⟩
    go_wp2_with fail
    refine (new_any HL hl (by omega) (hr.up hb0)).mono ?_
    rintro e w1 ⟨r, rfl, hcur, hb1, hr1⟩
    have hBr : w.heap.size ≤ r := Nat.le_trans hb0.size hr1
    have hb01 := hb0.trans (hb1.mono hb0.size)
    have hlt := hcur.lt
    have HT : Hid (Two w (w1.alloc (.cells #[.slice A L c, .int .i64 0] 34)) r w1.heap.size A c L 0 l) :=
      ⟨hcur.below ((Below.refl _ _).alloc (Nat.le_refl _) _), hcur.copy (Below.refl _ _) _, hb01.alloc hb01.size _⟩
    clear hb0 hb1 hcur hb01
    go_wp2_with fail
    have hrq : r < w1.heap.size := hlt
    clear hlt hr1
    generalize (w1.alloc (.cells #[.slice A L c, .int .i64 0] 34)) = W0 at *
    generalize w1.heap.size = q at *
    go_loopw [8] (fun i wr => ∃ (j k : Nat), j ≤ len ∧ i = .int .i64 (j : Int) ∧ Two w wr r q A c L k l) (fun i _ => len - (intOf i).toNat)
    case atStart => exact ⟨0, 0, Nat.zero_le _, rfl, HT.out⟩
    case round =>
      clear HT
      obtain ⟨j, k, hj, rfl, hT0⟩ := hrel
      have HT := hide2 hT0
      have hbV : Below w.heap.size w wr := hT0.b
      clear hT0
      by_cases hlt : j < len
      · rcases hst with h0 | ⟨b, o, rfl, hb, hcs⟩
        · omega
        have hF : ∀ V, Below w.heap.size w V → V.cell? ⟨b, o + j * 2, none⟩ = some (.int .i64 (F j)) := fun V hV => (hV.cell (p := ⟨b, o + j * 2, none⟩) hb).trans (hcs j hlt).1
        have hG : ∀ V, Below w.heap.size w V → V.cell? ⟨b, o + j * 2 + 1, none⟩ = some (.int .i64 (G j)) := fun V hV => (hV.cell (p := ⟨b, o + j * 2 + 1, none⟩) hb).trans (hcs j hlt).2
        clear hcs
        rcases (show F j = 0 ∨ F j = 1 ∨ F j = 2 ∨ (F j ≠ 0 ∧ F j ≠ 1 ∧ F j ≠ 2) from by omega) with hf | hf | hf | hf
        · have hF0 : ∀ V, Below w.heap.size w V → V.cell? ⟨b, o + j * 2, none⟩ = some (.int .i64 0) := fun V hV => by rw [hF V hV, hf]
          clear hF hf
          go_wp2_with fail
          refine (get_fn HT.out.p (G j)).mono ?_
          rintro e V1 ⟨rfl, hp1, hg1⟩
          have HP1 := hide2 hp1
          have HX1 := hide2 (HT.out.first hr hBr hrq hg1)
          have hbV1 : Below w.heap.size w V1 := HX1.out.2
          clear hp1 hg1
          go_wp2_with fail
          refine (refget_fn HX1.out.1 (G j)).mono ?_
          rintro e V2 ⟨rfl, hx2, hg2⟩
          have hT := hide2 (two_second HP1.out HX1.out.2 hr hBr hrq hx2 hg2)
          have hbV2 : Below w.heap.size w V2 := hT.out.b
          clear hx2 hg2 HP1 HX1
          go_wp2_with fail
          refine (left_fn hT.out.p).mono ?_
          rintro e V1 ⟨rfl, hp1, hg1⟩
          have HP1 := hide2 hp1
          have HX1 := hide2 (hT.out.first hr hBr hrq hg1)
          clear hp1 hg1
          go_wp2_with fail
          refine (refleft_fn HX1.out.1).mono ?_
          rintro e V2 ⟨rfl, hx2, hg2⟩
          have HT2 := hide2 (two_second HP1.out HX1.out.2 hr hBr hrq hx2 hg2)
          clear hx2 hg2 HP1 HX1
          go_wp2_with fail
          refine (end_fn HT2.out.p).mono ?_
          rintro e V3 ⟨rfl, hp3, hg3⟩
          have HP3 := hide2 hp3
          have HX3 := hide2 (HT2.out.first hr hBr hrq hg3)
          clear hp3 hg3 HT2
          go_wp2_with fail
          refine (refend_fn HX3.out.1).mono ?_
          rintro e V4 ⟨rfl, hx4, hg4⟩
          have HT4 := hide2 (two_second HP3.out HX3.out.2 hr hBr hrq hx4 hg4)
          clear hx4 hg4 HP3 HX3
          go_wp2_with fail
          go_roundw
          case rel => exact ⟨j + 1, _, by omega, by go_num, HT4.out⟩
          case measure => simp [intOf]; omega

        · have hF0 : ∀ V, Below w.heap.size w V → V.cell? ⟨b, o + j * 2, none⟩ = some (.int .i64 1) := fun V hV => by rw [hF V hV, hf]
          clear hF hf
          go_wp2_with fail
          refine (signed_fn HT.out.p).mono ?_
          rintro e V1 ⟨rfl, hp1, hg1⟩
          have HP1 := hide2 hp1
          have HX1 := hide2 (HT.out.first hr hBr hrq hg1)
          have hbV1 : Below w.heap.size w V1 := HX1.out.2
          clear hp1 hg1
          go_wp2_with fail
          refine (refsigned_fn HX1.out.1).mono ?_
          rintro e V2 ⟨rfl, hx2, hg2⟩
          have hT := hide2 (two_second HP1.out HX1.out.2 hr hBr hrq hx2 hg2)
          have hbV2 : Below w.heap.size w V2 := hT.out.b
          clear hx2 hg2 HP1 HX1
          go_wp2_with fail
          refine (left_fn hT.out.p).mono ?_
          rintro e V1 ⟨rfl, hp1, hg1⟩
          have HP1 := hide2 hp1
          have HX1 := hide2 (hT.out.first hr hBr hrq hg1)
          clear hp1 hg1
          go_wp2_with fail
          refine (refleft_fn HX1.out.1).mono ?_
          rintro e V2 ⟨rfl, hx2, hg2⟩
          have HT2 := hide2 (two_second HP1.out HX1.out.2 hr hBr hrq hx2 hg2)
          clear hx2 hg2 HP1 HX1
          go_wp2_with fail
          refine (end_fn HT2.out.p).mono ?_
          rintro e V3 ⟨rfl, hp3, hg3⟩
          have HP3 := hide2 hp3
          have HX3 := hide2 (HT2.out.first hr hBr hrq hg3)
          clear hp3 hg3 HT2
          go_wp2_with fail
          refine (refend_fn HX3.out.1).mono ?_
          rintro e V4 ⟨rfl, hx4, hg4⟩
          have HT4 := hide2 (two_second HP3.out HX3.out.2 hr hBr hrq hx4 hg4)
          clear hx4 hg4 HP3 HX3
          go_wp2_with fail
          go_roundw
          case rel => exact ⟨j + 1, _, by omega, by go_num, HT4.out⟩
          case measure => simp [intOf]; omega

        · have hF0 : ∀ V, Below w.heap.size w V → V.cell? ⟨b, o + j * 2, none⟩ = some (.int .i64 2) := fun V hV => by rw [hF V hV, hf]
          clear hF hf
          go_wp2_with fail
          refine (list_fn HT.out.p (G j)).mono ?_
          rintro e V1 ⟨A1, c1, rfl, hrd1, hln1, hp1, hg1⟩
          have HP1 := hide2 hp1
          have HX1 := hide2 (HT.out.first hr hBr hrq hg1)
          have hbV1 : Below w.heap.size w V1 := HX1.out.2
          have HG1 := hide2 hg1
          clear hp1 hg1
          go_wp2_with fail
          refine (reflist_fn HX1.out.1 (G j)).mono ?_
          rintro e V2 ⟨A2, c2, rfl, hrd2, hln2, hx2, hg2⟩
          have hT := hide2 (two_second HP1.out HX1.out.2 hr hBr hrq hx2 hg2)
          have hbV2 : Below w.heap.size w V2 := hT.out.b
          have hcv1 : (convert 22 9 (.slice A1 (lstM l L k (G j)) c1)).run Try.prog V2 = .ok (.string ⟨(lstB l L k (G j)).toArray⟩) V2 := run_string_rd (hrd1.out V2 q HT.out.x.lt hg2) _ _ Try.underlying22 Try.underlying5 Try.underlying9 _ c1 hln1.out
          have hcv2 : (convert 22 9 (.slice A2 (lstM l L k (G j)) c2)).run Try.prog V2 = .ok (.string ⟨(lstB l L k (G j)).toArray⟩) V2 := run_string_rd (hrd2.out V2 q HX1.out.1.lt (World.grownBy.refl V2 _)) _ _ Try.underlying22 Try.underlying5 Try.underlying9 _ c2 hln2.out
          clear hx2 hg2 HP1 HX1
          go_wp2_with fail
          refine (left_fn hT.out.p).mono ?_
          rintro e V1 ⟨rfl, hp1, hg1⟩
          have HP1 := hide2 hp1
          have HX1 := hide2 (hT.out.first hr hBr hrq hg1)
          clear hp1 hg1
          go_wp2_with fail
          refine (refleft_fn HX1.out.1).mono ?_
          rintro e V2 ⟨rfl, hx2, hg2⟩
          have HT2 := hide2 (two_second HP1.out HX1.out.2 hr hBr hrq hx2 hg2)
          clear hx2 hg2 HP1 HX1
          go_wp2_with fail
          refine (end_fn HT2.out.p).mono ?_
          rintro e V3 ⟨rfl, hp3, hg3⟩
          have HP3 := hide2 hp3
          have HX3 := hide2 (HT2.out.first hr hBr hrq hg3)
          clear hp3 hg3 HT2
          go_wp2_with fail
          refine (refend_fn HX3.out.1).mono ?_
          rintro e V4 ⟨rfl, hx4, hg4⟩
          have HT4 := hide2 (two_second HP3.out HX3.out.2 hr hBr hrq hx4 hg4)
          clear hx4 hg4 HP3 HX3
          go_wp2_with fail
          go_roundw
          case rel => exact ⟨j + 1, _, by omega, by go_num, HT4.out⟩
          case measure => simp [intOf]; omega

        · have hf0 : (F j == 0) = false := beq_eq_false_iff_ne.2 hf.1
          have hf1 : (F j == 1) = false := beq_eq_false_iff_ne.2 hf.2.1
          have hf2 : (F j == 2) = false := beq_eq_false_iff_ne.2 hf.2.2
          clear hf
          have hT := HT
          go_wp2_with fail
          refine (left_fn hT.out.p).mono ?_
          rintro e V1 ⟨rfl, hp1, hg1⟩
          have HP1 := hide2 hp1
          have HX1 := hide2 (hT.out.first hr hBr hrq hg1)
          clear hp1 hg1
          go_wp2_with fail
          refine (refleft_fn HX1.out.1).mono ?_
          rintro e V2 ⟨rfl, hx2, hg2⟩
          have HT2 := hide2 (two_second HP1.out HX1.out.2 hr hBr hrq hx2 hg2)
          clear hx2 hg2 HP1 HX1
          go_wp2_with fail
          refine (end_fn HT2.out.p).mono ?_
          rintro e V3 ⟨rfl, hp3, hg3⟩
          have HP3 := hide2 hp3
          have HX3 := hide2 (HT2.out.first hr hBr hrq hg3)
          clear hp3 hg3 HT2
          go_wp2_with fail
          refine (refend_fn HX3.out.1).mono ?_
          rintro e V4 ⟨rfl, hx4, hg4⟩
          have HT4 := hide2 (two_second HP3.out HX3.out.2 hr hBr hrq hx4 hg4)
          clear hx4 hg4 HP3 HX3
          go_wp2_with fail
          go_roundw
          case rel => exact ⟨j + 1, _, by omega, by go_num, HT4.out⟩
          case measure => simp [intOf]; omega

      · go_wp2_with fail
        refine (left_fn HT.out.p).mono ?_
        rintro e V1 ⟨rfl, hp1, hg1⟩
        have HX1 := hide2 (HT.out.first hr hBr hrq hg1)
        clear hp1 hg1
        go_wp2_with fail
        refine (refleft_fn HX1.out.1).mono ?_
        rintro e V2 ⟨rfl, hx2, hg2⟩
        have HB2 := hide2 (HX1.out.2.grown hg2 HX1.out.2.size (fun i hi => by injection hi with hi; omega))
        clear hx2 hg2
        go_wp2_with fail
        go_ret
        exact ⟨rfl, HB2.out⟩
  · rcases (show 2000 < L ∨ (L ≤ 2000 ∧ 100 < len) from by omega) with h1 | ⟨h1, h2⟩
    all_goals
      go_enter Try.func4, Try.ntmps4
      go_wp2_with fail
      refine (awake_any w).mono ?_
      rintro e w0 ⟨rfl, hb0⟩
      go_wp2_with fail
      go_ret
      exact ⟨rfl, hb0⟩

end Go.Proofs.Ytgmnhaohbpclkaa
