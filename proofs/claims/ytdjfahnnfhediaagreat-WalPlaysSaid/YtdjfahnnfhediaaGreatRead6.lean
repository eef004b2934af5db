/-
  The program's Read, of any bytes.
-/
import Derived.Test.YtdjfahnnfhediaaGreatTold
namespace Go.Proofs.YtdjfahnnfhediaaGreat
set_option maxRecDepth 100000
open Go.RowKit Crc Wm

theorem read_told (l : List UInt8) (h : l.length = 64) (hs : l.take 4 = sum4 (l.drop 4)) : readE l = toldE l ∧ readP l = toldP l := by
  have e : readE l = toldE l := by
    unfold readE toldE
    rw [if_neg (by omega), if_neg (by omega), if_neg (by rw [hs]; exact fun h => h rfl)]
  refine ⟨e, ?_⟩
  unfold readP toldP
  rw [e]

theorem PieceOut.fail {w w' : World} {l : List UInt8} {E : Int} (h : readE l = E) (hE : E ≠ 0) (hb : Below w.heap.size w w') :
    PieceOut w (readP l) (readE l) (.returned (.tuple #[.agg #[.int .i64 0, .int .i64 0, .int .i64 0, .int .i64 0, .slice none 0 0], .int .i64 E])) w' := by
  rw [readP_not l (by rw [h]; exact hE), h]
  exact ⟨none, 0, 0, rfl, ⟨rfl, .inl ⟨rfl, rfl⟩⟩, hb⟩

theorem PieceOut.from {w w1 : World} {p : Pc} {E : Int} {e : Ending} {w2 : World} (hb : Below w.heap.size w w1) (h : PieceOut w1 p E e w2) : PieceOut w p E e w2 := by
  obtain ⟨A, n, c, he, ho, hb2⟩ := h
  exact ⟨A, n, c, he, ho.base_le hb.size, below_two hb hb2⟩

theorem results_five {W w : World} (h : Below w.heap.size w W) (e0 e1 e2 e3 e4 : Value) : Below w.heap.size w (((((W.setCell ⟨w.heap.size, 0, none⟩ e0).setCell ⟨w.heap.size, 1, none⟩ e1).setCell ⟨w.heap.size, 2, none⟩ e2).setCell ⟨w.heap.size, 3, none⟩ e3).setCell ⟨w.heap.size, 4, none⟩ e4) :=
  ((((h.setCell (Nat.le_refl _) _).setCell (Nat.le_refl _) _).setCell (Nat.le_refl _) _).setCell (Nat.le_refl _) _).setCell (Nat.le_refl _) _

set_option maxHeartbeats 1500000 in
set_option maxRecDepth 100000 in
theorem read_any (A : Option Addr) (c n : Nat) (l : List UInt8) (w : World) (hl : Lies w A c n l) (hn : n ≤ 4611686018427387904) :
    Calls Tryz.prog 90 #[.slice A n c] w (PieceOut w (readP l) (readE l)) := by
  have HY := Lib.hid (Bp.new w zp 105)
  have HB := Lib.hid (below_new w (.cells #[.int .i64 0, .int .i64 0, .int .i64 0, .int .i64 0, .slice none 0 0] 105))
  have HL := Lib.hid hl.len
  have hc := hl.cap
  have HR := Lib.hid hl.rd
  clear hl
  have y0 := HY.out.c0
  have y1 := HY.out.c1
  have y2 := HY.out.c2
  have y3 := HY.out.c3
  have y4 := HY.out.c4
  have f0 := HY.out.fr 0
  have f1 := HY.out.fr 1
  have f2 := HY.out.fr 2
  have f3 := HY.out.fr 3
  have f4 := HY.out.fr 4
  unfold zp at y0 y1 y2 y3 y4
  simp only at y0 y1 y2 y3 y4
  rcases Nat.lt_or_ge n 64 with h64 | h64
  · have HN := Lib.hid (fun W => @PieceOut.fail w W l 2 (readE_short l (by rw [HL.out]; exact h64)) (by decide))
    go_enter Tryz.func90, Tryz.ntmps90
    go_wp2_with fail
    exact bodyPost_ret (v := .tuple #[.agg #[.int .i64 0, .int .i64 0, .int .i64 0, .int .i64 0, .slice none 0 0], .int .i64 2]) (by rw [results_cell_tmp rfl]; go_simp) rfl (HN.out _ HB.out)
  rcases Nat.lt_or_ge 64 n with h65 | h65
  · have HN := Lib.hid (fun W => @PieceOut.fail w W l 3 (readE_long l (by rw [HL.out]; exact h65)) (by decide))
    go_enter Tryz.func90, Tryz.ntmps90
    go_wp2_with fail
    exact bodyPost_ret (v := .tuple #[.agg #[.int .i64 0, .int .i64 0, .int .i64 0, .int .i64 0, .slice none 0 0], .int .i64 3]) (by rw [results_cell_tmp rfl]; go_simp) rfl (HN.out _ HB.out)
  obtain rfl : n = 64 := by omega
  clear h64 h65
  rcases HR.out with h0 | ⟨b, o, rfl, hbb, _⟩
  · exfalso
    have := HL.out
    rw [h0] at this
    simp at this
  have HS : Hid (w.heap.size + 1 ≤ (w.alloc (.cells (pvC zp) 105)).heap.size) := by show _ ≤ _; simp
  have HR4 : Hid (Rd w w.heap.size (some ⟨b, o, none⟩) (l.take 4)) := by
    have h1 := HR.out.cut 0 4 (some ⟨b, o, none⟩) (fun b' o' e _ => by injection e with e; injection e with e1 e2; subst e1 e2; rfl)
    exact Lib.hid (by simpa using h1)
  have HR60 : Hid (Rd w w.heap.size (some ⟨b, o + 4, none⟩) (l.drop 4)) := by
    have h1 := HR.out.cut 4 60 (some ⟨b, o + 4, none⟩) (fun b' o' e _ => by injection e with e; injection e with e1 e2; subst e1 e2; rfl)
    rwa [List.take_of_length_le (by rw [List.length_drop, HL.out]; omega)] at h1
  have HL4 : Hid ((l.take 4).length = 4) := by show _ = _; rw [List.length_take, HL.out]; rfl
  have HL60 : Hid ((l.drop 4).length = 60) := by show _ = _; rw [List.length_drop, HL.out]
  have HT := Lib.hid (told_any b (o + 4) (c - 4) l HL (by omega))
  have hcc : ¬ c = 4 := by omega
  have hc4 : (4 : Int) ≤ (c : Int) := by omega
  clear y0 y1 y2 y3 y4 f0 f1 f2 f3 f4 hbb
  go_enter Tryz.func90, Tryz.ntmps90
  go_wp2_with fail
  generalize hw0 : w.alloc (.cells #[.int .i64 0, .int .i64 0, .int .i64 0, .int .i64 0, .slice none 0 0] 105) = w0
  replace HY : Hid (Bp w0 w.heap.size zp 105) := by rw [← hw0]; exact HY
  replace HB : Hid (Below w.heap.size w w0) := by rw [← hw0]; exact HB
  replace HS : Hid (w.heap.size + 1 ≤ w0.heap.size) := by rw [← hw0]; exact HS
  clear hw0
  refine wp_region_since (by kernel_rfl) ?_
  have hS : Since w0 (World.drew w0) := (Below.refl _ _).drew
  refine wpAnyH_take (i := 0) (oi := ⟨some 12, _, _, _, _, _⟩) (v := ?_) rfl (by kernel_rfl) (by kernel_rfl) (by kernel_rfl) (fun _ _ _ h => h) (Or.inl ⟨by rfl, ?_⟩) hS ?_
  rotate_left
  · intro W hW; go_simp; with_reducible rfl
  try simp only [Act.put, List.setIfInBounds_toArray, List.set_cons_zero, List.set_cons_succ]
  refine wpAnyH_take (i := 1) (oi := ⟨some 13, _, _, _, _, _⟩) (v := ?_) rfl (by kernel_rfl) (by kernel_rfl) (by kernel_rfl) (fun _ _ _ h => h) (Or.inl ⟨by rfl, ?_⟩) hS ?_
  rotate_left
  · intro W hW; go_simp; with_reducible rfl
  try simp only [Act.put, List.setIfInBounds_toArray, List.set_cons_zero, List.set_cons_succ]
  refine wpAnyH_take (i := 2) (oi := ⟨some 14, _, _, _, _, _⟩) (v := ?_) rfl (by kernel_rfl) (by kernel_rfl) (by kernel_rfl) (fun _ _ _ h => h) (Or.inl ⟨by rfl, ?_⟩) hS ?_
  rotate_left
  · intro W hW; go_simp; with_reducible rfl
  try simp only [Act.put, List.setIfInBounds_toArray, List.set_cons_zero, List.set_cons_succ]
  refine wpAnyH_take (i := 3) (oi := ⟨some 15, _, _, _, _, _⟩) (v := ?_) rfl (by kernel_rfl) (by kernel_rfl) (by kernel_rfl) (fun _ _ _ h => h) (Or.inl ⟨by rfl, ?_⟩) hS ?_
  rotate_left
  · intro W hW; go_simp; with_reducible rfl
  try simp only [Act.put, List.setIfInBounds_toArray, List.set_cons_zero, List.set_cons_succ]
  refine wpAnyH_ready (rs := [4]) (by kernel_rfl) (by simp) ?_
  refine AllReadyH.cons (o := ⟨some 16, _, _, _, _, _⟩) rfl (fun Kr hKr => ?_) AllReadyH.nil
  -- operation 4: a call
  go_simp
  refine (sumbytes6_any _ (c - 4) 60 (l.drop 4) HL60 _ (HR60.out.up (HB.out.trans (hS.mono HB.out.size))) (by omega)).mono ?_
  rintro e w1 ⟨A1, c1, rfl, ho1, hb1⟩
  have HO1 := Lib.hid ho1
  have HB1 := Lib.hid (since_trans hS hb1)
  clear ho1 hb1
  show Kr _ _
  refine hKr.out _ _ ?_ (fun _ => ?_)
  · exact HB1.out
  clear hKr Kr
  replace hS : Since w0 w1 := HB1.out
  try simp only [Act.put, List.setIfInBounds_toArray, List.set_cons_zero, List.set_cons_succ]
  refine wpAnyH_ready (rs := [5]) (by kernel_rfl) (by simp) ?_
  refine AllReadyH.cons (o := ⟨some 17, _, _, _, _, _⟩) rfl (fun Kr hKr => ?_) AllReadyH.nil
  -- operation 5: a call
  go_simp
  refine (equal_any _ c 4 (l.take 4) HL4 A1 c1 4 _ (Lib.hid (length_sum4 _)) w1 (HR4.out.up (below_two HB.out HB1.out)) HO1.out.read).mono ?_
  rintro e w2 ⟨rfl, hw⟩
  subst hw
  show Kr _ _
  refine hKr.out _ _ ?_ (fun _ => ?_)
  · exact HB1.out
  clear hKr Kr
  replace hS : Since w0 w1 := HB1.out
  try simp only [Act.put, List.setIfInBounds_toArray, List.set_cons_zero, List.set_cons_succ]
  refine wpAnyH_take (i := 6) (oi := ⟨some 18, _, _, _, _, _⟩) (v := ?_) rfl (by kernel_rfl) (by kernel_rfl) (by kernel_rfl) (fun _ _ _ h => h) (Or.inl ⟨by rfl, ?_⟩) hS ?_
  rotate_left
  · intro W hW; go_simp; with_reducible rfl
  try simp only [Act.put, List.setIfInBounds_toArray, List.set_cons_zero, List.set_cons_succ]
  refine wpAnyH_done (by kernel_rfl) ?_ _
  have HY1 := Lib.hid (HY.out.below HB1.out)
  have HB2 := Lib.hid (below_two HB.out HB1.out)
  have HS2 := Lib.hid (Nat.le_trans HS.out HB1.out.size)
  clear hS HY HB HS HO1 HR4 HL4
  by_cases hs : l.take 4 = sum4 (l.drop 4)
  · have hq : (l.take 4 == sum4 (l.drop 4)) = true := beq_iff_eq.2 hs
    obtain ⟨hE, hP⟩ := read_told l HL.out hs
    rw [hq]
    have HEE := Lib.hid hE
    have HPP := Lib.hid hP
    clear hq hs hE hP
    go_wp2_with fail
    refine (HT.out w1 (HR60.out.up HB2.out)).mono ?_
    rintro e w3 ⟨A3, n3, c3, rfl, ho3, hb3⟩
    have HY3 := Lib.hid (HY1.out.below hb3)
    have HB3 := Lib.hid (below_two HB2.out hb3)
    have HO3 := Lib.hid ho3
    clear ho3 hb3
    have y0 := HY3.out.c0
    have y1 := HY3.out.c1
    have y2 := HY3.out.c2
    have y3 := HY3.out.c3
    have y4 := HY3.out.c4
    have f0 := HY3.out.fr 0
    have f1 := HY3.out.fr 1
    have f2 := HY3.out.fr 2
    have f3 := HY3.out.fr 3
    have f4 := HY3.out.fr 4
    unfold zp at y0 y1 y2 y3 y4
    simp only at y0 y1 y2 y3 y4
    generalize toldP l = p at *
    generalize toldE l = E at *
    obtain ⟨PE, PA, PI, PC, PD⟩ := p
    simp only at HO3
    go_wp2_with fail
    refine bodyPost_ret (v := .tuple #[.agg #[.int .i64 PE, .int .i64 PA, .int .i64 PI, .int .i64 PC, .slice A3 n3 c3], .int .i64 E]) (by rw [results_cell_tmp rfl]; go_simp) rfl ?_
    rw [HEE.out, HPP.out]
    refine ⟨A3, n3, c3, rfl, ?_, results_five HB3.out _ _ _ _ _⟩
    have h0 : w.heap.size < w1.heap.size := HS2.out
    exact (((((HO3.out.setOld h0 _).setOld h0 _).setOld h0 _).setOld h0 _).setOld h0 _).base_le (by omega)
  · have hq : (l.take 4 == sum4 (l.drop 4)) = false := by rw [beq_eq_false_iff_ne]; exact hs
    have HN := Lib.hid (fun W => @PieceOut.fail w W l 4 (readE_sum l HL.out hs) (by decide))
    rw [hq]
    clear hq hs
    have y0 := HY1.out.c0
    have y1 := HY1.out.c1
    have y2 := HY1.out.c2
    have y3 := HY1.out.c3
    have y4 := HY1.out.c4
    have f0 := HY1.out.fr 0
    have f1 := HY1.out.fr 1
    have f2 := HY1.out.fr 2
    have f3 := HY1.out.fr 3
    have f4 := HY1.out.fr 4
    unfold zp at y0 y1 y2 y3 y4
    simp only at y0 y1 y2 y3 y4
    go_wp2_with fail
    exact bodyPost_ret (v := .tuple #[.agg #[.int .i64 0, .int .i64 0, .int .i64 0, .int .i64 0, .slice none 0 0], .int .i64 4]) (by rw [results_cell_tmp rfl]; go_simp) rfl (HN.out _ (results_five HB2.out _ _ _ _ _))

end Go.Proofs.YtdjfahnnfhediaaGreat
