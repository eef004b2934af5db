/-
  The program's told: the piece that a body's 60 bytes tell.
-/
import Derived.Test.YtdjfahnnfhediaaGreatBodyA
import Derived.Laws.ResultCell
namespace Go.Proofs.YtdjfahnnfhediaaGreat
set_option maxRecDepth 100000
open Go.RowKit Crc Wm

/-- a call answers a piece, its data in memory of its own, and an error -/
def PieceOut (w : World) (p : Pc) (E : Int) (e : Ending) (w' : World) : Prop :=
  ∃ A n c, e = .returned (.tuple #[.agg #[.int .i64 p.E, .int .i64 p.A, .int .i64 p.I, .int .i64 p.C, .slice A n c], .int .i64 E]) ∧ Owns w' w.heap.size A c n p.D ∧ Below w.heap.size w w'

def toldE (l : List UInt8) : Int := if sizeN l ≤ 44 ∧ Clean l ∧ (tell l).May then 0 else 3
def toldP (l : List UInt8) : Pc := if toldE l = 0 then tell l else Pc.none

theorem field_drop (l : List UInt8) (k n : Nat) : fieldN (l.drop 4) k n = fieldN l (4 + k) n := by
  unfold fieldN
  rw [List.drop_drop]

theorem Bp.other {w w' : World} {g r : Nat} {p : Pv} {t : TypeId} (h : Bp w g p t) (hg : w.grownBy w' (some r)) (hr : g ≠ r) : Bp w' g p t :=
  (hg.block g h.lt (fun e => by injection e with e; exact hr e)).trans h
theorem Rd.other {w w' : World} {B r : Nat} {A : Option Addr} {l : List UInt8} (h : Rd w B A l) (hg : w.grownBy w' (some r)) (hr : B ≤ r) (hB : B ≤ w.heap.size) : Rd w' B A l :=
  h.keep fun p hp => World.cell?_of_block (hg.block p.block (by omega) (fun e => by injection e with e; omega))

theorem Bp.set4 {w : World} {g : Nat} {E A I C : Int} {a a' : Option Addr} {n n' c c' : Nat} {t : TypeId} (h : Bp w g ⟨E, A, I, C, a, n, c⟩ t) : Bp (w.setCell ⟨g, 4, none⟩ (.slice a' n' c')) g ⟨E, A, I, C, a', n', c'⟩ t := by
  unfold Bp at h ⊢
  rw [heap_setCell_same _ _ _ _ _ _ h]
  rfl
theorem Bp.setOther {w : World} {g : Nat} {p : Pv} {t : TypeId} {q : Addr} (h : Bp w g p t) (hq : g ≠ q.block) (v : Value) : Bp (w.setCell q v) g p t :=
  (heap_setCell_other _ _ _ _ hq).trans h
theorem Owns.setOld {w : World} {B : Nat} {A : Option Addr} {c n : Nat} {l : List UInt8} (h : Owns w B A c n l) {q : Addr} (hq : q.block < B) (v : Value) : Owns (w.setCell q v) B A c n l := ownsRow_setCell_below h hq v

theorem PieceOut.no {w w' : World} {l : List UInt8} (h : ¬ (sizeN l ≤ 44 ∧ Clean l ∧ (tell l).May)) (hb : Below w.heap.size w w') :
    PieceOut w (toldP l) (toldE l) (.returned (.tuple #[.agg #[.int .i64 0, .int .i64 0, .int .i64 0, .int .i64 0, .slice none 0 0], .int .i64 3])) w' := by
  have h1 : toldE l = 3 := by unfold toldE; rw [if_neg h]
  have h2 : toldP l = Pc.none := by unfold toldP; rw [if_neg (by rw [h1]; decide)]
  rw [h1, h2]
  exact ⟨none, 0, 0, rfl, ⟨rfl, .inl ⟨rfl, rfl⟩⟩, hb⟩

def zp : Pv := ⟨0, 0, 0, 0, none, 0, 0⟩

set_option maxHeartbeats 4000000 in
set_option maxRecDepth 100000 in
theorem told_any (b o c : Nat) (l : List UInt8) (HL : Hid (l.length = 64)) (hc : 60 ≤ c) (w : World) (hr : Rd w w.heap.size (some ⟨b, o, none⟩) (l.drop 4)) :
    Calls Tryz.prog 110 #[.slice (some ⟨b, o, none⟩) 60 c] w (PieceOut w (toldP l) (toldE l)) := by
  have HY := Lib.hid (Bp.new w zp 105)
  have HB := Lib.hid (below_new w (.cells (pvC zp) 105))
  have HS : Hid (w.heap.size + 1 ≤ (w.alloc (.cells (pvC zp) 105)).heap.size) := by show _ ≤ _; simp
  have HR := Lib.hid hr
  have HLN : Hid ((l.drop 4).length = 60) := by show _ = _; rw [List.length_drop, HL.out]
  clear hr
  go_enter Tryz.func110, Tryz.ntmps110
  go_wp2_with fail
  refine (new_any HLN hc (by omega) (HR.out.up HB.out)).mono ?_
  rintro e w0 ⟨r, rfl, hcur, hb, hrr⟩
  have hrw : w.heap.size + 1 ≤ r := Nat.le_trans HS.out hrr
  have HC := Lib.hid hcur
  replace HY := Lib.hid (HY.out.below hb)
  replace HB := Lib.hid (below_two HB.out hb)
  replace HS := Lib.hid (Nat.le_trans HS.out hb.size)
  clear hcur hb hrr
  go_wp2_with fail
  refine (next_any HC.out 4 (by omega) (by omega) (by omega)).mono ?_
  rintro e w1 ⟨rfl, hcur, hg⟩
  replace HC := Lib.hid hcur
  replace HY := Lib.hid (HY.out.other hg (by omega))
  replace HB := Lib.hid (HB.out.grown hg HB.out.size (fun k hk => by injection hk with hk; omega))
  replace HS := Lib.hid (Nat.le_trans HS.out hg.size)
  clear hcur hg
  go_wp2_with fail
  refine (next_any HC.out 6 (by omega) (by omega) (by omega)).mono ?_
  rintro e w2 ⟨rfl, hcur, hg⟩
  replace HC := Lib.hid hcur
  replace HY := Lib.hid (HY.out.other hg (by omega))
  replace HB := Lib.hid (HB.out.grown hg HB.out.size (fun k hk => by injection hk with hk; omega))
  replace HS := Lib.hid (Nat.le_trans HS.out hg.size)
  clear hcur hg
  go_wp2_with fail
  refine (next_any HC.out 2 (by omega) (by omega) (by omega)).mono ?_
  rintro e w3 ⟨rfl, hcur, hg⟩
  replace HC := Lib.hid hcur
  replace HY := Lib.hid (HY.out.other hg (by omega))
  replace HB := Lib.hid (HB.out.grown hg HB.out.size (fun k hk => by injection hk with hk; omega))
  replace HS := Lib.hid (Nat.le_trans HS.out hg.size)
  clear hcur hg
  go_wp2_with fail
  refine (next_any HC.out 2 (by omega) (by omega) (by omega)).mono ?_
  rintro e w4 ⟨rfl, hcur, hg⟩
  replace HC := Lib.hid hcur
  replace HY := Lib.hid (HY.out.other hg (by omega))
  replace HB := Lib.hid (HB.out.grown hg HB.out.size (fun k hk => by injection hk with hk; omega))
  replace HS := Lib.hid (Nat.le_trans HS.out hg.size)
  clear hcur hg
  obtain ⟨FE, hFE⟩ : ∃ x, fieldN (l.drop 4) 0 4 = x := ⟨_, rfl⟩
  obtain ⟨FA, hFA⟩ : ∃ x, fieldN (l.drop 4) (0 + 4) 6 = x := ⟨_, rfl⟩
  obtain ⟨FI, hFI⟩ : ∃ x, fieldN (l.drop 4) (0 + 4 + 6) 2 = x := ⟨_, rfl⟩
  obtain ⟨FC, hFC⟩ : ∃ x, fieldN (l.drop 4) (0 + 4 + 6 + 2) 2 = x := ⟨_, rfl⟩
  rw [hFE, hFA, hFI, hFC]
  have HF := Lib.hid (show _ ∧ _ ∧ _ ∧ _ from ⟨hFE, hFA, hFI, hFC⟩)
  clear hFE hFA hFI hFC
  go_wp2_with fail
  have HP := Lib.hid (Bp.new w4 ⟨(FE : Int), (FA : Int), (FI : Int), (FC : Int), none, 0, 0⟩ 105)
  have hb := below_new w4 (.cells #[.int .i64 (FE : Int), .int .i64 (FA : Int), .int .i64 (FI : Int), .int .i64 (FC : Int), .slice none 0 0] 105)
  replace HC := Lib.hid (HC.out.below hb)
  replace HY := Lib.hid (HY.out.below hb)
  replace HB := Lib.hid (below_two HB.out hb)
  have hrq : r ≠ w4.heap.size := by have := HC.out.lt; intro e; have h2 := HC.out.blk; rw [e] at h2; rw [heap_alloc_new] at h2; simp at h2
  have hsq : w.heap.size ≠ w4.heap.size := by have := HS.out; omega
  have hsq2 : w.heap.size + 1 ≤ w4.heap.size := HS.out
  replace HS := Lib.hid (Nat.le_trans HS.out hb.size)
  clear hb
  refine (next_any HC.out 1 (by omega) (by omega) (by omega)).mono ?_
  rintro e w5 ⟨rfl, hcur, hg⟩
  replace HC := Lib.hid hcur
  replace HY := Lib.hid (HY.out.other hg (by omega))
  replace HP := Lib.hid (HP.out.other hg (fun e => hrq e.symm))
  replace HB := Lib.hid (HB.out.grown hg HB.out.size (fun k hk => by injection hk with hk; omega))
  replace HS := Lib.hid (Nat.le_trans HS.out hg.size)
  clear hcur hg
  go_wp2_with fail
  refine (next_any HC.out 1 (by omega) (by omega) (by omega)).mono ?_
  rintro e w6 ⟨rfl, hcur, hg⟩
  replace HY := Lib.hid (HY.out.other hg (by omega))
  replace HP := Lib.hid (HP.out.other hg (fun e => hrq e.symm))
  replace HB := Lib.hid (HB.out.grown hg HB.out.size (fun k hk => by injection hk with hk; omega))
  replace HS := Lib.hid (Nat.le_trans HS.out hg.size)
  clear hcur hg HC
  obtain ⟨S, hS⟩ : ∃ x, fieldN (l.drop 4) (0 + 4 + 6 + 2 + 2) 1 = x := ⟨_, rfl⟩
  obtain ⟨N, hN⟩ : ∃ x, fieldN (l.drop 4) (0 + 4 + 6 + 2 + 2 + 1) 1 = x := ⟨_, rfl⟩
  rw [hS, hN]
  simp only [field_drop, Nat.reduceAdd] at hS hN HF
  have HSZ : Hid (sizeN l = S) := Lib.hid hS
  have HNO : Hid (fieldN l 19 1 = N) := Lib.hid hN
  have hS2 : S < 256 := by rw [← hS]; exact fieldN_lt l 18 1
  have hN2 : N < 256 := by rw [← hN]; exact fieldN_lt l 19 1
  clear hS hN
  have y0 := HY.out.c0
  have y1 := HY.out.c1
  have y2 := HY.out.c2
  have y3 := HY.out.c3
  have y4 := HY.out.c4
  have f0 := HY.out.fr 0
  have f1 := HY.out.fr 1
  have f2 := HY.out.fr 2
  have f3 := HY.out.fr 3
  have f4 := HY.out.fr 4
  unfold zp at y0 y1 y2 y3 y4
  simp only at y0 y1 y2 y3 y4
  have HW5 : Hid (∀ W' : World, (∃ e0 e1 e2 e3 e4, W' = ((((w6.setCell ⟨w.heap.size, 0, none⟩ e0).setCell ⟨w.heap.size, 1, none⟩ e1).setCell ⟨w.heap.size, 2, none⟩ e2).setCell ⟨w.heap.size, 3, none⟩ e3).setCell ⟨w.heap.size, 4, none⟩ e4) → Below w.heap.size w W') := by
    rintro W' ⟨e0, e1, e2, e3, e4, rfl⟩
    exact ((((HB.out.setCell (Nat.le_refl _) _).setCell (Nat.le_refl _) _).setCell (Nat.le_refl _) _).setCell (Nat.le_refl _) _).setCell (Nat.le_refl _) _
  rcases Nat.lt_or_ge 44 S with hS3 | hS3
  · have HNO2 := Lib.hid (fun W => @PieceOut.no w W l (fun h => by have := h.1; rw [HSZ.out] at this; omega))
    go_wp2_with fail
    refine bodyPost_ret (v := .tuple #[.agg #[.int .i64 0, .int .i64 0, .int .i64 0, .int .i64 0, .slice none 0 0], .int .i64 3]) (by rw [results_cell_tmp rfl]; go_simp) rfl (HNO2.out _ (HW5.out _ ⟨_, _, _, _, _, rfl⟩))
  · rcases Nat.eq_zero_or_pos N with hN0 | hN0
    · subst hN0
      have HRZ : Hid (∀ A', (¬ c - 16 = S → A' = some ⟨b, o + 16 + S, none⟩) → Rd w w.heap.size A' (l.drop (20 + S))) := by
        intro A' hA'
        by_cases h : c - 16 = S
        · left
          apply List.drop_eq_nil_of_le
          have := HL.out; omega
        · rw [hA' h]
          have h1 := HR.out.cut (16 + S) 60 (some ⟨b, o + (16 + S), none⟩) (fun b' o' e _ => by injection e with e; injection e with e1 e2; subst e1 e2; rfl)
          rw [List.drop_drop, List.take_of_length_le (by rw [List.length_drop, HL.out]; omega)] at h1
          rw [show 20 + S = 4 + (16 + S) from by omega, show o + 16 + S = o + (16 + S) from by omega]
          exact h1
      have HRD : Hid (Rd w w.heap.size (some ⟨b, o + 16, none⟩) ((l.drop 20).take S)) := by
        have h1 := HR.out.cut 16 S (some ⟨b, o + 16, none⟩) (fun b' o' e _ => by injection e with e; injection e with e1 e2; subst e1 e2; rfl)
        rw [List.drop_drop] at h1
        exact h1
      have HZL : Hid ((l.drop (20 + S)).length = 44 - S) := by show _ = _; rw [List.length_drop, HL.out]; omega
      have HDL : Hid (((l.drop 20).take S).length = S) := by show _ = _; rw [List.length_take, List.length_drop, HL.out]; omega
      have HCL : Hid ((∀ x ∈ l.drop (20 + S), x = 0) ↔ Clean l) := by
        show _ ↔ _
        unfold Clean
        rw [HNO.out, HSZ.out]
        exact ⟨fun h => ⟨rfl, h⟩, fun h => h.2⟩
      have HTL : Hid (tell l = ⟨(FE : Int), (FA : Int), (FI : Int), (FC : Int), (l.drop 20).take S⟩) := by
        show _ = _
        unfold tell
        obtain ⟨h1, h2, h3, h4⟩ := HF.out
        rw [h1, h2, h3, h4, HSZ.out]
      clear y0 y1 y2 y3 y4 f0 f1 f2 f3 f4
      have hd : decide ((S : Int) > 44) = false := decide_eq_false (by omega)
      go_wp2_with fail
      all_goals
        refine (zeros_any _ _ _ _ HZL w6 ((HRZ.out _ (by intro hh; first | rfl | exact absurd ‹_› hh)).up HB.out) (by omega)).mono ?_
        rintro e w7 ⟨rfl, hw⟩
        subst hw
        by_cases hz : ∀ x ∈ l.drop (20 + S), x = 0
        · rw [decide_eq_true hz]
          have HCLN := Lib.hid (HCL.out.1 hz)
          clear hz
          go_wp2_with fail
          refine (clone_any _ _ _ _ HDL w6 (HRD.out.up HB.out) (by omega)).mono ?_
          rintro e w7 ⟨A7, c7, rfl, ho, hb⟩
          have HY7 := Lib.hid (HY.out.below hb)
          have HP7 := Lib.hid (HP.out.below hb)
          have HB7 := Lib.hid (below_two HB.out hb)
          have hq6 : w4.heap.size < w6.heap.size := HP.out.lt
          have HO7 := Lib.hid ho
          clear ho hb
          have p4 := HP7.out.c4
          have g4 := HP7.out.fr 4
          simp only at p4
          have HY8 := Lib.hid (HY7.out.setOther (q := ⟨w4.heap.size, 4, none⟩) hsq (.slice A7 S c7))
          have HP8 := Lib.hid (HP7.out.set4 (a' := A7) (n' := S) (c' := c7))
          have HB8 : Hid (Below w.heap.size w (w7.setCell ⟨w4.heap.size, 4, none⟩ (.slice A7 S c7))) := Lib.hid (HB7.out.setCell (by show _ ≤ w4.heap.size; omega) _)
          have HO8 := Lib.hid (HO7.out.setOld (q := ⟨w4.heap.size, 4, none⟩) hq6 (.slice A7 S c7))
          generalize hW8 : w7.setCell ⟨w4.heap.size, 4, none⟩ (.slice A7 S c7) = w8 at HY8 HP8 HB8 HO8
          have q0 := HP8.out.c0
          have q1 := HP8.out.c1
          have q2 := HP8.out.c2
          have q3 := HP8.out.c3
          have q4 := HP8.out.c4
          simp only at q0 q1 q2 q3 q4
          go_wp2_with fail
          refine (may_any ⟨(FE : Int), (FA : Int), (FI : Int), (FC : Int), A7, S, c7⟩ (by show S ≤ _; omega) w8).mono ?_
          rintro e w9 ⟨rfl, hb⟩
          replace HP8 := Lib.hid (HP8.out.below hb)
          replace HY8 := Lib.hid (HY8.out.below hb)
          replace HB8 := Lib.hid (below_two HB8.out hb)
          replace HO8 := Lib.hid (HO8.out.below hb)
          have hle9 : w.heap.size + 1 ≤ w6.heap.size := HS.out
          clear hb q0 q1 q2 q3 q4 p4 g4
          have q0 := HP8.out.c0
          have q1 := HP8.out.c1
          have q2 := HP8.out.c2
          have q3 := HP8.out.c3
          have q4 := HP8.out.c4
          have y0 := HY8.out.c0
          have y1 := HY8.out.c1
          have y2 := HY8.out.c2
          have y3 := HY8.out.c3
          have y4 := HY8.out.c4
          have f0 := HY8.out.fr 0
          have f1 := HY8.out.fr 1
          have f2 := HY8.out.fr 2
          have f3 := HY8.out.fr 3
          have f4 := HY8.out.fr 4
          unfold zp at y0 y1 y2 y3 y4
          simp only at y0 y1 y2 y3 y4 q0 q1 q2 q3 q4
          have HW9 : Hid (∀ W' : World, (∃ e0 e1 e2 e3 e4, W' = ((((w9.setCell ⟨w.heap.size, 0, none⟩ e0).setCell ⟨w.heap.size, 1, none⟩ e1).setCell ⟨w.heap.size, 2, none⟩ e2).setCell ⟨w.heap.size, 3, none⟩ e3).setCell ⟨w.heap.size, 4, none⟩ e4) → Below w.heap.size w W' ∧ Owns W' w.heap.size A7 c7 S ((l.drop 20).take S)) := by
            rintro W' ⟨e0, e1, e2, e3, e4, rfl⟩
            refine ⟨((((HB8.out.setCell (Nat.le_refl _) _).setCell (Nat.le_refl _) _).setCell (Nat.le_refl _) _).setCell (Nat.le_refl _) _).setCell (Nat.le_refl _) _, ?_⟩
            have h0 : w.heap.size < w6.heap.size := hle9
            exact (((((HO8.out.setOld h0 _).setOld h0 _).setOld h0 _).setOld h0 _).setOld h0 _).base_le (by omega)
          have HMI : Hid ((tell l).May ↔ MayN FE FA FI FC S) := by
            show _ ↔ _
            rw [HTL.out, may_iff]
            show MayN FE FA FI FC (((l.drop 20).take S).length) ↔ _
            rw [HDL.out]
          by_cases hm : MayN FE FA FI FC S
          · have hd : decide (MayN FE FA FI FC S) = true := decide_eq_true hm
            have HE0 : Hid (toldE l = 0) := by show _ = _; unfold toldE; rw [if_pos ⟨by rw [HSZ.out]; exact hS3, HCLN.out, HMI.out.2 hm⟩]
            have HP0 : Hid (toldP l = ⟨(FE : Int), (FA : Int), (FI : Int), (FC : Int), (l.drop 20).take S⟩) := by show _ = _; unfold toldP; rw [if_pos HE0.out, HTL.out]
            clear hm
            rw [hd]
            clear hd
            go_wp2_with fail
            refine bodyPost_ret (v := .tuple #[.agg #[.int .i64 (FE : Int), .int .i64 (FA : Int), .int .i64 (FI : Int), .int .i64 (FC : Int), .slice A7 S c7], .int .i64 0]) (by rw [results_cell_tmp rfl]; go_simp) rfl ?_
            obtain ⟨h1, h2⟩ := HW9.out _ ⟨_, _, _, _, _, rfl⟩
            rw [HE0.out, HP0.out]
            exact ⟨A7, S, c7, rfl, h2, h1⟩
          · have hd : decide (MayN FE FA FI FC S) = false := decide_eq_false hm
            have HNO2 := Lib.hid (fun W => @PieceOut.no w W l (fun h => hm (HMI.out.1 h.2.2)))
            clear hm
            rw [hd]
            clear hd
            go_wp2_with fail
            refine bodyPost_ret (v := .tuple #[.agg #[.int .i64 0, .int .i64 0, .int .i64 0, .int .i64 0, .slice none 0 0], .int .i64 3]) (by rw [results_cell_tmp rfl]; go_simp) rfl (HNO2.out _ (HW9.out _ ⟨_, _, _, _, _, rfl⟩).1)
        · rw [decide_eq_false hz]
          have HNO2 := Lib.hid (fun W => @PieceOut.no w W l (fun h => hz (HCL.out.2 h.2.1)))
          have y0 := HY.out.c0
          have y1 := HY.out.c1
          have y2 := HY.out.c2
          have y3 := HY.out.c3
          have y4 := HY.out.c4
          have f0 := HY.out.fr 0
          have f1 := HY.out.fr 1
          have f2 := HY.out.fr 2
          have f3 := HY.out.fr 3
          have f4 := HY.out.fr 4
          unfold zp at y0 y1 y2 y3 y4
          simp only at y0 y1 y2 y3 y4
          clear hz
          go_wp2_with fail
          refine bodyPost_ret (v := .tuple #[.agg #[.int .i64 0, .int .i64 0, .int .i64 0, .int .i64 0, .slice none 0 0], .int .i64 3]) (by rw [results_cell_tmp rfl]; go_simp) rfl (HNO2.out _ (HW5.out _ ⟨_, _, _, _, _, rfl⟩))
    · have HNO2 := Lib.hid (fun W => @PieceOut.no w W l (fun h => by have := h.2.1.1; rw [HNO.out] at this; omega))
      go_wp2_with fail
      refine bodyPost_ret (v := .tuple #[.agg #[.int .i64 0, .int .i64 0, .int .i64 0, .int .i64 0, .slice none 0 0], .int .i64 3]) (by rw [results_cell_tmp rfl]; go_simp) rfl (HNO2.out _ (HW5.out _ ⟨_, _, _, _, _, rfl⟩))

end Go.Proofs.YtdjfahnnfhediaaGreat
