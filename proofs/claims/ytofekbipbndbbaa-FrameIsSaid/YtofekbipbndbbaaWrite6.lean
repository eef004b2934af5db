/-
  The program's Write, of any piece.
-/
import Derived.Test.YtofekbipbndbbaaBody
namespace Go.Proofs.Ytofekbipbndbbaa
open Go.RowKit Crc Wm

set_option maxHeartbeats 400000 in
theorem sumbytes6_any (A : Option Addr) (c L : Nat) (l : List UInt8) (HL : Hid (l.length = L)) (w : World) (hr : Rd w w.heap.size A l) (hl : L ≤ 1073741824) :
    Calls Try.prog 28 #[.slice A L c] w (Made w 4 (sum4 l)) := by
  have hof := of_any A c L l HL w hr (by omega)
  obtain ⟨h0, h1⟩ := word_bd (ofB l)
  have HS : Hid (sum4 l = [] ++ putB (clampN 4) (word (ofB l)).toNat) := rfl
  rw [HS.out]
  generalize word (ofB l) = x at hof h0 h1
  have HOF := Lib.hid hof
  clear hof HS
  go_enter Try.func28, Try.ntmps28
  go_wp2_with (first
    | (go_at_call 41; refine (HOF.out).mono ?_; rintro e w1 ⟨rfl, hb1⟩)
    | (go_at_call 39; refine (put_any none 0 0 [] rfl _ _ w1 (Rd.nil _ _ _) (by omega) h0 (by omega)).mono ?_; rintro e w2 ⟨A2, c2, rfl, ho2, hb2⟩))
  go_ret
  exact ⟨A2, c2, rfl, ho2.base_le hb1.size, hb1.trans (hb2.mono hb1.size)⟩

/-- a call answers bytes of its own, and an error -/
def Gives (w : World) (l : List UInt8) (E : Int) (e : Ending) (w' : World) : Prop :=
  ∃ A n c, e = .returned (.tuple #[.slice A n c, .int .i64 E]) ∧ Owns w' w.heap.size A c n l ∧ Below w.heap.size w w'

def Pv.pc (p : Pv) (D : List UInt8) : Pc := ⟨p.E, p.A, p.I, p.C, D⟩
theorem pc_may (p : Pv) (D : List UInt8) (h : D.length = p.n) : (p.pc D).May ↔ MayN p.E p.A p.I p.C p.n := by
  rw [may_iff]
  show MayN p.E p.A p.I p.C D.length ↔ _
  rw [h]

theorem Gives.no {w w' : World} {p : Pv} {D : List UInt8} (h : D.length = p.n) (hm : ¬ MayN p.E p.A p.I p.C p.n) (hb : Below w.heap.size w w') : Gives w (p.pc D).writeB (p.pc D).writeE (.returned (.tuple #[.slice none 0 0, .int .i64 1])) w' := by
  have h1 : ¬ (p.pc D).May := fun g => hm ((pc_may p D h).1 g)
  unfold Pc.writeB Pc.writeE
  rw [if_neg h1, if_neg h1]
  exact ⟨none, 0, 0, rfl, ⟨rfl, .inl ⟨rfl, rfl⟩⟩, hb⟩
theorem Gives.yes {w w' : World} {p : Pv} {D : List UInt8} {A : Option Addr} {n c : Nat} (h : D.length = p.n) (hm : MayN p.E p.A p.I p.C p.n) (ho : Owns w' w.heap.size A c n (p.pc D).sector) (hb : Below w.heap.size w w') : Gives w (p.pc D).writeB (p.pc D).writeE (.returned (.tuple #[.slice A n c, .int .i64 0])) w' := by
  have h1 : (p.pc D).May := (pc_may p D h).2 hm
  unfold Pc.writeB Pc.writeE
  rw [if_pos h1, if_pos h1]
  exact ⟨A, n, c, rfl, ho, hb⟩

set_option maxHeartbeats 2000000 in
set_option maxRecDepth 100000 in
theorem write_any (p : Pv) (D : List UInt8) (w : World) (hl : Lies w p.ad p.c p.n D) (hn : p.n ≤ 4611686018427387904) :
    Calls Try.prog 11 #[pvV p] w (Gives w (p.pc D).writeB (p.pc D).writeE) := by
  have HX := Lib.hid (Bp.new w p 31)
  have HB := Lib.hid (below_new w (.cells (pvC p) 31))
  have HL := Lib.hid hl
  have HM := Lib.hid (may_any p hn)
  have HF := Lib.hid (body_any p D)
  have HY := Lib.hid (fun W W' A n c => @Gives.yes W W' p D A n c hl.len)
  have HN := Lib.hid (fun W W' => @Gives.no W W' p D hl.len)
  have HS : Hid (p.pc D = ⟨p.E, p.A, p.I, p.C, D⟩) := Lib.hid rfl
  obtain ⟨q, hq⟩ : ∃ q, q = p.pc D := ⟨_, rfl⟩
  rw [← hq] at HY HN HS ⊢
  clear hq hn hl
  rw [← HS.out] at HF
  obtain ⟨E, A, I, C, ad, n, c⟩ := p
  simp only at HL HM HF HY HN
  have c0 := HX.out.c0
  have c1 := HX.out.c1
  have c2 := HX.out.c2
  have c3 := HX.out.c3
  have c4 := HX.out.c4
  simp only at c0 c1 c2 c3 c4
  go_enter Try.func11, Try.ntmps11
  go_wp2_with fail
  refine (HM.out _).mono ?_
  rintro e w1 ⟨rfl, hb⟩
  replace HX := Lib.hid (HX.out.below hb)
  replace HB := Lib.hid (below_two HB.out hb)
  clear hb c0 c1 c2 c3 c4
  have c0 := HX.out.c0
  have c1 := HX.out.c1
  have c2 := HX.out.c2
  have c3 := HX.out.c3
  have c4 := HX.out.c4
  simp only at c0 c1 c2 c3 c4
  by_cases hm : MayN E A I C n
  · have hd : decide (MayN E A I C n) = true := decide_eq_true hm
    have HMM := Lib.hid hm
    clear hm
    rw [hd]
    clear hd
    go_wp2_with fail
    refine (HF.out w1 (HL.out.up HB.out) HMM.out).mono ?_
    rintro e w2 ⟨A2, b2, rfl, ho, hb⟩
    replace HX := Lib.hid (HX.out.below hb)
    replace HB := Lib.hid (below_two HB.out hb)
    have HO := Lib.hid ho
    clear ho hb c0 c1 c2 c3 c4
    go_wp2_with fail
    refine (sumbytes6_any A2 b2 60 _ (Lib.hid HO.out.len) w2 HO.out.read (by omega)).mono ?_
    rintro e w3 ⟨A3, b3, rfl, ho3, hb⟩
    have HO2 := Lib.hid (HO.out.lies.up hb)
    replace HB := Lib.hid (below_two HB.out hb)
    have HO3 := Lib.hid ho3
    clear hb ho3
    go_wp2_with fail
    refine (concat_any w3.heap.size 0 2 2 _ (Lib.hid rfl) (by omega) _ (Lib.hid (parts_two HO3.out.lies HO2.out _ _ rfl)) 64 (Lib.hid ?_) (by omega) (by omega)).mono ?_
    · have h1 := HO3.out.len
      have h2 := HO2.out.len
      simp only [List.flatten_cons, List.flatten_nil, List.append_nil, List.length_append, h1, h2]
    rintro e w4 ⟨A4, b4, rfl, ho4, hb⟩
    have HB3 := Lib.hid (below_two HB.out (below_new w3 (.cells #[.slice A3 4 b3, .slice A2 60 b2] 22)))
    have HB4 := Lib.hid (below_two HB3.out hb)
    have HO4 := Lib.hid (ho4.base_le HB3.out.size)
    clear hb ho4
    go_wp2_with fail
    go_ret2
    refine HY.out _ _ _ _ _ HMM.out ?_ HB4.out
    have h := HO4.out
    simp only [List.flatten_cons, List.flatten_nil, List.append_nil] at h
    exact h
  · have hd : decide (MayN E A I C n) = false := decide_eq_false hm
    have HMM := Lib.hid hm
    clear hm
    rw [hd]
    clear hd
    go_wp2_with fail
    go_ret2
    exact HN.out _ _ HMM.out HB.out

end Go.Proofs.Ytofekbipbndbbaa
