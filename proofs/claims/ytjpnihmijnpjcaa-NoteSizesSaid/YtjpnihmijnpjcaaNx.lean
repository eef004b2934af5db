/-
  The law's example, over the words.
-/
import Derived.Test.YtjpnihmijnpjcaaNq
import Derived.Test.YtjpnihmijnpjcaaNh
namespace Go.Proofs.Ytjpnihmijnpjcaa
set_option maxRecDepth 100000
set_option linter.unusedVariables false
set_option linter.unusedSimpArgs false
open Go.RowKit Wm Nn

def xA : Nt := ⟨2, 3, [], []⟩
theorem xA_san : San xA := ⟨⟨.inr rfl, ⟨by decide, by decide⟩, by decide, by decide, fun _ => rfl⟩, fun j x hx => by simp [xA] at hx, fun j x hx => by simp [xA] at hx⟩
theorem xA_enc : enc xA = [2, 3, 0, 0, 0, 0, 0, 0, 0, 0, 0] := rfl
theorem xA_at (w : World) : NtAt w xA nr0 :=
  ⟨⟨.inl rfl, rfl, rfl, Nat.le_refl _, .inl rfl, fun i r x hr => by simp [nr0] at hr⟩, ⟨.inl rfl, rfl, Nat.le_refl _, .inl rfl, fun i x hx => by simp [xA] at hx⟩, by simp [okI, xA], by simp [okI, xA]⟩
theorem xA_small : SmallN xA := ⟨by decide, by decide, fun i y hy => by simp [xA] at hy⟩
theorem xA_back : decE (enc xA) = 0 ∧ decN (enc xA) = xA := by
  refine @dec_enc xA xA_san ?_
  intro i o ho
  exact absurd ho (by show ¬ ([] : List Od)[i]? = some o; simp)

theorem xA_all : ∃ (x : Nt) (l : List UInt8) (l' : List UInt8), ntV x nr0 = .agg #[.int .i64 2, .int .i64 3, .slice none 0 0, .slice none 0 0] ∧ (∀ r, ntV x r = .agg #[.int .i64 2, .int .i64 3, .slice r.A r.n r.c, .slice r.B r.m r.d]) ∧ (∀ w, NtAt w x nr0) ∧ SmallN x ∧ encB x = l ∧ encE x = 0 ∧ l.length = 11 ∧ l = 2 :: 3 :: l' ∧ decE l = 0 ∧ decN l = x :=
  ⟨xA, enc xA, [0, 0, 0, 0, 0, 0, 0, 0, 0], rfl, fun _ => rfl, xA_at, xA_small, encB_yes xA_san, encE_yes xA_san, rfl, xA_enc, xA_back.1, xA_back.2⟩

set_option maxHeartbeats 2000000 in
theorem awake_any (hw : NoteOk) (w : World) : Calls Try.prog 9 #[] w fun e w' => e = .returned (.bool true) ∧ Below w.heap.size w w' := by
  have HW := Lib.hid hw
  clear hw
  obtain ⟨x, l, l', f1, f2, f3, f4, f5, f6, f7, f8, f9, f10⟩ := xA_all
  have F1 := Lib.hid f1
  have F2 := Lib.hid f2
  have F3 := Lib.hid f3
  have F4 := Lib.hid f4
  have F5 := Lib.hid f5
  have F6 := Lib.hid f6
  have F7 := Lib.hid f7
  have F8 := Lib.hid f8
  have F9 := Lib.hid f9
  have F10 := Lib.hid f10
  clear f1 f2 f3 f4 f5 f6 f7 f8 f9 f10
  go_enter Try.func9, Try.ntmps9
  go_wp2_with fail
  rw [← F1.out]
  refine (HW.out.encode x nr0 w (F3.out w) F4.out).mono ?_
  rintro e w1 ⟨A, N, c, rfl, hN, hO, hb1⟩
  rw [F5.out] at hN hO
  rw [F6.out]
  rw [F7.out] at hN
  subst hN
  have HO := Lib.hid hO
  have HB1 := Lib.hid hb1
  obtain ⟨bb, bo, hA, hbl, hc0⟩ := hO.read.cell (j := 0) (by rw [F7.out]; decide)
  obtain ⟨bb', bo', hA', _, hc1⟩ := hO.read.cell (j := 1) (by rw [F7.out]; decide)
  rw [hA] at hA'
  injection hA' with hA'
  injection hA' with e1 e2
  subst e1 e2
  have hcc := hO.lies.cap
  have g0 : l[0]'(by rw [F7.out]; decide) = 2 := by simp [F8.out]
  have g1 : l[1]'(by rw [F7.out]; decide) = 3 := by simp [F8.out]
  rw [g0] at hc0
  rw [g1] at hc1
  clear hO hb1 g0 g1
  rw [F1.out]
  subst hA
  go_wp2_with fail
  refine (HW.out.decode (some ⟨bb, bo, none⟩) c 11 l w1 HO.out.lies (by omega)).mono ?_
  rintro e w2 ⟨r, rfl, hat, hb2, _⟩
  rw [F9.out, F10.out, F2.out]
  clear hat
  have c0 : w2.cell? ⟨bb, bo, none⟩ = some (.int .u8 2) := (hb2.cell (p := ⟨bb, bo, none⟩) hbl).trans hc0
  have c1 : w2.cell? ⟨bb, bo + 1, none⟩ = some (.int .u8 3) := (hb2.cell (p := ⟨bb, bo + 1, none⟩) hbl).trans hc1
  clear hc0 hc1
  have HB2 := Lib.hid (HB1.out.trans (hb2.mono HB1.out.size))
  have hbl2 : bb < w2.heap.size := Nat.lt_of_lt_of_le hbl hb2.size
  clear hb2 HB1 hbl
  go_wp2_with fail
  go_ret
  exact ⟨rfl, HB2.out.trans ((below_new w2 _).mono HB2.out.size)⟩

end Go.Proofs.Ytjpnihmijnpjcaa
