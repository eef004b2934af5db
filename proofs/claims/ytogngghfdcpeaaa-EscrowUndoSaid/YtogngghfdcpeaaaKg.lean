/-
  Whether a transaction may ask for a counter.
-/
import Derived.Test.YtogngghfdcpeaaaKf
import Derived.Test.YtogngghfdcpeaaaLz
namespace Go.Proofs.Ytogngghfdcpeaaa
set_option maxRecDepth 100000
set_option linter.unusedVariables false
set_option linter.unusedSimpArgs false
open Go.RowKit

theorem TrAto.get {W : World} {A : Option Addr} {N : Nat} {T : Tr} (h : TrAto W A N T) {i : Nat} (hi : i < N) : ∃ b o, A = some ⟨b, o, none⟩ ∧ b < W.heap.size ∧ T.l[i]? = some (T.tx i) ∧
    W.cell? ⟨b, o + i * 4, none⟩ = some (.int .i64 (T.tx i).p) ∧ W.cell? ⟨b, o + i * 4 + 1, none⟩ = some (.int .i64 (T.tx i).s) ∧
    W.cell? ⟨b, o + i * 4 + 2, none⟩ = some (.int .i64 (T.tx i).b) ∧ W.cell? ⟨b, o + i * 4 + 3, none⟩ = some (.int .i64 (T.tx i).e) := by
  have hl : i < T.l.length := by rw [h.len]; exact hi
  have hx : T.l[i]? = some (T.tx i) := by unfold Tr.tx; rw [List.getD_eq_getElem?_getD, List.getElem?_eq_getElem hl]; rfl
  obtain ⟨b, o, e, hb, hc⟩ := h.at_.get rt_oko hx
  exact ⟨b, o, e, hb, hx, hc 0 _ rfl, hc 1 _ rfl, hc 2 _ rfl, hc 3 _ rfl⟩

set_option maxHeartbeats 1000000 in
theorem asked_any (A B : Option Addr) (n a m b : Nat) (t : Tb) (D : Option Addr) (N d : Nat) (c : Int) (T : Tr) (x k : Int) (hm : m ≤ 1000) (hmb : m ≤ b) (hsp : b = 0 ∨ Sp B) (w : World) (ht : TbAto w A n B m t) (hr : TrAto w D N T) :
    Calls Try.prog 28 #[tbV A n a B m b, trV D N d c, .int .i64 x, .int .i64 k] w fun e w' => e = .returned (.int .i64 (t.may T x k)) ∧ Below w.heap.size w w' := by
  have HT := Lib.hid ht
  have HR := Lib.hid hr
  have HX := Lib.hid ((Bk.new w (tbC A n a B m b) 34).al (.cells (trC D N d c) 38))
  have HY := Bk.new (w.alloc (.cells (tbC A n a B m b) 34)) (trC D N d c) 38
  rw [size_al] at HY
  have HY := Lib.hid HY
  have HB := Lib.hid (below_two (below_new w (.cells (tbC A n a B m b) 34)) (below_new _ (.cells (trC D N d c) 38)))
  have hs := fun V hV => psane_any A B n a m b t hm hmb hsp V (HT.out.below hV)
  have HNM := Lib.hid (fun h => may_name (T := T) (x := x) (k := k) ht.cl hr.len h)
  have HST := Lib.hid (fun h1 h2 h3 h4 h5 h6 => may_state (t := t) (T := T) (x := x) (k := k) ht.cl hr.len h1 h2 h3 h4 h5 h6)
  have ha := fun V => among_any k (n : Int) V
  have hb2 := fun V => among_any x (min (N : Int) 64) V
  clear ht hr hsp
  generalize t.may T x k = res at *
  obtain ⟨r1, e1⟩ : ∃ q, amB k (n : Int) = q := ⟨_, rfl⟩
  obtain ⟨r2, e2⟩ : ∃ q, amB x (min (N : Int) 64) = q := ⟨_, rfl⟩
  rw [e1] at ha
  rw [e2] at hb2
  have E1 := Lib.hid e1
  have E2 := Lib.hid e2
  have HA := Lib.hid ha
  have HB2 := Lib.hid hb2
  clear e1 e2 ha hb2
  go_enter Try.func28, Try.ntmps28
  go_wp2_with fail
  refine (hs _ HB.out).mono ?_
  rintro e w1 ⟨rfl, hb⟩
  replace HX := Lib.hid (HX.out.below hb)
  replace HY := Lib.hid (HY.out.below hb)
  replace HB := Lib.hid (HB.out.trans (hb.mono HB.out.size))
  clear hb hs
  have x0 := HX.out.t0
  have y0 := HY.out.r_0
  cases hsn : t.sane with
  | false =>
    have HNO := Lib.hid (HNM.out (.inl hsn))
    clear hsn
    go_wp2_with fail
    go_ret
    exact ⟨by rw [HNO.out]; rfl, HB.out⟩
  | true =>
    have HSN := Lib.hid hsn
    clear hsn
    go_wp2_with fail
    refine (HA.out _).mono ?_
    rintro e w2 ⟨rfl, hv⟩
    replace HX := Lib.hid (HX.out.below hv)
    replace HY := Lib.hid (HY.out.below hv)
    replace HB := Lib.hid (HB.out.trans (hv.mono HB.out.size))
    clear hv x0 y0
    have y0 := HY.out.r_0
    cases r1
    · have HNO := Lib.hid (HNM.out (by have := amB_no E1.out; omega))
      go_wp2_with fail
      go_ret
      exact ⟨by rw [HNO.out]; rfl, HB.out⟩
    go_wp2_with fail
    refine (HB2.out _).mono ?_
    rintro e w3 ⟨rfl, hv⟩
    replace HX := Lib.hid (HX.out.below hv)
    replace HY := Lib.hid (HY.out.below hv)
    replace HB := Lib.hid (HB.out.trans (hv.mono HB.out.size))
    clear hv y0
    have y0 := HY.out.r_0
    cases r2
    · have HNO := Lib.hid (HNM.out (by have := amB_no E2.out; omega))
      go_wp2_with fail
      go_ret
      exact ⟨by rw [HNO.out]; rfl, HB.out⟩
    have hx := amB_yes E2.out
    have hk := amB_yes E1.out
    obtain ⟨y, rfl⟩ : ∃ y : Nat, x = y := ⟨x.toNat, by omega⟩
    have hy : y < N := by omega
    have HRS := Lib.hid (HST.out HSN.out (by omega) (by omega) (by omega) (by omega) (by omega))
    have hi1 : (y : Int) < (N : Int) := by omega
    obtain ⟨b2, o2, hA, hbl, hget, h0, h1, h2, h3⟩ := HR.out.get hy
    subst hA
    rw [Int.toNat_natCast] at HRS
    have c1 := (HB.out.cell (p := ⟨b2, o2 + y * 4 + 1, none⟩) hbl).trans h1
    generalize (T.tx y).s = st at *
    clear h0 h1 h2 h3 hbl hget HNM HST hx hk
    rcases Classical.em (st = 1) with h | h
    · have q1 : (st == 1) = true := by simpa using h
      have q2 : (st != 1) = false := by simp [h]
      have HF := Lib.hid (show res = 0 from by rw [HRS.out, if_neg (fun e => e h)])
      clear h
      go_wp2_with fail
      go_ret
      exact ⟨by rw [HF.out]; rfl, HB.out⟩
    · have q1 : (st == 1) = false := by simpa using h
      have q2 : (st != 1) = true := by simpa using h
      have HF := Lib.hid (show res = 7 from by rw [HRS.out, if_pos h])
      clear h
      go_wp2_with fail
      go_ret
      exact ⟨by rw [HF.out]; rfl, HB.out⟩
end Go.Proofs.Ytogngghfdcpeaaa
