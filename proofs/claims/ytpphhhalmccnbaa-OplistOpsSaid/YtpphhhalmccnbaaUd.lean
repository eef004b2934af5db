/-
  The document's Sane, and an entry more.
-/
import Derived.Test.YtpphhhalmccnbaaUc
namespace Go.Proofs.Ytpphhhalmccnbaa
set_option maxRecDepth 100000
set_option linter.unusedVariables false
set_option linter.unusedSimpArgs false
open Go.RowKit

abbrev liC (A : Option Addr) (n a : Nat) : Array Value := #[.slice A n a]
abbrev liV (A : Option Addr) (n a : Nat) : Value := .agg (liC A n a)
theorem saneE_none {l : List En} (h : openO l = none) : saneE l = false := by unfold saneE; rw [h]
theorem saneE_not {l : List En} {i : Nat} {e : En} (h : l[i]? = some e) (hm : e.may = false) : saneE l = false := by
  cases hs : saneE l with
  | false => rfl
  | true =>
    obtain ⟨P, hp⟩ := saneE_iff.mp hs
    have := hp.may e (List.mem_of_getElem? h)
    rw [hm] at this; cases this
theorem saneE_some {l : List En} {P : List Pe} (h : openO l = some P) (hm : ∀ e ∈ l, e.may = true) : saneE l = decide (l.length + P.length ≤ 256) := by
  unfold saneE; rw [h]
  have : l.all En.may = true := by rw [List.all_eq_true]; exact hm
  rw [this]; exact Bool.true_and _
theorem all_take {l : List En} {i : Nat} {e : En} (h : ∀ x ∈ l.take i, x.may = true) (he : l[i]? = some e) (hm : e.may = true) : ∀ x ∈ l.take (i + 1), x.may = true := by
  intro x hx
  rw [List.take_add_one, he, Option.toList_some] at hx
  rcases List.mem_append.mp hx with hx | hx
  · exact h x hx
  · simp at hx; rw [hx]; exact hm
theorem isO_getD {n k : Nat} {P : List Pe} (hk : k < n) : (isO n P).getD k false = decide (k ∈ plO P) := by rw [List.getD_eq_getElem?_getD, isO_get hk]; rfl
theorem upto_len_succ {l : List En} {P : List Pe} {i : Nat} {e : En} (h : Fit l P) (hi : l[i]? = some e) : (uptoO P (i + 1)).length = (uptoO P i).length + (if i ∈ plO P then 1 else 0) := by
  rw [uptoO_succ h hi, List.length_append]; split <;> rfl
theorem upto_le {P : List Pe} {i : Nat} : (uptoO P i).length ≤ P.length := List.length_filter_le ..

set_option maxHeartbeats 4000000 in
theorem refsane_any (A : Option Addr) (n a : Nat) (l : List En) (hn : n ≤ 1000) (w : World) (hl : EsAt REr w A n l) :
    Calls Try.prog 15 #[liV A n a] w fun r w' => r = .returned (.bool (saneE l)) ∧ Below w.heap.size w w' := by
  have HL := Lib.hid hl
  have HX := Lib.hid (Bk.new w (liC A n a) 24)
  have HB := Lib.hid (below_new w (.cells (liC A n a) 24))
  have hu := fun V hV => refundone_any A n a l hn V (HL.out.below hV)
  have ho := fun V hV => refopen_any A n a l hn V (HL.out.below hV)
  have x0 := HX.out.c 0 _ rfl
  clear hl
  go_enter Try.func15, Try.ntmps15
  go_wp2_with fail
  refine (hu _ HB.out).mono ?_
  rintro r w1 ⟨hb1, hr⟩
  have HX1 := Lib.hid (HX.out.below hb1)
  have HB1 := Lib.hid (HB.out.trans (hb1.mono HB.out.size))
  clear hu x0 hb1
  have x0 := HX1.out.c 0 _ rfl
  rcases hr with ⟨hno, rfl⟩ | ⟨P, g1, hP, rfl, hgo⟩
  · have HN := Lib.hid (saneE_none hno)
    clear hno
    go_wp2_with fail
    go_ret
    exact ⟨by rw [HN.out]; rfl, HB1.out⟩
  · have HP := Lib.hid hP
    clear hP hgo
    go_wp2_with fail
    refine (ho _ HB1.out).mono ?_
    rintro r w2 ⟨hb2, g, rfl, hgo⟩
    have HX2 := Lib.hid (HX1.out.below hb2)
    have HB2 := Lib.hid (HB1.out.trans (hb2.mono HB1.out.size))
    rw [opO_some HP.out] at hgo
    have HO := Lib.hid hgo
    clear ho x0 hb2 hgo
    have x0 := HX2.out.c 0 _ rfl
    go_wp2_with fail
    clear x0
    go_loopw [6, 7] (fun v u wr => ∃ i : Nat, v = .int .i64 ((n + (uptoO P i).length : Nat) : Int) ∧ u = .int .i64 (i : Int) ∧ i ≤ n ∧ Hid (∀ x ∈ l.take i, x.may = true) ∧ Hid (RL.Own wr w1.heap.size (.slice (some ⟨g, 0, none⟩) n n) (isO n P)) ∧ Hid (Bk wr w.heap.size (liC A n a) 24) ∧ Hid (Below w.heap.size w wr)) (fun _ u _ => n - (intOf u).toNat)
    case atStart => exact ⟨0, by rw [uptoO_zero]; rfl, rfl, Nat.zero_le _, Lib.hid (by simp), HO, HX2, HB2⟩
    case round =>
      obtain ⟨i, rfl, rfl, hi, HMi, HOi, HXi, HBi⟩ := hrel
      have x0 := HXi.out.c 0 _ rfl
      have HPL : (uptoO P i).length ≤ 1000 := by have h1 := upto_le (P := P) (i := i); have h2 := (open_fit HP.out).len; have h3 := HL.out.len; omega
      rcases Nat.lt_or_ge i n with hlt | hge
      · obtain ⟨b2, o, hA, hbl, hok, hget, h0, h1, h2, h3⟩ := HL.out.er hlt
        subst hA
        have c0 := (HBi.out.cell (p := ⟨b2, o + i * 4, none⟩) hbl).trans h0
        have c1 := (HBi.out.cell (p := ⟨b2, o + i * 4 + 1, none⟩) hbl).trans h1
        have c2 := (HBi.out.cell (p := ⟨b2, o + i * 4 + 2, none⟩) hbl).trans h2
        have c3 := (HBi.out.cell (p := ⟨b2, o + i * 4 + 3, none⟩) hbl).trans h3
        have HG := Lib.hid hget
        have HUP := Lib.hid (upto_len_succ (open_fit HP.out) hget)
        have hone := fun V => refone_any (l.getD i enD) V
        generalize l.getD i enD = e at *
        obtain ⟨t, c, b, u⟩ := e
        simp only at c0 c1 c2 c3 hone
        have hd4 : decide ((i : Int) < (n : Int)) = true := decide_eq_true (by omega)
        have hd5 : decide (i < n) = true := decide_eq_true hlt
        have hi1 : (i : Int) < (n : Int) := by omega
        clear h0 h1 h2 h3 hbl hok hget
        go_wp2_with fail
        refine (hone _).mono ?_
        rintro r w4 ⟨rfl, hb4⟩
        have HX4 := Lib.hid (HXi.out.below hb4)
        have HB4 := Lib.hid (HBi.out.trans (hb4.mono HBi.out.size))
        have HO4 := Lib.hid (HOi.out.below hb4)
        clear hone x0 c0 c1 c2 c3 hb4
        cases hm : (En.mk t c b u).may with
        | false =>
          have HN := Lib.hid (saneE_not HG.out hm)
          clear hm
          go_wp2_with fail
          go_ret
          exact ⟨by rw [HN.out]; rfl, HB4.out⟩
        | true =>
          have HM2 := Lib.hid (all_take HMi.out HG.out hm)
          have g0 := own_bool HO4.out (i := i) (by rw [isO_len]; exact hlt)
          rw [isO_getD hlt] at g0
          clear hm
          by_cases hp : i ∈ plO P
          · rw [decide_eq_true hp] at g0
            rw [if_pos hp] at HUP
            have hw : IntKind.i64.wrap (((n + (uptoO P i).length : Nat) : Int) + 1) = ((n + (uptoO P (i + 1)).length : Nat) : Int) := by rw [IntKind.wrap_i64, HUP.out]; omega
            clear hp
            go_wp2_with fail
            exact ⟨⟨i + 1, by rw [HUP.out]; congr 1, rfl, hlt, HM2, HO4, HX4, HB4⟩, by simp [intOf] <;> omega⟩
          · rw [decide_eq_false hp] at g0
            rw [if_neg hp] at HUP
            clear hp
            go_wp2_with fail
            exact ⟨⟨i + 1, by rw [HUP.out]; rfl, rfl, hlt, HM2, HO4, HX4, HB4⟩, by simp [intOf] <;> omega⟩
      · obtain rfl : i = n := by omega
        have hd4 : decide ((i : Int) < (i : Int)) = false := decide_eq_false (by omega)
        have hd5 : decide (i < i) = false := decide_eq_false (by omega)
        have HS := Lib.hid (show saneE l = decide (((i + (uptoO P i).length : Nat) : Int) ≤ 256) from by
          have h1 := HL.out.len
          rw [saneE_some HP.out (by have h := HMi.out; rwa [List.take_of_length_le (by omega)] at h), h1]
          have h2 := uptoO_all (open_fit HP.out)
          rw [h1] at h2
          rw [h2]; rw [Bool.eq_iff_iff, decide_eq_true_eq, decide_eq_true_eq]; omega)
        go_wp2_with fail
        go_ret
        refine ⟨?_, HBi.out⟩
        rw [HS.out]; rfl
end Go.Proofs.Ytpphhhalmccnbaa
