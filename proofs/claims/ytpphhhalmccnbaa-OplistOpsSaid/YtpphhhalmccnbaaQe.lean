/-
  opened: the open ones of those that a function value picks; Sane.
-/
import Derived.Test.YtpphhhalmccnbaaQd
namespace Go.Proofs.Ytpphhhalmccnbaa
set_option maxRecDepth 100000
set_option linter.unusedVariables false
set_option linter.unusedSimpArgs false
open Go.RowKit

/-- a function value that picks: it answers sel of each transaction, in each world that keeps what lay in w0 -/
structure Px (w0 : World) (pf : FuncId) (g : Nat) (sel : Int → Bool) : Prop where
  eg : ∀ args w, (callFunc pf args).run Try.prog w = .ok (.enter pf args) w
  calls : ∀ V, Below w0.heap.size w0 V → ∀ t : Int, okI t → Calls Try.prog pf #[.int .i64 t, .pointer (some ⟨g, 0, none⟩)] V fun e w' => e = .returned (.bool (sel t)) ∧ Below V.heap.size V w'

theorem Sd.all {l : List En} {n : Nat} {P : List Pe} {ev : Bool} (h : Sd l n P ev) (hn : l.length = n) {Q : List Pe} (hQ : openO l = some Q) : P = Q := by
  subst hn
  cases ev with
  | true => have := h.yes rfl; rw [List.take_length, hQ] at this; simpa using this.symm
  | false => have := h.no rfl; rw [List.take_length, hQ] at this; cases this
theorem Sd.sane {l : List En} {n : Nat} {P : List Pe} {ev : Bool} (h : Sd l n P ev) (hn : l.length = n) (hm : ∀ e ∈ l, e.may = true) : saneE l = (ev && decide (n + P.length ≤ 256)) := by
  subst hn
  cases ev with
  | true => have := h.yes rfl; rw [List.take_length] at this; rw [saneE_some this hm]; rfl
  | false => have := h.no rfl; rw [List.take_length] at this; rw [saneE_none this]; rfl
theorem pickO_le {sel : En → Bool} {P : List Pe} : (pickO sel P).length ≤ P.length := by unfold pickO; rw [List.length_map]; exact List.length_filter_le ..
theorem eo_at (w : World) (e : En) : REo.At (w.alloc (.cells (etC e) 62)) (some ⟨w.heap.size, 0, none⟩) [e] := Rk.At.new re_oko w e 62

set_option maxHeartbeats 4000000 in
theorem opened_any (pf : FuncId) (gp : Nat) (sel : Int → Bool) (A : Option Addr) (n a : Nat) (l : List En) (P : List Pe) (hP : openO l = some P) (hn : n ≤ 1000) (w : World) (hl : EsAt REo w A n l) (hp : Px w pf gp sel) :
    Calls Try.prog 37 #[liV A n a, .func (.func pf) #[] #[.pointer (some ⟨gp, 0, none⟩)]] w fun r w' => ∃ v, r = .returned v ∧ REo.Own w' (w.heap.size + 1) v (pickO (fun e => sel e.t) P) ∧ Below w.heap.size w w' ∧ w.heap.size + 1 ≤ w'.heap.size := by
  have HL := Lib.hid hl
  have HP := Lib.hid hP
  have eg := hp.eg
  have HPX := Lib.hid hp.calls
  have HX := Lib.hid (Bk.new w (liC A n a) 32)
  have HB := Lib.hid (below_new w (.cells (liC A n a) 32))
  have HS := Lib.hid (show w.heap.size + 1 ≤ (w.alloc (.cells (liC A n a) 32)).heap.size from by simp)
  have ho := fun V hV => settle_any A n a l hn V (HL.out.below hV)
  have HPL := Lib.hid (show P.length ≤ 1000 from by have := (open_fit hP).len; have := hl.len; omega)
  clear hl hP hp
  have x0 := HX.out.c 0 _ rfl
  go_enter Try.func37, Try.ntmps37
  go_wp2_with fail
  refine (ho _ HB.out).mono ?_
  rintro r w2 ⟨hb2, P2, ev, g, rfl, hsd, hgo⟩
  have hPe := hsd.all HL.out.len HP.out
  subst hPe
  have HX2 := Lib.hid (HX.out.below hb2)
  have HB2 := Lib.hid (HB.out.trans (hb2.mono HB.out.size))
  have HS2 := Lib.hid (Nat.le_trans HS.out hb2.size)
  have HO := Lib.hid (hgo.le (Nat.le_trans HS.out (Nat.le_succ _)))
  have HGL := Lib.hid (show w.heap.size + 1 ≤ g ∧ g < w2.heap.size from ⟨Nat.le_trans HS.out (Nat.le_trans (Nat.le_succ _) (hgo.lt g rfl).1), (hgo.lt g rfl).2⟩)
  clear ho x0 hb2 hgo hsd
  have x0 := HX2.out.c 0 _ rfl
  go_wp2_with fail
  clear x0
  go_loopw [5, 18] (fun v u wr => ∃ i : Nat, u = .int .i64 (i : Int) ∧ i ≤ n ∧ Hid (REo.Own wr w2.heap.size v (pickO (fun e => sel e.t) (uptoO P2 i))) ∧ Hid (RL.Own wr (w.heap.size + 1) (.slice (some ⟨g, 0, none⟩) n n) (isO n P2)) ∧ Hid (Below w.heap.size w wr) ∧ Hid (w2.heap.size ≤ wr.heap.size)) (fun _ u _ => n - (intOf u).toNat)
  case atStart => exact ⟨0, rfl, Nat.zero_le _, by rw [uptoO_zero]; exact Rk.Own.nil _ _ _, HO, HB2, Lib.hid (Nat.le_refl _)⟩
  case round =>
    obtain ⟨i, rfl, hi, HVi, HOi, HBi, HSi⟩ := hrel
    rcases Nat.lt_or_ge i n with hlt | hge
    · obtain ⟨b2, o, hA, hbl, hok, hget, h0, h1, h2, h3⟩ := HL.out.eo hlt
      subst hA
      have c0 := (HBi.out.cell (p := ⟨b2, o + i * 4, none⟩) hbl).trans h0
      have c1 := (HBi.out.cell (p := ⟨b2, o + i * 4 + 1, none⟩) hbl).trans h1
      have c2 := (HBi.out.cell (p := ⟨b2, o + i * 4 + 2, none⟩) hbl).trans h2
      have c3 := (HBi.out.cell (p := ⟨b2, o + i * 4 + 3, none⟩) hbl).trans h3
      have HUP := Lib.hid (pickO_succ (fun e => sel e.t) (open_fit HP.out) hget)
      have HLN := Lib.hid (show (pickO (fun e => sel e.t) (uptoO P2 i)).length ≤ 1000 from by have h1 := pickO_le (sel := fun e => sel e.t) (P := uptoO P2 i); have h2 := upto_le (P := P2) (i := i); have := HPL.out; omega)
      have HOKT := Lib.hid hok.t
      generalize pickO (fun e => sel e.t) (uptoO P2 i) = acc at *
      generalize l.getD i enD = e at *
      obtain ⟨t2, c, b, u⟩ := e
      simp only at c0 c1 c2 c3 HUP HOKT
      have hd4 : decide ((i : Int) < (n : Int)) = true := decide_eq_true (by omega)
      have hd5 : decide (i < n) = true := decide_eq_true hlt
      have hi1 : (i : Int) < (n : Int) := by omega
      have hbw := below_new wr (.cells (etC ⟨t2, c, b, u⟩) 62)
      have HKk := Lib.hid (Bk.new wr (etC ⟨t2, c, b, u⟩) 62)
      have HVk := Lib.hid (HVi.out.below hbw)
      have HOk := Lib.hid (HOi.out.below hbw)
      have HBk := Lib.hid (HBi.out.trans (hbw.mono HBi.out.size))
      have HSk := Lib.hid (Nat.le_trans HSi.out hbw.size)
      have HGK := Lib.hid HSi.out
      have HVL := Lib.hid (fun k (e : u5.ownBlock = some k) => HVi.out.lt k e)
      clear h0 h1 h2 h3 hbl hok hget hbw
      go_upto_region 6 with fail
      clear c0 c1 c2 c3 HVi HOi HBi HSi
      generalize wr.heap.size = gk at *
      generalize wr.alloc (.cells #[.int .i64 t2, .int .i64 c, .int .i64 b, .bool u] 62) = wk at *
      have g0 := own_bool HOk.out (i := i) (by rw [isO_len]; exact hlt)
      rw [isO_getD hlt] at g0
      have k0 : wk.cell? ⟨gk, 0, none⟩ = some (.int .i64 t2) := HKk.out.c 0 _ rfl
      by_cases hp : i ∈ plO P2
      · rw [decide_eq_true hp] at g0
        rw [decide_eq_true hp, Bool.true_and] at HUP
        clear hp
        go_wp2_with fail
        refine (HPX.out _ HBk.out t2 HOKT.out).mono ?_
        rintro r w4 ⟨rfl, hb⟩
        have HK4 := Lib.hid (HKk.out.below hb)
        have HV4 := Lib.hid (HVk.out.below hb)
        have HO4 := Lib.hid (HOk.out.below hb)
        have HB4 := Lib.hid (HBk.out.trans (hb.mono HBk.out.size))
        have HS4 := Lib.hid (Nat.le_trans HSk.out hb.size)
        clear hb g0 k0
        cases hs : sel t2 with
        | true =>
          rw [hs] at HUP
          have k0 : w4.cell? ⟨gk, 0, none⟩ = some (.int .i64 t2) := HK4.out.c 0 _ rfl
          have k1 : w4.cell? ⟨gk, 1, none⟩ = some (.int .i64 c) := HK4.out.c 1 _ rfl
          have k2 : w4.cell? ⟨gk, 2, none⟩ = some (.int .i64 b) := HK4.out.c 2 _ rfl
          have k3 : w4.cell? ⟨gk, 3, none⟩ = some (.bool u) := HK4.out.c 3 _ rfl
          clear hs
          go_wp2_with (first
            | (at_builtin; refine Rk.wpList_append re_oko rfl (.tmp 33) (.tmp 35) rfl w2.heap.size u5 acc [⟨t2, c, b, u⟩] rfl (HV4.out.below (below_new w4 (.cells (etC ⟨t2, c, b, u⟩) 62))) _ 1 1 rfl (eo_at w4 ⟨t2, c, b, u⟩) rfl (.inr ⟨_, _, rfl⟩) (by have := HLN.out; rw [List.length_singleton]; omega) (Nat.le_trans HS4.out (below_new w4 _).size) ?_; intro v7 w7 hx7 hg7 ha7; have HO7 := Lib.hid hx7; have HG7 := Lib.hid hg7; clear hx7 hg7 ha7)
            | fail)
          have T7 : Turn (fun q => u5.ownBlock = some q) w4 w7 := ((Turn.refl (fun q => u5.ownBlock = some q) w4).alloc (.cells (etC ⟨t2, c, b, u⟩) 62)).grown HG7.out (fun q e => .inl e)
          exact ⟨⟨i + 1, rfl, hlt, by rw [HUP.out]; exact HO7, Lib.hid (HO4.out.turn T7 (fun k e h => by injection e with e; have e : g = k := e; have := (HVL.out k h).1; have := HGL.out.2; omega)), Lib.hid (HB4.out.trans (T7.below (fun k h => by have := (HVL.out k h).1; have := HS2.out; omega) HB4.out.size)), Lib.hid (Nat.le_trans HS4.out T7.size)⟩, by simp [intOf] <;> omega⟩
        | false =>
          rw [hs] at HUP
          clear hs
          go_wp2_with fail
          exact ⟨⟨i + 1, rfl, hlt, by rw [HUP.out]; simpa using HV4, HO4, HB4, HS4⟩, by simp [intOf] <;> omega⟩
      · rw [decide_eq_false hp] at g0
        rw [decide_eq_false hp, Bool.false_and] at HUP
        clear hp
        go_wp2_with fail
        exact ⟨⟨i + 1, rfl, hlt, by rw [HUP.out]; simpa using HVk, HOk, HBk, HSk⟩, by simp [intOf] <;> omega⟩
    · obtain rfl : i = n := by omega
      have hd4 : decide ((i : Int) < (i : Int)) = false := decide_eq_false (by omega)
      have hd5 : decide (i < i) = false := decide_eq_false (by omega)
      go_wp2_with fail
      go_ret
      refine ⟨u5, rfl, ?_, HBi.out, by have := HS2.out; have := HSi.out; omega⟩
      have hall := uptoO_all (open_fit HP.out)
      rw [HL.out.len] at hall
      have h := HVi.out.le HS2.out
      rw [hall] at h
      exact h
end Go.Proofs.Ytpphhhalmccnbaa
