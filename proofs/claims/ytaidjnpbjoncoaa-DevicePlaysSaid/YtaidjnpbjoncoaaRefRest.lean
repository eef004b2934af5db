/-
  The document's device: Flush, Crash, New.
-/
import Derived.Test.YtaidjnpbjoncoaaRefSettle
namespace Go.Proofs.Ytaidjnpbjoncoaa
open Go.RowKit

theorem IsRef.congr {w : World} {q a b c : Nat} {D E : Dv} (h : IsRef w q a b c D) (ok : E.Ok) (hn : E.n = D.n) (hl : E.left = D.left) (hg : E.gone = D.gone) (hs : E.spent = D.spent) (h1 : ∀ i, i < D.n → D.laid i = E.laid i) (h2 : ∀ i, i < D.n → D.late i = E.late i) : IsRef w q a b c E := by
  refine ⟨ok, h.ne, ?_, ?_, ?_⟩
  · rw [hn, hl, hg, hs]; exact h.own
  · rw [hn]; exact h.laid.eq h1
  · rw [hn]; exact h.late.eq fun i hi => by rw [h2 i hi]

set_option maxRecDepth 100000 in
set_option maxHeartbeats 1000000 in
theorem refflush_any {w : World} {q a b c : Nat} {D : Dv} (h : IsRef w q a b c D) (hf : D.spent ≤ 1000000) : Calls Try.prog 16 #[ptr q] w fun e w' => e = .returned (.int .i64 D.flushE) ∧ IsRef w' q a b c D.flush ∧ Turn (DS q a b) w w' := by
  have c3 := h.c3
  cases hgone : D.gone
  · rw [hgone] at c3
    have hgn : ¬ D.gone = true := by rw [hgone]; exact Bool.false_ne_true
    have hwe : D.flushE = if D.left = 0 then 11 else 0 := by unfold Dv.flushE; rw [if_neg hgn]
    have hw : D.flush = if D.left = 0 then D.die else D.more.settle := by unfold Dv.flush; rw [if_neg hgn]
    have hsp := refspend_any h hf
    by_cases hleft : D.left = 0
    · have hsd : D.spend = D.die := by unfold Dv.spend; rw [if_pos hleft]
      rw [if_pos hleft] at hwe hw
      rw [decide_eq_true hleft, hsd] at hsp
      rw [hwe, hw]
      have HSP := Lib.hid hsp
      clear h hgone hgn hleft hsd hwe hw hf hsp
      go_enter Try.func16, Try.ntmps16
      go_wp2_with (go_at_call 31; refine HSP.out.mono ?_; rintro e w1 ⟨rfl, hd1, ht1⟩; have HD1 := Lib.hid hd1; have HT1 := Lib.hid ht1; clear hd1 ht1)
      go_ret
      exact ⟨rfl, HD1.out, HT1.out.mono fun _ e => .inl e⟩
    · have hsd : D.spend = D.more := by unfold Dv.spend; rw [if_neg hleft]
      rw [if_neg hleft] at hwe hw
      rw [decide_eq_false hleft, hsd] at hsp
      rw [hwe, hw]
      have HSP := Lib.hid hsp
      clear h hgone hgn hleft hsd hwe hw hf hsp
      generalize D.more = E at HSP ⊢
      go_enter Try.func16, Try.ntmps16
      go_wp2_with (first
        | (go_at_call 31; refine HSP.out.mono ?_; rintro e w1 ⟨rfl, hd1, ht1⟩; have HD1 := Lib.hid hd1; have HT1 := Lib.hid ht1; clear hd1 ht1)
        | (go_at_call 32; refine (settle_any HD1.out 0 true (kn := 0) (f := fun _ => false) Bools.nil).mono ?_; rintro e w2 ⟨rfl, hd2, ht2⟩; have HD2 := Lib.hid hd2; have HT2 := Lib.hid ht2; clear hd2 ht2))
      go_ret
      refine ⟨rfl, HD2.out.congr HD1.out.ok.settle rfl rfl rfl rfl (fun i hi => ?_) (fun _ _ => rfl), (HT1.out.mono fun _ e => .inl e).trans HT2.out⟩
      show Dv.lay E.late E.laid (kpAll true 0 fun _ => false) E.keys E.keys.length i = (E.late i).getD (E.laid i)
      rw [show (kpAll true 0 fun _ => false) = fun _ => true from rfl]
      exact Dv.settle_lay E i hi
  · rw [hgone] at c3
    unfold Dv.flush Dv.flushE
    rw [if_pos hgone, if_pos hgone]
    have H := Lib.hid h
    clear h hgone
    go_enter Try.func16, Try.ntmps16
    go_wp2_with fail
    go_ret
    exact ⟨rfl, H.out, Turn.refl _ _⟩

set_option maxRecDepth 100000 in
set_option maxHeartbeats 1000000 in
theorem refcrash_any {w : World} {q a b c : Nat} {D : Dv} (h : IsRef w q a b c D) {A : Option Addr} {kn : Nat} (cc : Nat) {f : Nat → Bool} (hk : Bools (DS q a b) w A kn f) :
    Calls Try.prog 20 #[ptr q, .slice A kn cc] w fun e w' => e = .returned (.tuple #[]) ∧ IsRef w' q a b c (D.crash (kp kn f)) ∧ Turn (DS q a b) w w' := by
  have hst := Lib.hid (settle_any h cc false hk)
  have HOK := Lib.hid (h.ok.crash (kp kn f))
  clear h hk
  go_enter Try.func20, Try.ntmps20
  go_wp2_with (go_at_call 32; refine hst.out.mono ?_; rintro e w2 ⟨rfl, hd2, ht2⟩; have e3 := hd2.c3; have e2 := hd2.c2; have f3 := hd2.fr 3; have f2 := hd2.fr 2; have HD2 := Lib.hid hd2; have HT2 := Lib.hid ht2; clear hd2 ht2)
  go_end0
  have hd := HD2.out
  refine ⟨rfl, ⟨HOK.out, hd.ne, heap_setCell_same _ _ _ _ _ _ (heap_setCell_same _ _ _ _ _ _ hd.own), ?_, ?_⟩, (HT2.out.setCell ⟨q, 3, none⟩ _ (.inl (.inl rfl))).setCell ⟨q, 2, none⟩ _ (.inl (.inl rfl))⟩
  · exact hd.laid.same ((heap_setCell_other _ _ _ _ (Ne.symm hd.ne.1)).trans (heap_setCell_other _ _ _ _ (Ne.symm hd.ne.1)))
  · exact hd.late.same ((heap_setCell_other _ _ _ _ (Ne.symm hd.ne.2.1)).trans (heap_setCell_other _ _ _ _ (Ne.symm hd.ne.2.1)))

end Go.Proofs.Ytaidjnpbjoncoaa
