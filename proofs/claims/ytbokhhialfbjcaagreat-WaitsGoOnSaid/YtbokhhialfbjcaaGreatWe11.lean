/-
  Rows keep where the world's block is stored to; an abort.
-/
import Derived.Test.YtbokhhialfbjcaaGreatWs11
namespace Go.Proofs.YtbokhhialfbjcaaGreat
set_option maxRecDepth 100000
set_option linter.unusedVariables false
set_option linter.unusedSimpArgs false
open Go.RowKit Go.Shelf Go.Sort

section
variable {W V : World} {p : Nat} {A : Option Addr} {n k : Nat} {c : Int} {T : Tr} {B : Option Addr} {m kb : Nat} {L : List Lk} {C : Option Addr} {nq kq : Nat} {Q : List Wn}
theorem turn_p (hg : W.grownBy V (some p)) : Turn (fun j => j = p) W V := (Turn.refl _ W).grown hg (fun j e => by injection e with e; exact .inl e.symm)
theorem Wc.cell {j : Nat} (hb : Wc W p A n k c B m kb C nq kq) : W.cell? ⟨p, j, none⟩ = (#[.slice A n k, .int .i64 c, .slice B m kb, .slice C nq kq] : Array Value)[j]? := cell_of_row _ _ _ _ _ _ hb
theorem tx_wc {X : Option Addr} {l : List Tx} (h : TxAt W X l) (hb : Wc W p A n k c B m kb C nq kq) (hg : W.grownBy V (some p)) : TxAt V X l :=
  h.turn (turn_p hg) (fun b o e => (h.off (hb.c 0 _ rfl) b o e).imp id fun h h2 => h h2)
theorem lk_wc {X : Option Addr} {l : List Lk} (h : LkAt W X l) (hb : Wc W p A n k c B m kb C nq kq) (hg : W.grownBy V (some p)) : LkAt V X l :=
  h.box0 (hb.c 0 _ rfl) (fun o y h0 hc => by
    have h3 := hc.c3
    rw [hb.cell] at h3
    have h2 := (Array.getElem?_eq_some_iff.1 h3).1
    simp at h2
    omega) hg
theorem rw_off {X : Option Addr} {l : List Wn} (h : RW.At W X l) (hb : Wc W p A n k c B m kb C nq kq) : ∀ b o, X = some ⟨b, o, none⟩ → l = [] ∨ ¬ b = p := by
  intro b o e
  cases l with
  | nil => exact .inl rfl
  | cons y r =>
    refine .inr fun hbp => ?_
    obtain ⟨b', o', e', _, hc⟩ := h.get rw_ok (i := 0) (x := y) rfl
    rw [e] at e'
    injection e' with e'
    injection e' with e1 e2
    subst e1; subst e2
    have hbp : b = p := hbp
    subst hbp
    have c0 := hc 0 _ rfl
    have c1 := hc 1 _ rfl
    have c2 := hc 2 _ rfl
    rw [hb.cell] at c0 c1 c2
    have h2 := (Array.getElem?_eq_some_iff.1 c2).1
    simp at h2
    have ho : o = 0 ∨ o = 1 := by omega
    rcases ho with rfl | rfl
    · simp [RW] at c0
    · simp [RW] at c1
theorem rw_turn {X : Option Addr} {l : List Wn} (h : RW.At W X l) (hb : Wc W p A n k c B m kb C nq kq) (ht : Turn (fun q => q = p) W V) : RW.At V X l :=
  h.turn ht (rw_off h hb)
theorem rw_wc {X : Option Addr} {l : List Wn} (h : RW.At W X l) (hb : Wc W p A n k c B m kb C nq kq) (hg : W.grownBy V (some p)) : RW.At V X l :=
  rw_turn h hb (turn_p hg)
theorem id_wc {X : Option Addr} {l : List Nat} (h : IdAt W X l) (hb : Wc W p A n k c B m kb C nq kq) (hg : W.grownBy V (some p)) : IdAt V X l := by
  cases l with
  | nil =>
    rcases h with ⟨h1, h2⟩ | ⟨b, e, hlt, hc⟩
    · exact .inl ⟨h1, h2⟩
    · exact .inr ⟨b, e, Nat.lt_of_lt_of_le hlt hg.size, fun j x hx => by simp at hx⟩
  | cons y r =>
    refine h.turn (turn_p hg) (fun b o e hbp => ?_)
    obtain ⟨b', e', _, hc⟩ := h.get2 (j := 0) (x := y) rfl
    rw [e] at e'
    injection e' with e'
    injection e' with e1 e2
    have hbp : b = p := hbp
    rw [← e1, hbp, hb.cell] at hc
    simp at hc
end

set_option maxHeartbeats 4000000 in
theorem end_any (p : Nat) (A : Option Addr) (n k : Nat) (c : Int) (T : Tr) (B : Option Addr) (m kb : Nat) (L : List Lk) (C : Option Addr) (nq kq : Nat) (Q : List Wn) (z : Int) (hcb : c ≤ 900) (hap : Apt T L) (hsq : SQ Q) (w : World) (hw : Wp w p A n k c T B m kb L C nq kq Q) :
    Calls Tryz.prog 12 #[.pointer (some ⟨p, 0, none⟩), .int .i64 z] w fun e w' => e = .returned (.tuple #[]) ∧ Turn (fun q => q = p) w w' ∧
      ((∃ i : Nat, z = i ∧ i < n ∧ (T.tx i).s = 1 ∧ ∃ (A' : Option Addr) (k' : Nat) (B' : Option Addr) (m' kb' : Nat) (C' : Option Addr) (nq' kq' : Nat), Wp w' p A' n k' (c + 1) (T.undone i) B' m' kb' (freeL L (inL (T.gone i n))) C' nq' kq' (dropL Q (T.gone i n))) ∨
        ((∀ i : Nat, z = i → i < n → (T.tx i).s ≠ 1) ∧ Wp w' p A n k c T B m kb L C nq kq Q)) := by
  have HW := Lib.hid hw
  have HAP := Lib.hid hap
  have HSQ := Lib.hid hsq
  have c0 := hw.c0
  have c1 := hw.c1
  have HAB := Lib.hid (abort_any A T n k c z hw.hn hap.good hw.hc hcb w hw.x)
  have HPW := Lib.hid hw.b.lt
  clear hw hap hsq
  go_enter Tryz.func12, Tryz.ntmps12
  go_wp2_with fail
  refine HAB.out.mono ?_
  rintro e w2 ⟨hb2, ⟨i, hzi, hil, his, A2, k2, nn, Bi, kbi, mi, hnn, hmi, rfl, htx, hid2⟩ | ⟨E, hE, hno, rfl⟩⟩
  · subst hzi
    have hn := HW.out.hn
    rw [hn] at hil hnn hmi hid2
    have HID := Lib.hid hid2
    have HIL := Lib.hid hil
    have HIS := Lib.hid his
    have HTX := Lib.hid htx
    have HMI := Lib.hid hmi
    subst hnn
    obtain ⟨ids, hids⟩ : ∃ ids, ids = T.gone i nn := ⟨_, rfl⟩
    rw [← hids] at HID HMI
    have HIDS := Lib.hid hids
    have HIM := Lib.hid (show ∀ y ∈ ids, y ≤ 63 from fun y hy => by
      rw [hids] at hy
      unfold Tr.gone at hy
      have h1 := (kin_mem (List.mem_filter.1 hy).1).1
      have h2 := HAP.out.good.n
      omega)
    have HLN := Lib.hid (show ids.length ≤ 64 by rw [hids]; have h1 := gone_len T i nn; have h2 := HAP.out.good.n; omega)
    have hc2 : (T.undone i).c = c + 1 := by rw [← HW.out.hc]; rfl
    rw [hc2]
    have HC2 := Lib.hid hc2
    have HN2 := Lib.hid (show (T.undone i).l.length = nn by rw [← hn]; exact len_turned)
    have HB2 := Lib.hid hb2
    have HWB2 := Lib.hid ((HW.out.b.below hb2).below (below_new w2 (.cells #[.slice none 0 0, .int .i64 0] 31)))
    have HP2 := Lib.hid (HW.out.b.below hb2).lt
    clear hb2 hid2 hil his htx hmi hn hids hc2 c0 c1 HAB
    go_upto_region 3 with (first
      | (refine wpList_store_tree rfl (.tmp 4) (.tmp 14) rfl rfl rfl (TB.new w2 none 0 0 0) ?_; intro w3 hb3 hg3; have k0 := hb3.c0; have k1 := hb3.c1; have HG3 := Lib.hid hg3; have HWB3 := Lib.hid (HWB2.out.far hg3 (fun e => by injection e with e; have := HP2.out; omega)); clear hb3 hg3)
      | (refine wpList_store_wx rfl (.tmp 22) (.tmp 20) rfl rfl rfl HWB3.out ?_; intro w4 hb4 hg4; have HWB4 := Lib.hid hb4; have HG4 := Lib.hid hg4; clear hb4 hg4)
      | fail)
    have t3 : Below w2.heap.size w2 w3 := (below_new w2 _).grown HG3.out (by simp) (fun k e => by injection e with e; omega)
    have HX4 := Lib.hid (tx_wc (HTX.out.below t3) HWB3.out HG4.out)
    have HL4 := Lib.hid (lk_wc ((HW.out.l.below HB2.out).below t3) HWB3.out HG4.out)
    have HQ4 := Lib.hid (rw_wc ((HW.out.q.below HB2.out).below t3) HWB3.out HG4.out)
    have HI4 := Lib.hid (id_wc (HID.out.below t3) HWB3.out HG4.out)
    have HT4 := Lib.hid (((Turn.ofBelow (S := fun q => q = p) HB2.out).trans (Turn.ofBelow t3)).trans (turn_p HG4.out))
    have HFR := Lib.hid (free_any B L m kb HW.out.hm HW.out.s HAP.out.tab Bi ids mi kbi HMI.out.symm (by have h1 := HMI.out; have h2 := HLN.out; omega) HIM.out w4 HL4.out HI4.out)
    have f2 := HWB4.out.c 2 _ rfl
    clear t3 k0 k1 HG3 HG4 HWB2 HWB3
    go_upto_region 4 with (first
      | (go_at_call 29; refine HFR.out.mono ?_; rintro e w5 ⟨B5, m5, kb5, rfl, ho5, hb5⟩; have HO5 := Lib.hid ho5; have HB5 := Lib.hid hb5; have HWB5 := Lib.hid (HWB4.out.below hb5); clear ho5 hb5)
      | (refine wpList_store_wt rfl (.tmp 31) (.tmp 29) rfl rfl rfl HWB5.out ?_; intro w6 hb6 hg6; have HWB6 := Lib.hid hb6; have HG6 := Lib.hid hg6; clear hb6 hg6)
      | fail)
    have HX6 := Lib.hid (tx_wc (HX4.out.below HB5.out) HWB5.out HG6.out)
    have HL6 := Lib.hid (lk_wc HO5.out.parts.2.2.2 HWB5.out HG6.out)
    have HQ6 := Lib.hid (rw_wc (HQ4.out.below HB5.out) HWB5.out HG6.out)
    have HI6 := Lib.hid (id_wc (HI4.out.below HB5.out) HWB5.out HG6.out)
    have HT6 := Lib.hid ((HT4.out.trans (Turn.ofBelow HB5.out)).trans (turn_p HG6.out))
    have HDR := Lib.hid (drop_any C Q nq kq HW.out.hq HW.out.sq HSQ.out Bi ids mi kbi HMI.out.symm (by have h1 := HMI.out; have h2 := HLN.out; omega) HIM.out w6 HQ6.out HI6.out)
    have f3 := HWB6.out.c 3 _ rfl
    clear f2 HG6 HFR
    go_wp2_with (first
      | (go_at_call 30; refine HDR.out.mono ?_; rintro e w7 ⟨C7, n7, k7, rfl, ho7, hb7⟩; have HO7 := Lib.hid ho7; have HB7 := Lib.hid hb7; have HWB7 := Lib.hid (HWB6.out.below hb7); clear ho7 hb7)
      | (refine wpList_store_wq rfl (.tmp 40) (.tmp 38) rfl rfl rfl HWB7.out ?_; intro w8 hb8 hg8; have HWB8 := Lib.hid hb8; have HG8 := Lib.hid hg8; clear hb8 hg8)
      | fail)
    go_end0
    obtain ⟨C8, k8, e8, h81, h82, h83⟩ := Rk.Own.form rw_ok HO7.out
    injection e8 with e9 e10 e11
    subst e9; subst e11
    have HWP : Wp w8 p A2 nn k2 (c + 1) (T.undone i) B5 m5 kb5 (freeL L (inL (T.gone i nn))) C7 n7 k7 (dropL Q (T.gone i nn)) := by
      rw [← HIDS.out]
      exact ⟨HWB8.out, tx_wc (HX6.out.below HB7.out) HWB7.out HG8.out, HN2.out, HC2.out, lk_wc (HL6.out.below HB7.out) HWB7.out HG8.out, HO5.out.parts.1, HO5.out.parts.2.1, HO5.out.parts.2.2.1, rw_wc h82 HWB7.out HG8.out, e10.symm, by rw [e10]; exact h81, h83.imp id (fun ⟨g, e, _⟩ => ⟨g, 0, e⟩)⟩
    exact ⟨rfl, (HT6.out.trans (Turn.ofBelow HB7.out)).trans (turn_p HG8.out), .inl ⟨i, rfl, HIL.out, HIS.out, A2, k2, B5, m5, kb5, C7, n7, k7, HWP⟩⟩
  · have hEb : (E == 0) = false := by simpa using hE
    have HNO := Lib.hid hno
    have HW2 := Lib.hid (HW.out.below hb2)
    have HB2 := Lib.hid hb2
    clear hb2 hE hno c0 c1
    go_wp2_with (first | (refine wpList_store_tree rfl (.tmp 4) (.tmp 14) rfl rfl rfl (TB.new w2 none 0 0 0) ?_; intro w3 hu hg2; have HG3 := Lib.hid hg2; clear hu hg2) | fail)
    have t3 : Below w2.heap.size w2 w3 := (below_new w2 _).grown HG3.out (by simp) (fun k e => by injection e with e; omega)
    go_end0
    exact ⟨rfl, (Turn.ofBelow HB2.out).trans (Turn.ofBelow t3), .inr ⟨fun i h1 h2 => HNO.out i h1 (by rw [HW.out.hn]; exact h2), HW2.out.below t3⟩⟩
end Go.Proofs.YtbokhhialfbjcaaGreat
