/-
  The document's device: Write.
-/
import Derived.Test.YtaidjnpbjoncoaaRefReadD
import Derived.Test.YtaidjnpbjoncoaaSince
import Derived.Test.YtaidjnpbjoncoaaApartWalk
namespace Go.Proofs.Ytaidjnpbjoncoaa
open Go.RowKit

theorem IsRef.put_ {w : World} {q a b c : Nat} {D : Dv} (h : IsRef w q a b c D) {i : Nat} {s : List UInt8} (hi : i < D.n) (hs : s.length = 64) : IsRef (w.setCell ⟨b, i, none⟩ (strV s)) q a b c (D.put i s) := by
  refine ⟨h.ok.put i s hi hs, h.ne, by rw [heap_setCell_other _ _ _ _ h.ne.2.1]; exact h.own, h.laid.same (heap_setCell_other _ _ _ _ h.ne.2.2), h.late.set i s fun j _ => ?_⟩
  show (if j = i then some s else D.late j).getD [] = _
  by_cases e : j = i
  · rw [if_pos e, if_pos e]; rfl
  · rw [if_neg e, if_neg e]

/-- a string of bytes, with as many zeros behind it -/
theorem sum_pad (l : List UInt8) (hl : l.length ≤ 64) : ∃ S : ByteArray, (⟨l.toArray⟩ : ByteArray) ++ ⟨Dv.zeros.toArray⟩ = S ∧ S.size = l.length + 64 ∧ S.extract 0 64 = ⟨(Dv.pad l).toArray⟩ := by
  refine ⟨_, rfl, ?_, ?_⟩
  · rw [ByteArray.size_append]
    show l.toArray.size + Dv.zeros.toArray.size = _
    simp [Dv.len_zeros]
  · apply ByteArray.ext
    rw [ByteArray.data_extract, ByteArray.data_append]
    show (l.toArray ++ Dv.zeros.toArray).extract 0 64 = (Dv.pad l).toArray
    rw [List.append_toArray, List.extract_toArray]
    congr 1
    rw [List.extract_eq_take_drop]
    simp only [Nat.sub_zero, List.drop_zero]
    unfold Dv.pad Dv.zeros
    rw [List.take_append, List.take_of_length_le hl, List.take_replicate, Nat.min_eq_left (by omega)]

set_option maxRecDepth 100000 in
set_option maxHeartbeats 1000000 in
theorem refwrite_any {w : World} {q a b c : Nat} {D : Dv} (h : IsRef w q a b c D) (hf : D.spent ≤ 1000000) (at_ : Int) {A : Option Addr} {l : List UInt8} (hr : Firm (DS q a b) w A l) (n cc : Nat) (hn : l.length = n) : Calls Try.prog 14 #[ptr q, .int .i64 at_, .slice A n cc] w fun e w' => e = .returned (.int .i64 (D.writeE at_ l)) ∧ IsRef w' q a b c (D.write at_ l) ∧ Turn (DS q a b) w w' := by
  have c0 := h.c0
  have c3 := h.c3
  subst hn
  cases hgone : D.gone
  · rw [hgone] at c3
    have hgn : ¬ D.gone = true := by rw [hgone]; exact Bool.false_ne_true
    have hwe : D.writeE at_ l = if D.has at_ && decide (l.length ≤ 64) then (if D.left = 0 then 11 else 0) else 1 := by unfold Dv.writeE; rw [if_neg hgn]
    have hw : D.write at_ l = if D.has at_ && decide (l.length ≤ 64) then (if D.left = 0 then D.die else D.more.put at_.toNat (Dv.pad l)) else D := by unfold Dv.write; rw [if_neg hgn]
    by_cases hat : D.has at_ = true ∧ l.length ≤ 64
    · have hb : (D.has at_ && decide (l.length ≤ 64)) = true := by rw [hat.1, decide_eq_true hat.2]; rfl
      rw [hb, if_pos rfl] at hwe hw
      obtain ⟨hat, hl64⟩ := hat
      obtain ⟨hlt, h0, hi⟩ := Dv.has_lt hat
      generalize at_.toNat = i at *
      subst hi
      have hsp := refspend_any h hf
      have d1 : decide ((i : Int) < 0) = false := decide_eq_false (by omega)
      have d2 : decide (D.n ≤ i) = false := decide_eq_false (by omega)
      have d3 : decide ((64 : Int) < (l.length : Int)) = false := decide_eq_false (by omega)
      have htop := h.ok.top
      by_cases hleft : D.left = 0
      · have hsd : D.spend = D.die := by unfold Dv.spend; rw [if_pos hleft]
        rw [if_pos hleft] at hwe hw
        rw [decide_eq_true hleft, hsd] at hsp
        rw [hwe, hw]
        have HSP := Lib.hid hsp
        clear h hgone hgn hleft hsd hwe hw hb hat hl64 hf hsp
        generalize l.length = n at *
        generalize D.n = m at *
        go_enter Try.func14, Try.ntmps14
        go_wp2_with (go_at_call 31; refine HSP.out.mono ?_; rintro e w1 ⟨rfl, hd1, ht1⟩; have HD1 := Lib.hid hd1; have HT1 := Lib.hid ht1; clear hd1 ht1)
        go_ret
        exact ⟨rfl, HD1.out, HT1.out.mono fun _ e => .inl e⟩
      · have hsd : D.spend = D.more := by unfold Dv.spend; rw [if_neg hleft]
        rw [if_neg hleft] at hwe hw
        rw [decide_eq_false hleft, hsd] at hsp
        rw [hwe, hw]
        have HSP := Lib.hid hsp
        have HLT := Lib.hid hlt
        have HR := Lib.hid hr
        have HPAD := Lib.hid (Dv.len_pad l hl64)
        obtain ⟨i0, hi, hz0, hz1, hz2⟩ := info_parts byte_info
        have HI := Lib.hid (show _ ∧ _ ∧ _ ∧ _ from ⟨hi, hz0, hz1, hz2⟩)
        have H64 := Lib.hid hl64
        obtain ⟨S, hcat, hss, hse⟩ := sum_pad l hl64
        clear h hgone hgn hleft hsd hwe hw hb hat hl64 hf hsp hr hlt hi hz0 hz1 hz2
        generalize hnn : l.length = n at *
        have HN : Hid (l.length = n) := Lib.hid hnn
        have HNM := Lib.hid (rfl : D.n = D.n)
        clear hnn
        generalize hmm : D.n = m at c0 d2 htop
        have HM : Hid (D.n = m) := Lib.hid hmm
        clear hmm HNM
        go_enter Try.func14, Try.ntmps14
        go_wp2_with (go_at_call 31; refine HSP.out.mono ?_; rintro e w1 ⟨rfl, hd1, ht1⟩; have HD1 := Lib.hid hd1; have HT1 := Lib.hid ht1; clear hd1 ht1)
        have hrd := HR.out w1 (HT1.out.mono fun _ e => .inl e)
        have hconv1 : ∀ V, Since w1 V → (convert 32 9 (.slice A n cc)).run Try.prog V = .ok (.string ⟨l.toArray⟩) V := fun V hV => rd_conv hrd HN.out hV
        obtain ⟨w2, hmk, hown, hgr⟩ := run_make_full (P := Try.prog) w1.drew w1.heap.size 32 5 i0 (.int .u8 0) 1 Try.underlying32 HI.out.1 HI.out.2.1 HI.out.2.2.1 .i64 .i64 64 (by rw [HI.out.2.2.2]; omega) (by unfold maxLen; omega) (Nat.le_refl _)
        have hz := (made_zeros hown).read
        have hb2 : Below w1.drew.heap.size w1.drew w2 := (Below.refl _ _).grown hgr (Nat.le_refl _) (fun j hj => by cases hj)
        have hconv2 : ∀ V, Since w2 V → (convert 32 9 (.slice (some ⟨w1.heap.size, 0, none⟩) 64 64)).run Try.prog V = .ok (.string ⟨Dv.zeros.toArray⟩) V := fun V hV => rd_conv (l := Dv.zeros) hz Dv.len_zeros hV
        have HMK := Lib.hid hmk
        have HB2 : Hid (Below w1.heap.size w1 w2) := Lib.hid (((Below.refl _ _).drew).trans hb2)
        clear hmk hown hgr hz hrd
        have hno : (9223372036854775807 < l.length + Dv.zeros.length) = False := eq_false (by rw [Dv.len_zeros, HN.out]; have := H64.out; omega)
        go_wp2_with fail
        refine wp_region_since (by kernel_rfl) ?_
        have hS : Since w1 (World.drew w1) := (Below.refl _ _).drew
        refine wpAnyH_take (i := 0) (oi := ⟨some 31, _, _, _, _, _⟩) (v := ?_) rfl (by kernel_rfl) (by kernel_rfl) (by kernel_rfl) (fun _ _ _ h => h) (Or.inl ⟨by rfl, ?_⟩) hS ?_
        rotate_left
        · intro W hW; go_simp; with_reducible rfl
        try simp only [Act.put, List.setIfInBounds_toArray, List.set_cons_zero, List.set_cons_succ]
        refine wpAnyH_take (i := 1) (oi := ⟨some 32, _, _, _, _, _⟩) (v := ?_) rfl (by kernel_rfl) (by kernel_rfl) (by kernel_rfl) (fun _ _ _ h => h) (Or.inl ⟨by rfl, ?_⟩) hS ?_
        rotate_left
        · intro W hW; go_simp; with_reducible rfl
        try simp only [Act.put, List.setIfInBounds_toArray, List.set_cons_zero, List.set_cons_succ]
        -- operation 2: a step
        refine wpAnyH_ready (rs := [2]) (by kernel_rfl) (by simp) ?_
        refine AllReadyH.cons (o := ⟨some 33, _, _, _, _, _⟩) rfl (fun Kr hKr => ?_) AllReadyH.nil
        rw [if_pos (by kernel_rfl)]
        refine wp_make 32 _ _ rfl rfl rfl HMK.out ?_
        show Kr _ _
        refine hKr.out _ _ ?_ (fun _ => ?_)
        · exact since_trans hS hb2
        clear hKr Kr
        refine wpAnyH_since (since_trans hS hb2) ?_
        clear hS
        have hS : Since w2 w2 := Below.refl _ _
        try simp only [Act.put, List.setIfInBounds_toArray, List.set_cons_zero, List.set_cons_succ]
        refine wpAnyH_take (i := 3) (oi := ⟨some 34, _, _, _, _, _⟩) (v := ?_) rfl (by kernel_rfl) (by kernel_rfl) (by kernel_rfl) (fun _ _ _ h => h) (Or.inl ⟨by rfl, ?_⟩) hS ?_
        rotate_left
        · intro W hW; go_simp; with_reducible rfl
        try simp only [Act.put, List.setIfInBounds_toArray, List.set_cons_zero, List.set_cons_succ]
        refine wpAnyH_take (i := 4) (oi := ⟨some 35, _, _, _, _, _⟩) (v := ?_) rfl (by kernel_rfl) (by kernel_rfl) (by kernel_rfl) (fun _ _ _ h => h) (Or.inl ⟨by rfl, ?_⟩) hS ?_
        rotate_left
        · intro W hW; go_simp; with_reducible rfl
        try simp only [Act.put, List.setIfInBounds_toArray, List.set_cons_zero, List.set_cons_succ]
        refine wpAnyH_take (i := 5) (oi := ⟨some 7, _, _, _, _, _⟩) (v := ?_) rfl (by kernel_rfl) (by kernel_rfl) (by kernel_rfl) (fun _ _ _ h => h) (Or.inl ⟨by rfl, ?_⟩) hS ?_
        rotate_left
        · intro W hW; go_simp; with_reducible rfl
        try simp only [Act.put, List.setIfInBounds_toArray, List.set_cons_zero, List.set_cons_succ]
        refine wpAnyH_done (by kernel_rfl) ?_ _
        clear hno hcat hconv1 hconv2
        have hd2 := HD1.out.turn (Turn.ofBelow (S := fun _ => False) HB2.out) (fun h => h) (fun h => h) (fun h => h)
        have e1 : ∀ V, Turn (· = b) w2 V → V.cell? ⟨q, 1, none⟩ = some (.slice (some ⟨b, 0, none⟩) m m) := fun V hV => by
          have := hV.cell hd2.c1 (a := ⟨q, 1, none⟩) hd2.ne.2.1
          rw [show D.more.n = m from HM.out] at this
          exact this
        have hbi : w2.cell? ⟨b, i, none⟩ = _ := hd2.late.cell (show i < D.n from HLT.out)
        have hfi := hd2.late.fr i
        have HD2 := Lib.hid (show IsRef (w2.drew.setCell ⟨b, i, none⟩ (.string ⟨(Dv.pad l).toArray⟩)) q a b c (D.more.put i (Dv.pad l)) from (hd2.turn (S := fun _ => False) ((Turn.refl _ _).drew) (fun h => h) (fun h => h) (fun h => h)).put_ (show i < D.n from HLT.out) HPAD.out)
        have hlm : i < m := by rw [← HM.out]; exact HLT.out
        have hsb : ((64 : Int) ≤ (n : Int) + 64) = True := eq_true (by omega)
        clear hd2
        go_wp2_with fail
        refine wp_region_turn (X := (· = b)) (by kernel_rfl) ?_
        have hS : Turn (· = b) w2 (World.drew w2) := (Turn.refl _ _).drew
        refine wpAnyH_take (i := 0) (oi := ⟨some 36, _, _, _, _, _⟩) (v := ?_) rfl (by kernel_rfl) (by kernel_rfl) (by kernel_rfl) (fun _ _ _ h => h) (Or.inl ⟨by rfl, ?_⟩) hS ?_
        rotate_left
        · intro W hW; go_simp; with_reducible rfl
        try simp only [Act.put, List.setIfInBounds_toArray, List.set_cons_zero, List.set_cons_succ]
        refine wpAnyH_take (i := 1) (oi := ⟨some 37, _, _, _, _, _⟩) (v := ?_) rfl (by kernel_rfl) (by kernel_rfl) (by kernel_rfl) (fun _ _ _ h => h) (Or.inl ⟨by rfl, ?_⟩) hS ?_
        rotate_left
        · intro W hW; go_simp; with_reducible rfl
        try simp only [Act.put, List.setIfInBounds_toArray, List.set_cons_zero, List.set_cons_succ]
        refine wpAnyH_take (i := 2) (oi := ⟨some 38, _, _, _, _, _⟩) (v := ?_) rfl (by kernel_rfl) (by kernel_rfl) (by kernel_rfl) (fun _ _ _ h => h) (Or.inl ⟨by rfl, ?_⟩) hS ?_
        rotate_left
        · intro W hW; go_simp; with_reducible rfl
        try simp only [Act.put, List.setIfInBounds_toArray, List.set_cons_zero, List.set_cons_succ]
        refine wpAnyH_take (i := 3) (oi := ⟨some 39, _, _, _, _, _⟩) (v := ?_) rfl (by kernel_rfl) (by kernel_rfl) (by kernel_rfl) (fun _ _ _ h => h) (Or.inl ⟨by rfl, ?_⟩) hS ?_
        rotate_left
        · intro W hW; go_simp; with_reducible rfl
        try simp only [Act.put, List.setIfInBounds_toArray, List.set_cons_zero, List.set_cons_succ]
        refine wpAnyH_take (i := 4) (oi := ⟨some 40, _, _, _, _, _⟩) (v := ?_) rfl (by kernel_rfl) (by kernel_rfl) (by kernel_rfl) (fun _ _ _ h => h) (Or.inl ⟨by rfl, ?_⟩) hS ?_
        rotate_left
        · intro W hW; go_simp; with_reducible rfl
        try simp only [Act.put, List.setIfInBounds_toArray, List.set_cons_zero, List.set_cons_succ]
        refine wpAnyH_take (i := 5) (oi := ⟨some 41, _, _, _, _, _⟩) (v := ?_) rfl (by kernel_rfl) (by kernel_rfl) (by kernel_rfl) (fun _ _ _ h => h) (Or.inl ⟨by rfl, ?_⟩) hS ?_
        rotate_left
        · intro W hW; go_simp; with_reducible rfl
        try simp only [Act.put, List.setIfInBounds_toArray, List.set_cons_zero, List.set_cons_succ]
        refine wpAnyH_take (i := 6) (oi := ⟨some 42, _, _, _, _, _⟩) (v := ?_) rfl (by kernel_rfl) (by kernel_rfl) (by kernel_rfl) (fun _ _ _ h => h) (Or.inl ⟨by rfl, ?_⟩) hS ?_
        rotate_left
        · intro W hW; go_simp; with_reducible rfl
        try simp only [Act.put, List.setIfInBounds_toArray, List.set_cons_zero, List.set_cons_succ]
        refine wpAnyH_take (i := 7) (oi := ⟨some 43, _, _, _, _, _⟩) (v := ?_) rfl (by kernel_rfl) (by kernel_rfl) (by kernel_rfl) (fun _ _ _ h => h) (Or.inl ⟨by rfl, ?_⟩) hS ?_
        rotate_left
        · intro W hW; go_simp; with_reducible rfl
        try simp only [Act.put, List.setIfInBounds_toArray, List.set_cons_zero, List.set_cons_succ]
        -- operation 8: a step
        refine wpAnyH_ready (rs := [8]) (by kernel_rfl) (by simp) ?_
        refine AllReadyH.cons (o := ⟨none, _, _, _, _, _⟩) rfl (fun Kr hKr => ?_) AllReadyH.nil
        go_simp
        show Kr _ _
        refine hKr.out _ _ ?_ (fun _ => ?_)
        · exact Turn.trans hS ((Turn.refl (· = b) w2.drew).setCell ⟨b, i, none⟩ (.string ⟨(Dv.pad l).toArray⟩) (.inl rfl))
        clear hKr Kr
        refine wpAnyH_turn (Turn.trans hS ((Turn.refl (· = b) w2.drew).setCell ⟨b, i, none⟩ (.string ⟨(Dv.pad l).toArray⟩) (.inl rfl))) ?_
        clear hS
        have hS : Turn (· = b) (w2.drew.setCell ⟨b, i, none⟩ (.string ⟨(Dv.pad l).toArray⟩)) (w2.drew.setCell ⟨b, i, none⟩ (.string ⟨(Dv.pad l).toArray⟩)) := Turn.refl _ _
        try simp only [Act.put]
        refine wpAnyH_done (by kernel_rfl) ?_ _
        go_wp2_with fail
        go_ret
        exact ⟨rfl, HD2.out, ((HT1.out.mono fun _ e => .inl e).trans (Turn.ofBelow HB2.out)).trans (((Turn.refl (DS q a b) w2).setCell ⟨b, i, none⟩ _ (.inl (.inr (.inr rfl)))).drew)⟩
    · have hb : (D.has at_ && decide (l.length ≤ 64)) = false := by
        cases hD : D.has at_
        · rfl
        · exact decide_eq_false fun h2 => hat ⟨hD, h2⟩
      rw [hb] at hwe hw
      simp only [Bool.false_eq_true, if_false] at hwe hw
      rw [hwe, hw]
      have H := Lib.hid h
      rcases (show at_ < 0 ∨ (0 ≤ at_ ∧ (D.n : Int) ≤ at_) ∨ (0 ≤ at_ ∧ at_ < (D.n : Int) ∧ 64 < l.length) from by
        by_cases h1 : at_ < 0
        · exact .inl h1
        · rcases Int.lt_or_le at_ (D.n : Int) with h2 | h2
          · refine .inr (.inr ⟨by omega, h2, ?_⟩)
            rcases Nat.lt_or_ge 64 l.length with h3 | h3
            · exact h3
            · exact absurd ⟨by unfold Dv.has; rw [decide_eq_true (show 0 ≤ at_ by omega), decide_eq_true h2]; rfl, h3⟩ hat
          · exact .inr (.inl ⟨by omega, h2⟩)) with h1 | ⟨h1, h2⟩ | ⟨h1, h2, h3⟩
      · have d1 : decide (at_ < 0) = true := decide_eq_true h1
        clear h hat hgone hgn hwe hw hb
        generalize D.n = m at *
        generalize l.length = n at *
        go_enter Try.func14, Try.ntmps14
        go_wp2_with fail
        go_ret
        exact ⟨rfl, H.out, Turn.refl _ _⟩
      · have d1 : decide (at_ < 0) = false := decide_eq_false (by omega)
        have d2 : decide ((D.n : Int) ≤ at_) = true := decide_eq_true h2
        clear h hat hgone hgn hwe hw hb
        generalize D.n = m at *
        generalize l.length = n at *
        go_enter Try.func14, Try.ntmps14
        go_wp2_with fail
        go_ret
        exact ⟨rfl, H.out, Turn.refl _ _⟩
      · have d1 : decide (at_ < 0) = false := decide_eq_false (by omega)
        have d2 : decide ((D.n : Int) ≤ at_) = false := decide_eq_false (by omega)
        have d3 : decide ((64 : Int) < (l.length : Int)) = true := decide_eq_true (by omega)
        clear h hat hgone hgn hwe hw hb
        generalize D.n = m at *
        generalize l.length = n at *
        go_enter Try.func14, Try.ntmps14
        go_wp2_with fail
        go_ret
        exact ⟨rfl, H.out, Turn.refl _ _⟩
  · rw [hgone] at c3
    unfold Dv.write Dv.writeE
    rw [if_pos hgone, if_pos hgone]
    have H := Lib.hid h
    clear h hgone
    generalize l.length = n at *
    go_enter Try.func14, Try.ntmps14
    go_wp2_with fail
    go_ret
    exact ⟨rfl, H.out, Turn.refl _ _⟩

end Go.Proofs.Ytaidjnpbjoncoaa
