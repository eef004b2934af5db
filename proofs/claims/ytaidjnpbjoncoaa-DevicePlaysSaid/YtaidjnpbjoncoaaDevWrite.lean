/-
  Write: the budget, and a sector cached.
-/
import Derived.Test.YtaidjnpbjoncoaaTurns
namespace Go.Proofs.Ytaidjnpbjoncoaa
open Go.RowKit

theorem IsDev.put_ {w w' : World} {p L M : Nat} {D : Dv} (h : IsDev w p L M D) {i : Nat} {s : List UInt8} {m : Nat} (hi : i < D.n) (hs : s.length = 64) (hm : m ≤ D.spent) (hc : Cache w' M m (fun j => if j = i then some s else D.late j)) (hp : w'.heap[p]? = w.heap[p]?) (hL : w'.heap[L]? = w.heap[L]?) : IsDev w' p L M (D.put i s) := by
  obtain ⟨ok, ne, ⟨c, h1, h2, h3⟩, h4, h5⟩ := h
  exact ⟨ok.put i s hi hs, ne, ⟨c, h1, h2, hp.trans h3⟩, hL.trans h4, hc.mono hm⟩

/-- what the write's last region finds, and leaves -/
structure Ready (w1 W : World) (p L M i : Nat) (D : Dv) (s : List UInt8) : Prop where
  c1 : ∀ V, Turn (· = M) W V → V.cell? ⟨p, 1, none⟩ = some (.map (some M))
  ld : ∀ V, Turn (· = M) W V → (loadVar 60 ⟨w1.heap.size, 0, none⟩).run Try.prog V = .ok (secV s) V
  st : ∃ w2, (Instr.mapUpdate 56 (.map (some M)) (.int .i64 (i : Int)) (secV s)).run Try.prog W.drew = .ok () w2 ∧ W.drew.grownBy w2 (some M) ∧ IsDev w2 p L M (D.put i s) ∧ Turn (DS p L M) w1 w2

theorem ready_mk {w1 : World} {p L M i m : Nat} {D : Dv} {s old : List UInt8} (h : IsDev w1 p L M D) (hc : Cache w1 M m D.late) (hm : m + 1 ≤ D.spent) (hm9 : m < 1000000000) (hi : i < D.n) (hs : s.length = 64) :
    Ready w1 ((w1.alloc (.cells (secC old) 60)).setRow w1.heap.size (secC s)) p L M i D s := by
  have hb := h.lt
  have nm := h.nm
  have hg : ((w1.alloc (.cells (secC old) 60)).setRow w1.heap.size (secC s)).heap[w1.heap.size]? = some (.cells (secC s) 60 (0, 0)) := setRow_heap _ _ _ _ _ _ (heap_alloc_new _ _)
  have hT : Turn (fun _ => False) w1 ((w1.alloc (.cells (secC old) 60)).setRow w1.heap.size (secC s)) := ((Turn.refl _ _).alloc _).setRow _ _ (.inr (Nat.le_refl _))
  have hdev := h.turn hT (fun h => h) (fun h => h) (fun h => h)
  have hbd : (i : Int) < 9223372036854775808 := by have := h.ok.top; omega
  refine ⟨fun V hV => hV.cell hdev.c1 nm.2.1, fun V hV => ?_, ?_⟩
  · have e : (secC s) = secs 1 fun _ => s := by
      apply Array.ext_getElem?
      intro k
      rcases Nat.lt_or_ge k 64 with hk | hk
      · rw [get_secs _ _ _ (by omega), secC_get, Nat.mod_eq_of_lt hk, List.getD_eq_getElem?_getD, List.getElem?_eq_getElem (by omega)]
        rfl
      · rw [Array.getElem?_eq_none (by rw [size_secC hs]; exact hk), Array.getElem?_eq_none (by rw [size_secs]; omega)]
    have hgV := (hV.block w1.heap.size (lt_of_block hg) (fun e => by have := hb.2.2; have e' : w1.heap.size = M := e; omega)).trans hg
    rw [e] at hgV
    have := run_load_sec hgV 0 (by omega) hs
    simpa using this
  · have hcW : Cache ((w1.alloc (.cells (secC old) 60)).setRow w1.heap.size (secC s)).drew M m D.late := hc.same (hT.block M hb.2.2 (fun h => h))
    obtain ⟨w2, hrun, hc2, hg2⟩ := hcW.store hm9 i hbd s hs
    have hb2 : ∀ k, k < w1.heap.size → k ≠ M → w2.heap[k]? = w1.heap[k]? := fun k hk hkM =>
      (hg2.block k (by rw [heap_drew]; exact Nat.lt_of_lt_of_le hk hT.size) (fun e => hkM (by injection e))).trans (hT.block k hk (fun h => h))
    exact ⟨w2, hrun, hg2, h.put_ hi hs hm hc2 (hb2 p hb.1 nm.2.1) (hb2 L hb.2.1 nm.2.2), (((Turn.refl _ _).alloc _).setRow _ _ (.inr (Nat.le_refl _))).drew.grown hg2 (fun j hj => .inl (.inr (.inr (by injection hj with hj; exact hj.symm))))⟩

set_option maxRecDepth 100000 in
set_option maxHeartbeats 1000000 in
theorem write_any {w : World} {p L M : Nat} {D : Dv} (h : IsDev w p L M D) (hf : D.spent ≤ 1000000) (at_ : Int) {A : Option Addr} {l : List UInt8} (hr : Firm (DS p L M) w A l) (n c : Nat) (hn : l.length = n) : Calls Try.prog 13 #[ptr p, .int .i64 at_, .slice A n c] w fun e w' => e = .returned (.int .i64 (D.writeE at_ l)) ∧ IsDev w' p L M (D.write at_ l) ∧ Turn (DS p L M) w w' := by
  have hg := gone_any h
  subst hn
  by_cases hgone : D.gone = true
  · rw [hgone] at hg
    unfold Dv.write Dv.writeE
    rw [if_pos hgone, if_pos hgone]
    have H := Lib.hid h
    clear h hgone
    generalize l.length = n at *
    go_enter Try.func13, Try.ntmps13
    go_wp2_with (go_at_call 23; refine hg.mono ?_; rintro e w' ⟨rfl, hw⟩; replace hw := hw.symm; subst hw)
    go_ret
    exact ⟨rfl, H.out, Turn.refl _ _⟩
  · have hgf : D.gone = false := by cases hD : D.gone <;> simp_all
    rw [hgf] at hg
    have hh := has_any h at_
    have hwe : D.writeE at_ l = if D.has at_ && decide (l.length ≤ 64) then (if D.left = 0 then 11 else 0) else 1 := by unfold Dv.writeE; rw [if_neg hgone]
    have hw : D.write at_ l = if D.has at_ && decide (l.length ≤ 64) then (if D.left = 0 then D.die else D.more.put at_.toNat (Dv.pad l)) else D := by unfold Dv.write; rw [if_neg hgone]
    by_cases hat : D.has at_ = true ∧ l.length ≤ 64
    · have hb : (D.has at_ && decide (l.length ≤ 64)) = true := by rw [hat.1, decide_eq_true hat.2]; rfl
      rw [hb, if_pos rfl] at hwe hw
      obtain ⟨hat, hl64⟩ := hat
      rw [hat] at hh
      have hsp := spend_any h hf
      by_cases hleft : D.left = 0
      · have hse : spendE D = 11 := by unfold spendE; rw [if_pos hleft]
        have hsd : D.spend = D.die := by unfold Dv.spend; rw [if_pos hleft]
        rw [if_pos hleft] at hwe hw
        rw [hse, hsd] at hsp
        rw [hwe, hw]
        have hln : decide ((64 : Int) < (l.length : Int)) = false := decide_eq_false (by omega)
        clear h hgone hleft hse hsd hwe hw hb hat hl64 hf hgf
        generalize l.length = n at *
        go_enter Try.func13, Try.ntmps13
        go_wp2_with (first
          | (go_at_call 23; refine hg.mono ?_; rintro e w' ⟨rfl, hw⟩; replace hw := hw.symm; subst hw)
          | (go_at_call 29; refine hh.mono ?_; rintro e w' ⟨rfl, hw⟩; replace hw := hw.symm; subst hw)
          | (go_at_call 30; refine hsp.mono ?_; rintro e w1 ⟨rfl, hd1, ht1⟩; have HD1 := Lib.hid hd1; have HT1 := Lib.hid ht1; clear hd1 ht1))
        go_ret
        exact ⟨rfl, HD1.out, HT1.out.mono fun _ e => .inl e⟩
      · have hse : spendE D = 0 := by unfold spendE; rw [if_neg hleft]
        have hsd : D.spend = D.more := by unfold Dv.spend; rw [if_neg hleft]
        rw [if_neg hleft] at hwe hw
        rw [hse, hsd] at hsp
        rw [hwe, hw]
        have hln : decide ((64 : Int) < (l.length : Int)) = false := decide_eq_false (by omega)
        obtain ⟨hlt, h0, hi⟩ := Dv.has_lt hat
        generalize at_.toNat = i at *
        subst hi
        have hpad := Lib.hid (Dv.len_pad l hl64)
        have HR := Lib.hid hr
        have hbd : (i : Int) < 9223372036854775808 := by have := h.ok.top; omega
        have HLT := Lib.hid hlt
        have HF := Lib.hid hf
        have hB := Lib.hid h.cache
        have H0 := Lib.hid h
        have HL64 := Lib.hid hl64
        clear h hgone hleft hse hsd hwe hw hb hat hl64 hf hgf hr hlt h0
        generalize hnn : l.length = n at hg hh hsp hln HL64 ⊢
        have HN : Hid (l.length = n) := Lib.hid hnn
        clear hnn
        go_enter Try.func13, Try.ntmps13
        go_wp2_with (first
          | (go_at_call 23; refine hg.mono ?_; rintro e w' ⟨rfl, hw⟩; replace hw := hw.symm; subst hw)
          | (go_at_call 29; refine hh.mono ?_; rintro e w' ⟨rfl, hw⟩; replace hw := hw.symm; subst hw)
          | (go_at_call 30; refine hsp.mono ?_; rintro e w1 ⟨rfl, hd1, ht1⟩; have HD1 := Lib.hid hd1; have HT1 := Lib.hid ht1; clear hd1 ht1)
          | ((with_reducible refine wpList_alloc_zero (by rfl) 60 (by rfl) _ info_sec ?_))
          | (refine wpList_copy_sec rfl (.tmp 25) (.tmp 26) rfl (heap_alloc_new w1 _) (l := l) (HR.out _ (HT1.out.mono (fun _ e => .inl e) |>.alloc _)) n c HN.out HL64.out rfl rfl ?_))
        have hRY := ready_mk (old := Dv.zeros) HD1.out (hB.out.same (HT1.out.block M H0.out.lt.2.2 (Ne.symm H0.out.nm.2.1))) (Nat.le_refl _) (Nat.lt_of_le_of_lt HF.out (by omega)) HLT.out hpad.out
        generalize ((w1.alloc (.cells (secC Dv.zeros) 60)).setRow w1.heap.size (secC (Dv.pad l))) = W1 at *
        obtain ⟨hC1, hLd, w2, hrun, hg2, hd2, ht2⟩ := hRY
        have HRUN := Lib.hid hrun
        have HLd := Lib.hid hLd
        clear hLd
        have HG2 := Lib.hid hg2
        have HD2 := Lib.hid hd2
        have HT2 := Lib.hid ht2
        clear hrun hg2 hd2 ht2
        refine wp_region_turn (X := (· = M)) (by kernel_rfl) ?_
        have hS : Turn (· = M) W1 (World.drew W1) := (Turn.refl _ _).drew
        refine wpAnyH_take (i := 0) (oi := ⟨some 28, _, _, _, _, _⟩) (v := ?_) rfl (by kernel_rfl) (by kernel_rfl) (by kernel_rfl) (fun _ _ _ h => h) (Or.inl ⟨by rfl, ?_⟩) hS ?_
        rotate_left
        · intro W hW; go_simp; with_reducible rfl
        try simp only [Act.put, List.setIfInBounds_toArray, List.set_cons_zero, List.set_cons_succ]
        refine wpAnyH_take (i := 1) (oi := ⟨some 29, _, _, _, _, _⟩) (v := ?_) rfl (by kernel_rfl) (by kernel_rfl) (by kernel_rfl) (fun _ _ _ h => h) (Or.inl ⟨by rfl, ?_⟩) hS ?_
        rotate_left
        · intro W hW; go_simp; with_reducible rfl
        try simp only [Act.put, List.setIfInBounds_toArray, List.set_cons_zero, List.set_cons_succ]
        refine wpAnyH_take (i := 2) (oi := ⟨some 30, _, _, _, _, _⟩) (v := ?_) rfl (by kernel_rfl) (by kernel_rfl) (by kernel_rfl) (fun _ _ _ h => h) (Or.inl ⟨by rfl, ?_⟩) hS ?_
        rotate_left
        · intro W hW; go_simp; with_reducible rfl
        try simp only [Act.put, List.setIfInBounds_toArray, List.set_cons_zero, List.set_cons_succ]
        refine wpAnyH_take (i := 3) (oi := ⟨some 31, _, _, _, _, _⟩) (v := ?_) rfl (by kernel_rfl) (by kernel_rfl) (by kernel_rfl) (fun _ _ _ h => h) (Or.inl ⟨by rfl, ?_⟩) hS ?_
        rotate_left
        · intro W hW; go_simp; with_reducible rfl
        try simp only [Act.put, List.setIfInBounds_toArray, List.set_cons_zero, List.set_cons_succ]
        refine wpAnyH_take (i := 4) (oi := ⟨some 32, _, _, _, _, _⟩) (v := ?_) rfl (by kernel_rfl) (by kernel_rfl) (by kernel_rfl) (fun _ _ _ h => h) (Or.inl ⟨by rfl, ?_⟩) hS ?_
        rotate_left
        · intro W hW; go_simp; with_reducible rfl
        try simp only [Act.put, List.setIfInBounds_toArray, List.set_cons_zero, List.set_cons_succ]
        refine wpAnyH_take (i := 5) (oi := ⟨some 33, _, _, _, _, _⟩) (v := secV (Dv.pad l)) rfl (by kernel_rfl) (by kernel_rfl) (by kernel_rfl) (fun _ _ _ h => h) (Or.inl ⟨by rfl, fun W hW => exec_load rfl rfl (HLd.out W hW)⟩) hS ?_
        try simp only [Act.put, List.setIfInBounds_toArray, List.set_cons_zero, List.set_cons_succ]
        -- operation 6: a step
        refine wpAnyH_ready (rs := [6]) (by kernel_rfl) (by simp) ?_
        refine AllReadyH.cons (o := ⟨none, _, _, _, _, _⟩) rfl (fun Kr hKr => ?_) AllReadyH.nil
        have hrun := HRUN.out
        go_simp
        show Kr _ _
        refine hKr.out _ _ ?_ (fun _ => ?_)
        · exact Turn.trans hS (Turn.grown (Turn.refl _ _) HG2.out (fun j hj => .inl (by injection hj with hj; exact hj.symm)))
        clear hKr Kr
        refine wpAnyH_turn (Turn.trans hS (Turn.grown (Turn.refl _ _) HG2.out (fun j hj => .inl (by injection hj with hj; exact hj.symm)))) ?_
        clear hS
        have hS : Turn (· = M) w2 w2 := Turn.refl _ _
        try simp only [Act.put, List.setIfInBounds_toArray, List.set_cons_zero, List.set_cons_succ]
        refine wpAnyH_done (by kernel_rfl) ?_ _
        go_wp2_with fail
        go_ret
        exact ⟨rfl, HD2.out, (HT1.out.mono fun _ e => .inl e).trans HT2.out⟩
    · have hb : (D.has at_ && decide (l.length ≤ 64)) = false := by
        cases hD : D.has at_
        · rfl
        · exact decide_eq_false fun h2 => hat ⟨hD, h2⟩
      rw [hb] at hwe hw
      simp only [Bool.false_eq_true, if_false] at hwe hw
      rw [hwe, hw]
      have H := Lib.hid h
      cases hD : D.has at_
      · rw [hD] at hh
        clear h hgone hgf hb hat hwe hw hf
        generalize l.length = n at *
        go_enter Try.func13, Try.ntmps13
        go_wp2_with (first
          | (go_at_call 23; refine hg.mono ?_; rintro e w' ⟨rfl, hw⟩; replace hw := hw.symm; subst hw)
          | (go_at_call 29; refine hh.mono ?_; rintro e w' ⟨rfl, hw⟩; replace hw := hw.symm; subst hw))
        go_ret
        exact ⟨rfl, H.out, Turn.refl _ _⟩
      · rw [hD] at hh
        have hln : decide ((64 : Int) < (l.length : Int)) = true := decide_eq_true (by rw [hD] at hb; have := of_decide_eq_false hb; omega)
        clear h hgone hgf hb hat hwe hw hf
        generalize l.length = n at *
        go_enter Try.func13, Try.ntmps13
        go_wp2_with (first
          | (go_at_call 23; refine hg.mono ?_; rintro e w' ⟨rfl, hw⟩; replace hw := hw.symm; subst hw)
          | (go_at_call 29; refine hh.mono ?_; rintro e w' ⟨rfl, hw⟩; replace hw := hw.symm; subst hw))
        go_ret
        exact ⟨rfl, H.out, Turn.refl _ _⟩

end Go.Proofs.Ytaidjnpbjoncoaa
