/-
  Write: the budget, and a sector cached.
-/
import Derived.Test.YtojidejlohpeaaaDevA
import Derived.LoopTactic
import Derived.Test.YtojidejlohpeaaaChecked
import Derived.Shelf.Sort.Plain
import Derived.Sort.OwnSortedInts
import Derived.Lib.SlBytesConst
namespace Go.Proofs.Ytojidejlohpeaaa
set_option maxRecDepth 100000
open Go.RowKit

theorem IsDev.put_ {w w' : World} {p L M : Nat} {D : Dv} (h : IsDev w p L M D) {i : Nat} {s : List UInt8} {m : Nat} (hi : i < D.n) (hs : s.length = 64) (hm : m ≤ D.spent) (hc : Cache w' M m (fun j => if j = i then some s else D.late j)) (hp : w'.heap[p]? = w.heap[p]?) (hL : w'.heap[L]? = w.heap[L]?) : IsDev w' p L M (D.put i s) := by
  obtain ⟨ok, ne, ⟨c, h1, h2, h3⟩, h4, h5⟩ := h
  exact ⟨ok.put i s hi hs, ne, ⟨c, h1, h2, hp.trans h3⟩, hL.trans h4, hc.mono hm⟩

/-- what the write's last region finds, and leaves -/
structure Ready (w1 W : World) (p L M i : Nat) (D : Dv) (s : List UInt8) : Prop where
  c1 : ∀ V, Turn (· = M) W V → V.cell? ⟨p, 1, none⟩ = some (.map (some M))
  ld : ∀ V, Turn (· = M) W V → (loadVar 95 ⟨w1.heap.size, 0, none⟩).run Try.prog V = .ok (secV s) V
  st : ∃ w2, (Instr.mapUpdate 88 (.map (some M)) (.int .i64 (i : Int)) (secV s)).run Try.prog W.drew = .ok () w2 ∧ W.drew.grownBy w2 (some M) ∧ IsDev w2 p L M (D.put i s) ∧ Turn (DS p L M) w1 w2

theorem ready_mk {w1 : World} {p L M i m : Nat} {D : Dv} {s old : List UInt8} (h : IsDev w1 p L M D) (hc : Cache w1 M m D.late) (hm : m + 1 ≤ D.spent) (hm9 : m < 1000000000) (hi : i < D.n) (hs : s.length = 64) :
    Ready w1 ((w1.alloc (.cells (secC old) 95)).setRow w1.heap.size (secC s)) p L M i D s := by
  have hb := h.lt
  have nm := h.nm
  have hg : ((w1.alloc (.cells (secC old) 95)).setRow w1.heap.size (secC s)).heap[w1.heap.size]? = some (.cells (secC s) 95 (0, 0)) := setRow_heap _ _ _ _ _ _ (heap_alloc_new _ _)
  have hT : Turn (fun _ => False) w1 ((w1.alloc (.cells (secC old) 95)).setRow w1.heap.size (secC s)) := ((Turn.refl _ _).alloc _).setRow _ _ (.inr (Nat.le_refl _))
  have hdev := h.turn hT (fun h => h) (fun h => h) (fun h => h)
  have hbd : (i : Int) < 9223372036854775808 := by have := h.ok.top; omega
  refine ⟨fun V hV => hV.cell hdev.c1 nm.2.1, fun V hV => ?_, ?_⟩
  · have e : (secC s) = secs 1 fun _ => s := by
      apply Array.ext_getElem?
      intro k
      rcases Nat.lt_or_ge k 64 with hk | hk
      · rw [get_secs _ _ _ (by omega), secC_get, Nat.mod_eq_of_lt hk, List.getD_eq_getElem?_getD, List.getElem?_eq_getElem (by omega)]
        rfl
      · rw [Array.getElem?_eq_none (by rw [size_secC hs]; exact hk), Array.getElem?_eq_none (by rw [size_secs]; omega)]
    have hgV := (hV.block w1.heap.size (lt_of_block hg) (fun e => by have := hb.2.2; have e' : w1.heap.size = M := e; omega)).trans hg
    rw [e] at hgV
    have := run_load_sec hgV 0 (by omega) hs
    simpa using this
  · have hcW : Cache ((w1.alloc (.cells (secC old) 95)).setRow w1.heap.size (secC s)).drew M m D.late := hc.same (hT.block M hb.2.2 (fun h => h))
    obtain ⟨w2, hrun, hc2, hg2⟩ := hcW.store hm9 i hbd s hs
    have hb2 : ∀ k, k < w1.heap.size → k ≠ M → w2.heap[k]? = w1.heap[k]? := fun k hk hkM =>
      (hg2.block k (by rw [heap_drew]; exact Nat.lt_of_lt_of_le hk hT.size) (fun e => hkM (by injection e))).trans (hT.block k hk (fun h => h))
    exact ⟨w2, hrun, hg2, h.put_ hi hs hm hc2 (hb2 p hb.1 nm.2.1) (hb2 L hb.2.1 nm.2.2), (((Turn.refl _ _).alloc _).setRow _ _ (.inr (Nat.le_refl _))).drew.grown hg2 (fun j hj => .inl (.inr (.inr (by injection hj with hj; exact hj.symm))))⟩

set_option maxRecDepth 100000 in
set_option maxHeartbeats 1000000 in
theorem dwrite_any {w : World} {p L M : Nat} {D : Dv} (h : IsDev w p L M D) (hf : D.spent ≤ 1000000) (at_ : Int) {A : Option Addr} {l : List UInt8} (hr : Firm (DS p L M) w A l) (n c : Nat) (hn : l.length = n) : Calls Try.prog 30 #[ptr p, .int .i64 at_, .slice A n c] w fun e w' => e = .returned (.int .i64 (D.writeE at_ l)) ∧ IsDev w' p L M (D.write at_ l) ∧ Turn (DS p L M) w w' := by
  have hg := gone_any h
  subst hn
  by_cases hgone : D.gone = true
  · rw [hgone] at hg
    unfold Dv.write Dv.writeE
    rw [if_pos hgone, if_pos hgone]
    have H := Lib.hid h
    clear h hgone
    generalize l.length = n at *
    go_enter Try.func30, Try.ntmps30
    go_wp2_with (go_at_call 35; refine hg.mono ?_; rintro e w' ⟨rfl, hw⟩; replace hw := hw.symm; subst hw)
    go_ret
    exact ⟨rfl, H.out, Turn.refl _ _⟩
  · have hgf : D.gone = false := by cases hD : D.gone <;> simp_all
    rw [hgf] at hg
    have hh := has_any h at_
    have hwe : D.writeE at_ l = if D.has at_ && decide (l.length ≤ 64) then (if D.left = 0 then 11 else 0) else 1 := by unfold Dv.writeE; rw [if_neg hgone]
    have hw : D.write at_ l = if D.has at_ && decide (l.length ≤ 64) then (if D.left = 0 then D.die else D.more.put at_.toNat (Dv.pad l)) else D := by unfold Dv.write; rw [if_neg hgone]
    by_cases hat : D.has at_ = true ∧ l.length ≤ 64
    · have hb : (D.has at_ && decide (l.length ≤ 64)) = true := by rw [hat.1, decide_eq_true hat.2]; rfl
      rw [hb, if_pos rfl] at hwe hw
      obtain ⟨hat, hl64⟩ := hat
      rw [hat] at hh
      have hsp := spend_any h hf
      by_cases hleft : D.left = 0
      · have hse : spendE D = 11 := by unfold spendE; rw [if_pos hleft]
        have hsd : D.spend = D.die := by unfold Dv.spend; rw [if_pos hleft]
        rw [if_pos hleft] at hwe hw
        rw [hse, hsd] at hsp
        rw [hwe, hw]
        have hln : decide ((64 : Int) < (l.length : Int)) = false := decide_eq_false (by omega)
        clear h hgone hleft hse hsd hwe hw hb hat hl64 hf hgf
        generalize l.length = n at *
        go_enter Try.func30, Try.ntmps30
        go_wp2_with (first
          | (go_at_call 35; refine hg.mono ?_; rintro e w' ⟨rfl, hw⟩; replace hw := hw.symm; subst hw)
          | (go_at_call 51; refine hh.mono ?_; rintro e w' ⟨rfl, hw⟩; replace hw := hw.symm; subst hw)
          | (go_at_call 52; refine hsp.mono ?_; rintro e w1 ⟨rfl, hd1, ht1⟩; have HD1 := Lib.hid hd1; have HT1 := Lib.hid ht1; clear hd1 ht1))
        go_ret
        exact ⟨rfl, HD1.out, HT1.out.mono fun _ e => .inl e⟩
      · have hse : spendE D = 0 := by unfold spendE; rw [if_neg hleft]
        have hsd : D.spend = D.more := by unfold Dv.spend; rw [if_neg hleft]
        rw [if_neg hleft] at hwe hw
        rw [hse, hsd] at hsp
        rw [hwe, hw]
        have hln : decide ((64 : Int) < (l.length : Int)) = false := decide_eq_false (by omega)
        obtain ⟨hlt, h0, hi⟩ := Dv.has_lt hat
        generalize at_.toNat = i at *
        subst hi
        have hpad := Lib.hid (Dv.len_pad l hl64)
        have HR := Lib.hid hr
        have hbd : (i : Int) < 9223372036854775808 := by have := h.ok.top; omega
        have HLT := Lib.hid hlt
        have HF := Lib.hid hf
        have hB := Lib.hid h.cache
        have H0 := Lib.hid h
        have HL64 := Lib.hid hl64
        clear h hgone hleft hse hsd hwe hw hb hat hl64 hf hgf hr hlt h0
        generalize hnn : l.length = n at hg hh hsp hln HL64 ⊢
        have HN : Hid (l.length = n) := Lib.hid hnn
        clear hnn
        go_enter Try.func30, Try.ntmps30
        go_wp2_with (first
          | (go_at_call 35; refine hg.mono ?_; rintro e w' ⟨rfl, hw⟩; replace hw := hw.symm; subst hw)
          | (go_at_call 51; refine hh.mono ?_; rintro e w' ⟨rfl, hw⟩; replace hw := hw.symm; subst hw)
          | (go_at_call 52; refine hsp.mono ?_; rintro e w1 ⟨rfl, hd1, ht1⟩; have HD1 := Lib.hid hd1; have HT1 := Lib.hid ht1; clear hd1 ht1)
          | ((with_reducible refine wpList_alloc_zero (by rfl) 95 (by rfl) _ info_sec ?_))
          | (refine wpList_copy_sec rfl (.tmp 25) (.tmp 26) rfl (heap_alloc_new w1 _) (l := l) (HR.out _ (HT1.out.mono (fun _ e => .inl e) |>.alloc _)) n c HN.out HL64.out rfl rfl ?_))
        have hRY := ready_mk (old := Dv.zeros) HD1.out (hB.out.same (HT1.out.block M H0.out.lt.2.2 (Ne.symm H0.out.nm.2.1))) (Nat.le_refl _) (Nat.lt_of_le_of_lt HF.out (by omega)) HLT.out hpad.out
        generalize ((w1.alloc (.cells (secC Dv.zeros) 95)).setRow w1.heap.size (secC (Dv.pad l))) = W1 at *
        obtain ⟨hC1, hLd, w2, hrun, hg2, hd2, ht2⟩ := hRY
        have HRUN := Lib.hid hrun
        have HLd := Lib.hid hLd
        clear hLd
        have HG2 := Lib.hid hg2
        have HD2 := Lib.hid hd2
        have HT2 := Lib.hid ht2
        clear hrun hg2 hd2 ht2
        refine wp_region_turn (X := (· = M)) (by kernel_rfl) ?_
        have hS : Turn (· = M) W1 (World.drew W1) := (Turn.refl _ _).drew
        refine wpAnyH_take (i := 0) (oi := ⟨some 28, _, _, _, _, _⟩) (v := ?_) rfl (by kernel_rfl) (by kernel_rfl) (by kernel_rfl) (fun _ _ _ h => h) (Or.inl ⟨by rfl, ?_⟩) hS ?_
        rotate_left
        · intro W hW; go_simp; with_reducible rfl
        try simp only [Act.put, List.setIfInBounds_toArray, List.set_cons_zero, List.set_cons_succ]
        refine wpAnyH_take (i := 1) (oi := ⟨some 29, _, _, _, _, _⟩) (v := ?_) rfl (by kernel_rfl) (by kernel_rfl) (by kernel_rfl) (fun _ _ _ h => h) (Or.inl ⟨by rfl, ?_⟩) hS ?_
        rotate_left
        · intro W hW; go_simp; with_reducible rfl
        try simp only [Act.put, List.setIfInBounds_toArray, List.set_cons_zero, List.set_cons_succ]
        refine wpAnyH_take (i := 2) (oi := ⟨some 30, _, _, _, _, _⟩) (v := ?_) rfl (by kernel_rfl) (by kernel_rfl) (by kernel_rfl) (fun _ _ _ h => h) (Or.inl ⟨by rfl, ?_⟩) hS ?_
        rotate_left
        · intro W hW; go_simp; with_reducible rfl
        try simp only [Act.put, List.setIfInBounds_toArray, List.set_cons_zero, List.set_cons_succ]
        refine wpAnyH_take (i := 3) (oi := ⟨some 31, _, _, _, _, _⟩) (v := ?_) rfl (by kernel_rfl) (by kernel_rfl) (by kernel_rfl) (fun _ _ _ h => h) (Or.inl ⟨by rfl, ?_⟩) hS ?_
        rotate_left
        · intro W hW; go_simp; with_reducible rfl
        try simp only [Act.put, List.setIfInBounds_toArray, List.set_cons_zero, List.set_cons_succ]
        refine wpAnyH_take (i := 4) (oi := ⟨some 32, _, _, _, _, _⟩) (v := ?_) rfl (by kernel_rfl) (by kernel_rfl) (by kernel_rfl) (fun _ _ _ h => h) (Or.inl ⟨by rfl, ?_⟩) hS ?_
        rotate_left
        · intro W hW; go_simp; with_reducible rfl
        try simp only [Act.put, List.setIfInBounds_toArray, List.set_cons_zero, List.set_cons_succ]
        refine wpAnyH_take (i := 5) (oi := ⟨some 33, _, _, _, _, _⟩) (v := secV (Dv.pad l)) rfl (by kernel_rfl) (by kernel_rfl) (by kernel_rfl) (fun _ _ _ h => h) (Or.inl ⟨by rfl, fun W hW => exec_load rfl rfl (HLd.out W hW)⟩) hS ?_
        try simp only [Act.put, List.setIfInBounds_toArray, List.set_cons_zero, List.set_cons_succ]
        -- operation 6: a step
        refine wpAnyH_ready (rs := [6]) (by kernel_rfl) (by simp) ?_
        refine AllReadyH.cons (o := ⟨none, _, _, _, _, _⟩) rfl (fun Kr hKr => ?_) AllReadyH.nil
        have hrun := HRUN.out
        go_simp
        show Kr _ _
        refine hKr.out _ _ ?_ (fun _ => ?_)
        · exact Turn.trans hS (Turn.grown (Turn.refl _ _) HG2.out (fun j hj => .inl (by injection hj with hj; exact hj.symm)))
        clear hKr Kr
        refine wpAnyH_turn (Turn.trans hS (Turn.grown (Turn.refl _ _) HG2.out (fun j hj => .inl (by injection hj with hj; exact hj.symm)))) ?_
        clear hS
        have hS : Turn (· = M) w2 w2 := Turn.refl _ _
        try simp only [Act.put, List.setIfInBounds_toArray, List.set_cons_zero, List.set_cons_succ]
        refine wpAnyH_done (by kernel_rfl) ?_ _
        go_wp2_with fail
        go_ret
        exact ⟨rfl, HD2.out, (HT1.out.mono fun _ e => .inl e).trans HT2.out⟩
    · have hb : (D.has at_ && decide (l.length ≤ 64)) = false := by
        cases hD : D.has at_
        · rfl
        · exact decide_eq_false fun h2 => hat ⟨hD, h2⟩
      rw [hb] at hwe hw
      simp only [Bool.false_eq_true, if_false] at hwe hw
      rw [hwe, hw]
      have H := Lib.hid h
      cases hD : D.has at_
      · rw [hD] at hh
        clear h hgone hgf hb hat hwe hw hf
        generalize l.length = n at *
        go_enter Try.func30, Try.ntmps30
        go_wp2_with (first
          | (go_at_call 35; refine hg.mono ?_; rintro e w' ⟨rfl, hw⟩; replace hw := hw.symm; subst hw)
          | (go_at_call 51; refine hh.mono ?_; rintro e w' ⟨rfl, hw⟩; replace hw := hw.symm; subst hw))
        go_ret
        exact ⟨rfl, H.out, Turn.refl _ _⟩
      · rw [hD] at hh
        have hln : decide ((64 : Int) < (l.length : Int)) = true := decide_eq_true (by rw [hD] at hb; have := of_decide_eq_false hb; omega)
        clear h hgone hgf hb hat hwe hw hf
        generalize l.length = n at *
        go_enter Try.func30, Try.ntmps30
        go_wp2_with (first
          | (go_at_call 35; refine hg.mono ?_; rintro e w' ⟨rfl, hw⟩; replace hw := hw.symm; subst hw)
          | (go_at_call 51; refine hh.mono ?_; rintro e w' ⟨rfl, hw⟩; replace hw := hw.symm; subst hw))
        go_ret
        exact ⟨rfl, H.out, Turn.refl _ _⟩

end Go.Proofs.Ytojidejlohpeaaa

namespace Go.Proofs.Ytojidejlohpeaaa
set_option maxRecDepth 100000
open Go.RowKit Go.Maps

theorem Turn.toGrown {w w' : World} {g : Nat} (h : Turn (· = g) w w') : w.grownBy w' (some g) := ⟨h.os, h.tape, h.output, h.size, fun k hk hne => h.block k hk (fun e => hne (by rw [e]))⟩
theorem Turn.ofGrown {w w' : World} {g : Nat} (h : w.grownBy w' (some g)) : Turn (· = g) w w' := ⟨h.os, h.tape, h.output, h.size, fun k hk hne => h.block k hk (fun e => hne (by injection e))⟩
theorem Turn.ofNone {X : Nat → Prop} {w w' : World} (h : w.grownBy w' none) : Turn X w w' := ⟨h.os, h.tape, h.output, h.size, fun k hk _ => h.block k hk (by simp)⟩

/-- a sector in a new variable -/
theorem newsec_turn (X : Nat → Prop) (w : World) (old s : List UInt8) : Turn X w ((w.alloc (.cells (secC old) 95)).setRow w.heap.size (secC s)) := ((Turn.refl _ _).alloc _).setRow _ _ (.inr (Nat.le_refl _))
theorem secC_secs {s : List UInt8} (hs : s.length = 64) : secC s = secs 1 fun _ => s := by
  apply Array.ext_getElem?
  intro k
  rcases Nat.lt_or_ge k 64 with hk | hk
  · rw [get_secs _ _ _ (by omega), secC_get, Nat.mod_eq_of_lt hk, List.getD_eq_getElem?_getD, List.getElem?_eq_getElem (by omega)]
    rfl
  · rw [Array.getElem?_eq_none (by rw [size_secC hs]; exact hk), Array.getElem?_eq_none (by rw [size_secs]; omega)]
theorem newsec_load {X : Nat → Prop} {w : World} {old s : List UInt8} (hs : s.length = 64) (hx : ¬ X w.heap.size) : ∀ V, Turn X ((w.alloc (.cells (secC old) 95)).setRow w.heap.size (secC s)) V → (loadVar 95 ⟨w.heap.size, 0, none⟩).run Try.prog V = .ok (secV s) V := fun V hV => by
  have hg : ((w.alloc (.cells (secC old) 95)).setRow w.heap.size (secC s)).heap[w.heap.size]? = some (.cells (secC s) 95 (0, 0)) := setRow_heap _ _ _ _ _ _ (heap_alloc_new _ _)
  have hgV := (hV.block w.heap.size (lt_of_block hg) hx).trans hg
  rw [secC_secs hs] at hgV
  have := run_load_sec hgV 0 (by omega) hs
  simpa using this

/-- 'clear(d.cached)' -/
theorem wpList_clear {w : World} {ops : Array Oper} {rest : List Oper} {o : Oper} {a : Act} {Q : Exit → Act → World → Prop} (hgd : o.guard = none) (x : Operand) (ho : o.op = .call { callee := .builtin .clear, args := #[x], argTypes := #[88] })
    {M m : Nat} {late : Nat → Option (List UInt8)} (hx : a.eval x = .map (some M)) (hc : Cache w M m late)
    (h : ∀ w', Cache w' M 0 (fun _ => none) → w.grownBy w' (some M) → wpList Try.prog ops Q rest (a.put o.dst (.tuple #[])) w') : wpList Try.prog ops Q (o :: rest) a w := by
  refine wpList_plain hgd fun K hK => ?_
  obtain ⟨w', hrun, h1, h2⟩ := hc.clear o.type
  unfold Oper.wp
  simp [execOp, ho, resolve, invoke, builtin, hx, hrun, Result.andThen]
  exact hK _ _ (h w' h1 h2)

/-- what is laid down while those of which left holds are still to come -/
def mid (late : Nat → Option (List UInt8)) (laid : Nat → List UInt8) (left : Lit → Bool) (i : Nat) : List UInt8 := if left (keyL i) then laid i else (late i).getD (laid i)

theorem mid_step {late : Nat → Option (List UInt8)} {laid : Nat → List UInt8} {left : Lit → Bool} {i : Nat} {s : List UInt8} (hs : late i = some s) (j : Nat) :
    (if j = i then s else mid late laid left j) = mid late laid (fun z => left z && !z.sameKey (keyL i)) j := by
  unfold mid
  by_cases e : j = i
  · subst e
    show _ = if (left (keyL j) && !(keyL j).sameKey (keyL j)) = true then laid j else (late j).getD (laid j)
    rw [if_pos rfl, WideAt.sameKey_self (show WideAt.IsKeyLit (keyL j) from trivial), hs]
    simp
  · show _ = if (left (keyL j) && !(keyL j).sameKey (keyL i)) = true then laid j else (late j).getD (laid j)
    rw [if_neg e, sameKey_ne (keyL_ne e)]
    simp

/-- an entry that the map tells -/
theorem Reads.entry {D : DataW Unit} {late : Nat → Option (List UInt8)} (h : Reads D late) {x : Int} {c : List UInt8} {kl : Lit} {y : DataW Unit × List MemPlace} (hkey : keyOf Try.prog 3 (.int .i64 x) = some kl) (hv : secElem (secV c) = some y) (hat : ∀ zd, D.atKey kl zd = y.1) :
    ∃ i : Nat, x = (i : Int) ∧ kl = keyL i ∧ late i = some c ∧ c.length = 64 := by
  obtain ⟨x', ex, rfl, hwx⟩ := Maps.keyOf_int_inv Try.underlying3 hkey
  cases ex
  obtain ⟨s, hs, e1, e2⟩ := secElem_inv hv
  obtain rfl := secV_inj e1
  have hhas : Maps.has D (.int .i64 x) = true := has_true_of_atKey hat
  have hx0 : 0 ≤ x := by
    rcases Int.lt_or_le x 0 with h1 | h1
    · rw [h.neg x h1] at hhas; cases hhas
    · exact h1
  obtain ⟨i, rfl⟩ : ∃ i : Nat, x = (i : Int) := ⟨x.toNat, by omega⟩
  refine ⟨i, rfl, rfl, ?_, hs⟩
  have hh := h.has i
  rw [show Maps.has D (keyL i) = true from hhas] at hh
  obtain ⟨t, ht⟩ := Option.isSome_iff_exists.1 hh.symm
  have h2 := h.at_ i t ht .nil
  rw [show D.atKey (keyL i) .nil = y.1 from hat _, e2] at h2
  simp only [DataW.lit.injEq, Lit.string.injEq] at h2
  rw [ht, h2]

theorem invK : ∀ key kl, keyOf Try.prog 3 key = some kl → ∃ x, key = Value.int .i64 x := fun key kl h => by
  obtain ⟨x, rfl, _⟩ := Maps.keyOf_int_inv Try.underlying3 h
  exact ⟨x, rfl⟩
theorem invV : ∀ v (y : DataW Unit × List MemPlace), secElem v = some y → ∃ c, v = secV c := fun v y h => by
  obtain ⟨s, _, rfl, _⟩ := secElem_inv h
  exact ⟨s, rfl⟩

/-- between two rounds: nothing but the sectors has turned -/
structure Mid (w1 wr : World) (L M r m n : Nat) (Dd : DataW Unit) (late : Nat → Option (List UInt8)) (laid : Nat → List UInt8) (left : Lit → Bool) (cnt : Nat) : Prop where
  rg : wr.ranges Try.prog 3 secElem M r m Dd left cnt
  lD : wr.heap[L]? = some (.cells (secs n (mid late laid left)) 95 (0, 0))
  turn : Turn (· = L) w1 wr

/-- what the round's last region finds, and leaves -/
structure Lay (w1 W : World) (p L M r m n g i : Nat) (Dd : DataW Unit) (late : Nat → Option (List UInt8)) (laid : Nat → List UInt8) (left : Lit → Bool) (cnt : Nat) (s : List UInt8) : Prop where
  c0 : ∀ V, Turn (· = L) W V → V.cell? ⟨p, 0, none⟩ = some (.slice (some ⟨L, 0, none⟩) n n)
  ld : ∀ V, Turn (· = L) W V → (loadVar 95 ⟨g, 0, none⟩).run Try.prog V = .ok (secV s) V
  lD : W.drew.heap[L]? = some (.cells (secs n (mid late laid left)) 95 (0, 0))
  turn : Turn (· = L) W (W.drew.setRow L (secs n fun j => if j = i then s else mid late laid left j))
  next : Mid w1 (W.drew.setRow L (secs n fun j => if j = i then s else mid late laid left j)) L M r m n Dd late laid (fun z => left z && !z.sameKey (keyL i)) cnt

theorem lay_mk {w1 wr W : World} {p L M r m n i : Nat} {Dd : DataW Unit} {late : Nat → Option (List UInt8)} {laid : Nat → List UInt8} {left : Lit → Bool} {cnt cnt2 : Nat} {s old : List UInt8} (h : Mid w1 wr L M r m n Dd late laid left cnt)
    (hr : w1.heap.size ≤ r) (hL : L < w1.heap.size) (hML : L ≠ M) (c0 : w1.cell? ⟨p, 0, none⟩ = some (.slice (some ⟨L, 0, none⟩) n n)) (hpL : p ≠ L)
    (hrg : W.ranges Try.prog 3 secElem M r m Dd (fun z => left z && !z.sameKey (keyL i)) cnt2) (hg : wr.grownBy W (some r)) (hs : s.length = 64) (hi : late i = some s) :
    Lay w1 ((W.alloc (.cells (secC old) 95)).setRow W.heap.size (secC s)) p L M r m n W.heap.size i Dd late laid left cnt2 s := by
  have hLw : L < wr.heap.size := Nat.lt_of_lt_of_le hL h.turn.size
  have hT2 : Turn (fun _ => False) W ((W.alloc (.cells (secC old) 95)).setRow W.heap.size (secC s)) := newsec_turn _ _ _ _
  have hb1 : W.heap[L]? = some (.cells (secs n (mid late laid left)) 95 (0, 0)) := (hg.block L hLw (fun e => by injection e with e; omega)).trans h.lD
  have hb2 : ((W.alloc (.cells (secC old) 95)).setRow W.heap.size (secC s)).heap[L]? = some (.cells (secs n (mid late laid left)) 95 (0, 0)) := (hT2.block L (lt_of_block hb1) (fun h => h)).trans hb1
  have hT1 : Turn (· = L) w1 W := h.turn.grown hg (fun j hj => .inr (by injection hj with hj; omega))
  have hT : Turn (· = L) w1 ((W.alloc (.cells (secC old) 95)).setRow W.heap.size (secC s)) := hT1.trans (hT2.mono fun _ h => h.elim)
  have hT3 : Turn (· = L) ((W.alloc (.cells (secC old) 95)).setRow W.heap.size (secC s)) (((W.alloc (.cells (secC old) 95)).setRow W.heap.size (secC s)).drew.setRow L (secs n fun j => if j = i then s else mid late laid left j)) := (Turn.refl _ _).drew.setRow _ _ (.inl rfl)
  refine ⟨fun V hV => (hT.trans hV).cell c0 hpL, newsec_load hs (fun e => by have e' : W.heap.size = L := e; have := lt_of_block hb1; omega), hb2, hT3, ?_, ?_, hT.trans hT3⟩
  · exact hrg.kept (row := some L) ((hT2.mono fun _ h => h.elim).trans hT3).toGrown (fun e => hML (by injection e with e; exact e.symm)) (fun e => by injection e with e; omega)
  · have hb3 : ((W.alloc (.cells (secC old) 95)).setRow W.heap.size (secC s)).drew.heap[L]? = some (.cells (secs n (mid late laid left)) 95 (0, 0)) := hb2
    rw [setRow_heap _ _ _ _ _ _ hb3, secs_eq n _ _ fun j _ => mid_step hi j]

theorem mid_end {w1 wr : World} {L M r m n : Nat} {D : Dv} {Dd : DataW Unit} {left : Lit → Bool} {cnt : Nat} (h : Mid w1 wr L M r m n Dd D.late D.laid left cnt) (hl : ∀ kl, left kl = false) (hR : Reads Dd D.late) :
    Cache wr M m D.late ∧ wr.heap[L]? = some (.cells (secs n D.settle.laid) 95 (0, 0)) := by
  refine ⟨⟨Dd, h.rg.owns, hR⟩, ?_⟩
  rw [h.lD, secs_eq n _ D.settle.laid fun j _ => by unfold mid; rw [hl]; rfl]

theorem mid_start {w1 w0 : World} {p L M : Nat} {D : Dv} {Dd : DataW Unit} (h : IsDev w1 p L M D) (hR : Reads Dd D.late) (hrg : w0.ranges Try.prog 3 secElem M w1.heap.size D.spent Dd (Maps.has Dd) (Maps.size Dd)) (hg : w1.grownBy w0 none) :
    Mid w1 w0 L M w1.heap.size D.spent D.n Dd D.late D.laid (Maps.has Dd) (Maps.size Dd) := by
  refine ⟨hrg, ?_, Turn.ofNone hg⟩
  rw [hg.block L h.lt.2.1 (by simp), h.laid, secs_eq D.n D.laid _ fun j _ => ?_]
  unfold mid
  rw [hR.has j]
  cases D.late j <;> rfl

/-- the flush's end -/
theorem flush_end {w1 wr w3 : World} {p L M r m : Nat} {D : Dv} {Dd : DataW Unit} {left : Lit → Bool} {cnt : Nat} (h : IsDev w1 p L M D) (hm : Mid w1 wr L M r m D.n Dd D.late D.laid left cnt) (hl : ∀ kl, left kl = false) (hR : Reads Dd D.late)
    (hc : Cache w3 M 0 fun _ => none) (hg : wr.grownBy w3 (some M)) : IsDev w3 p L M D.settle ∧ Turn (DS p L M) w1 w3 := by
  have hb := h.lt
  have nm := h.nm
  obtain ⟨_, hL⟩ := mid_end hm hl hR
  obtain ⟨ok, ne, ⟨c, h1, h2, h3⟩, h4, h5⟩ := h
  have hp3 : w3.heap[p]? = w1.heap[p]? := (hg.block p (Nat.lt_of_lt_of_le hb.1 hm.turn.size) (fun e => nm.2.1 (by injection e))).trans (hm.turn.block p hb.1 nm.1)
  have hL3 : w3.heap[L]? = wr.heap[L]? := hg.block L (lt_of_block hL) (fun e => nm.2.2 (by injection e))
  exact ⟨⟨ok.settle, ne, ⟨c, h1, h2, hp3.trans h3⟩, hL3.trans hL, hc.mono (Nat.zero_le _)⟩, (hm.turn.mono fun _ e => .inr (.inl e)).grown hg (fun j hj => .inl (.inr (.inr (by injection hj with hj; exact hj.symm))))⟩

set_option maxRecDepth 100000 in
set_option maxHeartbeats 1000000 in
theorem flush_any {w : World} {p L M : Nat} {D : Dv} (h : IsDev w p L M D) (hf : D.spent ≤ 1000000) : Calls Try.prog 32 #[ptr p] w fun e w' => e = .returned (.int .i64 D.flushE) ∧ IsDev w' p L M D.flush ∧ Turn (DS p L M) w w' := by
  have hg := gone_any h
  by_cases hgone : D.gone = true
  · rw [hgone] at hg
    unfold Dv.flush Dv.flushE
    rw [if_pos hgone, if_pos hgone]
    have H := Lib.hid h
    clear h hgone
    go_enter Try.func32, Try.ntmps32
    go_wp2_with (go_at_call 35; refine hg.mono ?_; rintro e w' ⟨rfl, hw⟩; replace hw := hw.symm; subst hw)
    go_ret
    exact ⟨rfl, H.out, Turn.refl _ _⟩
  · have hgf : D.gone = false := by cases hD : D.gone <;> simp_all
    rw [hgf] at hg
    have hwe : D.flushE = if D.left = 0 then 11 else 0 := by unfold Dv.flushE; rw [if_neg hgone]
    have hw : D.flush = if D.left = 0 then D.die else D.more.settle := by unfold Dv.flush; rw [if_neg hgone]
    have hsp := spend_any h hf
    by_cases hleft : D.left = 0
    · have hse : spendE D = 11 := by unfold spendE; rw [if_pos hleft]
      have hsd : D.spend = D.die := by unfold Dv.spend; rw [if_pos hleft]
      rw [if_pos hleft] at hwe hw
      rw [hse, hsd] at hsp
      rw [hwe, hw]
      clear h hgone hleft hse hsd hwe hw hf hgf
      go_enter Try.func32, Try.ntmps32
      go_wp2_with (first
        | (go_at_call 35; refine hg.mono ?_; rintro e w' ⟨rfl, hw⟩; replace hw := hw.symm; subst hw)
        | (go_at_call 52; refine hsp.mono ?_; rintro e w1 ⟨rfl, hd1, ht1⟩; have HD1 := Lib.hid hd1; have HT1 := Lib.hid ht1; clear hd1 ht1))
      go_ret
      exact ⟨rfl, HD1.out, HT1.out.mono fun _ e => .inl e⟩
    · have hse : spendE D = 0 := by unfold spendE; rw [if_neg hleft]
      have hsd : D.spend = D.more := by unfold Dv.spend; rw [if_neg hleft]
      rw [if_neg hleft] at hwe hw
      rw [hse, hsd] at hsp
      rw [hwe, hw]
      clear h hgone hleft hse hsd hwe hw hf hgf
      generalize D.more = E at hsp ⊢
      go_enter Try.func32, Try.ntmps32
      go_wp2_with (first
        | (go_at_call 35; refine hg.mono ?_; rintro e w' ⟨rfl, hw⟩; replace hw := hw.symm; subst hw)
        | (go_at_call 52; refine hsp.mono ?_; rintro e w1 ⟨rfl, hd1, ht1⟩; obtain ⟨Dd, hown, hR⟩ := hd1.cache; have c1 := hd1.c1; have HO := Lib.hid hown; have HR := Lib.hid hR; have HD1 := Lib.hid hd1; have HT1 := Lib.hid ht1; clear hd1 ht1 hown hR)
        | (at_range; refine wpList_range_own _ rfl _ 88 rfl 3 95 lawK Try.underlying88 secElem M E.spent Dd rfl HO.out ?_; intro w0 hrg0 hg0 hs0; have HM : Hid (Mid w1 w0 L M w1.heap.size E.spent E.n Dd E.late E.laid (Maps.has Dd) (Maps.size Dd)) := Lib.hid (mid_start HD1.out HR.out hrg0 hg0); clear hrg0 hg0 hs0))
      go_frame
      go_loopw [4] (fun _ wr => ∃ left cnt, Hid (Mid w1 wr L M w1.heap.size E.spent E.n Dd E.late E.laid left cnt)) (fun _ wr => wr.rangeLeft M w1.heap.size)
      case atStart => exact ⟨_, _, HM.out⟩
      case round =>
        obtain ⟨left, cnt, HM2⟩ := hrel
        have d1 := HM2.out.turn.cell c1 (a := ⟨p, 1, none⟩) HD1.out.nm.1
        clear HM
        go_wp2_with (at_next; refine wpList_next_ranges _ rfl _ rfl 3 lawK secElem (Value.int .i64) secV invK invV M w1.heap.size E.spent _ _ _ rfl HM2.out.rg ?_ ?_)
        · intro hc0 hl0
          have HL0 := Lib.hid hl0
          have HCE := Lib.hid (mid_end HM2.out hl0 HR.out).1
          clear hc0 hl0
          go_wp2_with (refine wpList_clear rfl (.tmp 33) rfl rfl HCE.out ?_; intro w3 hc3 hg3; have HE := Lib.hid (flush_end HD1.out HM2.out HL0.out HR.out hc3 hg3); clear hc3 hg3)
          go_ret
          exact ⟨rfl, HE.out.1, (HT1.out.mono fun _ e => .inl e).trans HE.out.2⟩
        intro x c kl yd yp w2 cnt2 hkey hlk hv hat hrg2 hlt hg2 hs2 hen
        obtain ⟨i, rfl, rfl, hi, hs⟩ := HR.out.entry hkey hv hat
        have hin := HD1.out.ok.inn i c hi
        have HLY := Lib.hid (lay_mk (old := Dv.zeros) HM2.out (Nat.le_refl _) HD1.out.lt.2.1 HD1.out.nm.2.2 HD1.out.c0 HD1.out.nm.1 hrg2 hg2 hs hi)
        have HLT := Lib.hid hlt
        have HLE := Lib.hid HM2.out.rg.left_eq
        clear hkey hlk hv hat hrg2 hlt hg2 hs2 hi
        go_wp2_with (first
          | ((with_reducible refine wpList_alloc_zero (by rfl) 95 (by rfl) _ info_sec ?_))
          | (refine wpList_store_row rfl 95 (.tmp 5) (.tmp 22) rfl w2.heap.size (secC c) rfl rfl _ _ (heap_alloc_new _ _) (by rw [size_secC hs]; exact info_size) (by rw [size_secC hs, size_secC Dv.len_zeros]) (secC_one _) ?_; generalize ((w2.alloc (.cells (secC Dv.zeros) 95)).setRow w2.heap.size (secC c)) = W1 at *))
        have hC0 := HLY.out.c0
        refine wp_region_turn (X := (· = L)) (by kernel_rfl) ?_
        have hS : Turn (· = L) W1 (World.drew W1) := (Turn.refl _ _).drew
        refine wpAnyH_take (i := 0) (oi := ⟨some 23, _, _, _, _, _⟩) (v := ?_) rfl (by kernel_rfl) (by kernel_rfl) (by kernel_rfl) (fun _ _ _ h => h) (Or.inl ⟨by rfl, ?_⟩) hS ?_
        rotate_left
        · intro W hW; go_simp; with_reducible rfl
        try simp only [Act.put, List.setIfInBounds_toArray, List.set_cons_zero, List.set_cons_succ]
        refine wpAnyH_take (i := 1) (oi := ⟨some 24, _, _, _, _, _⟩) (v := ?_) rfl (by kernel_rfl) (by kernel_rfl) (by kernel_rfl) (fun _ _ _ h => h) (Or.inl ⟨by rfl, ?_⟩) hS ?_
        rotate_left
        · intro W hW; go_simp; with_reducible rfl
        try simp only [Act.put, List.setIfInBounds_toArray, List.set_cons_zero, List.set_cons_succ]
        refine wpAnyH_take (i := 2) (oi := ⟨some 25, _, _, _, _, _⟩) (v := ?_) rfl (by kernel_rfl) (by kernel_rfl) (by kernel_rfl) (fun _ _ _ h => h) (Or.inl ⟨by rfl, ?_⟩) hS ?_
        rotate_left
        · intro W hW; go_simp; with_reducible rfl
        try simp only [Act.put, List.setIfInBounds_toArray, List.set_cons_zero, List.set_cons_succ]
        refine wpAnyH_take (i := 3) (oi := ⟨some 26, _, _, _, _, _⟩) (v := ?_) rfl (by kernel_rfl) (by kernel_rfl) (by kernel_rfl) (fun _ _ _ h => h) (Or.inl ⟨by rfl, ?_⟩) hS ?_
        rotate_left
        · intro W hW; go_simp; with_reducible rfl
        try simp only [Act.put, List.setIfInBounds_toArray, List.set_cons_zero, List.set_cons_succ]
        refine wpAnyH_take (i := 4) (oi := ⟨some 27, _, _, _, _, _⟩) (v := ?_) rfl (by kernel_rfl) (by kernel_rfl) (by kernel_rfl) (fun _ _ _ h => h) (Or.inl ⟨by rfl, ?_⟩) hS ?_
        rotate_left
        · intro W hW; go_simp; with_reducible rfl
        try simp only [Act.put, List.setIfInBounds_toArray, List.set_cons_zero, List.set_cons_succ]
        refine wpAnyH_take (i := 5) (oi := ⟨some 28, _, _, _, _, _⟩) (v := secV c) rfl (by kernel_rfl) (by kernel_rfl) (by kernel_rfl) (fun _ _ _ h => h) (Or.inl ⟨by rfl, fun W hW => exec_load rfl rfl (HLY.out.ld W hW)⟩) hS ?_
        try simp only [Act.put, List.setIfInBounds_toArray, List.set_cons_zero, List.set_cons_succ]
        refine wpAnyH_take (i := 6) (oi := ⟨some 29, _, _, _, _, _⟩) (v := ?_) rfl (by kernel_rfl) (by kernel_rfl) (by kernel_rfl) (fun _ _ _ h => h) (Or.inl ⟨by rfl, ?_⟩) hS ?_
        rotate_left
        · intro W hW; go_simp; with_reducible rfl
        try simp only [Act.put, List.setIfInBounds_toArray, List.set_cons_zero, List.set_cons_succ]
        -- operation 7: a step
        refine wpAnyH_ready (rs := [7]) (by kernel_rfl) (by simp) ?_
        refine AllReadyH.cons (o := ⟨none, _, _, _, _, _⟩) rfl (fun Kr hKr => ?_) AllReadyH.nil
        rw [if_pos (by kernel_rfl)]
        refine wp_store_sec (.tmp 29) (.tmp 28) rfl rfl rfl HLY.out.lD hin hs ?_
        show Kr _ _
        refine hKr.out _ _ ?_ (fun _ => ?_)
        · exact Turn.trans hS ((Turn.refl (· = L) W1.drew).setRow L (secs E.n fun j => if j = i then c else mid E.late E.laid left j) (.inl rfl))
        clear hKr Kr
        refine wpAnyH_turn (Turn.trans hS ((Turn.refl (· = L) W1.drew).setRow L (secs E.n fun j => if j = i then c else mid E.late E.laid left j) (.inl rfl))) ?_
        clear hS
        have hS : Turn (· = L) (W1.drew.setRow L (secs E.n fun j => if j = i then c else mid E.late E.laid left j)) (W1.drew.setRow L (secs E.n fun j => if j = i then c else mid E.late E.laid left j)) := Turn.refl _ _
        try simp only [Act.put]
        refine wpAnyH_done (by kernel_rfl) ?_ _
        go_wp2_with fail
        refine ⟨⟨_, _, Lib.hid HLY.out.next⟩, ?_⟩
        rw [HLY.out.next.rg.left_eq, HLE.out]
        exact HLT.out

end Go.Proofs.Ytojidejlohpeaaa

namespace Go.Proofs
open Go.Shelf
def Try.lays189_ren : Go.Shelf.Ren := ⟨fun | 189 => 63 | 125 => 72 | 257 => 71 | 128 => 85 | 129 => 86 | 294 => 76 | 295 => 77 | 296 => 78 | 297 => 79 | 298 => 80 | 299 => 81 | 216 => 82 | 300 => 83 | 301 => 84 | 328 => 89 | 329 => 90 | 330 => 91 | 331 => 92 | 332 => 93 | 215 => 94 | 343 => 96 | n => n, fun | 28 => 64 | 3 => 3 | 46 => 62 | 0 => 0 | 51 => 102 | 53 => 77 | 4 => 4 | 183 => 120 | 182 => 119 | 131 => 124 | 5 => 5 | 9 => 9 | 218 => 130 | 222 => 73 | 228 => 135 | 229 => 136 | n => n, fun | n => n⟩
theorem Try.lays189 : Go.Proofs.Lays.n189 Try.prog Try.lays189_ren := {
  mixed := by kernel_rfl
  f125 := Try.func72.trans (congrArg some (by kernel_rfl))
  f128 := Try.func85.trans (congrArg some (by kernel_rfl))
  f129 := Try.func86.trans (congrArg some (by kernel_rfl))
  f189 := Try.func63.trans (congrArg some (by kernel_rfl))
  f215 := Try.func94.trans (congrArg some (by kernel_rfl))
  f216 := Try.func82.trans (congrArg some (by kernel_rfl))
  f257 := Try.func71.trans (congrArg some (by kernel_rfl))
  f294 := Try.func76.trans (congrArg some (by kernel_rfl))
  f295 := Try.func77.trans (congrArg some (by kernel_rfl))
  f296 := Try.func78.trans (congrArg some (by kernel_rfl))
  f297 := Try.func79.trans (congrArg some (by kernel_rfl))
  f298 := Try.func80.trans (congrArg some (by kernel_rfl))
  f299 := Try.func81.trans (congrArg some (by kernel_rfl))
  f300 := Try.func83.trans (congrArg some (by kernel_rfl))
  f301 := Try.func84.trans (congrArg some (by kernel_rfl))
  f328 := Try.func89.trans (congrArg some (by kernel_rfl))
  f329 := Try.func90.trans (congrArg some (by kernel_rfl))
  f330 := Try.func91.trans (congrArg some (by kernel_rfl))
  f331 := Try.func92.trans (congrArg some (by kernel_rfl))
  f332 := Try.func93.trans (congrArg some (by kernel_rfl))
  f343 := Try.func96.trans (congrArg some (by kernel_rfl))
  t0 := Try.underlying0
  a0 := Try.isAgg0
  z0 := Try.sizeOf0
  v0 := Try.zeroValue0
  t3 := Try.underlying3
  a3 := Try.isAgg3
  z3 := Try.sizeOf3
  v3 := Try.zeroValue3
  t4 := Try.underlying4
  a4 := Try.isAgg4
  z4 := Try.sizeOf4
  v4 := Try.zeroValue4
  t5 := Try.underlying5
  a5 := Try.isAgg5
  z5 := Try.sizeOf5
  v5 := Try.zeroValue5
  t9 := Try.underlying9
  a9 := Try.isAgg9
  z9 := Try.sizeOf9
  v9 := Try.zeroValue9
  t28 := Try.underlying64
  a28 := Try.isAgg64
  z28 := Try.sizeOf64
  v28 := Try.zeroValue64
  t46 := Try.underlying62
  a46 := Try.isAgg62
  z46 := Try.sizeOf62
  v46 := Try.zeroValue62
  t51 := Try.underlying102
  a51 := Try.isAgg102
  z51 := Try.sizeOf102
  v51 := Try.zeroValue102
  t53 := Try.underlying77
  a53 := Try.isAgg77
  z53 := Try.sizeOf77
  v53 := Try.zeroValue77
  t131 := Try.underlying124
  a131 := Try.isAgg124
  z131 := Try.sizeOf124
  v131 := Try.zeroValue124
  t182 := Try.underlying119
  a182 := Try.isAgg119
  z182 := Try.sizeOf119
  v182 := Try.zeroValue119
  t183 := Try.underlying120
  a183 := Try.isAgg120
  z183 := Try.sizeOf120
  v183 := Try.zeroValue120
  t218 := Try.underlying130
  a218 := Try.isAgg130
  z218 := Try.sizeOf130
  v218 := Try.zeroValue130
  t222 := Try.underlying73
  a222 := Try.isAgg73
  z222 := Try.sizeOf73
  v222 := Try.zeroValue73
  t228 := Try.underlying135
  a228 := Try.isAgg135
  z228 := Try.sizeOf135
  v228 := Try.zeroValue135
  t229 := Try.underlying136
  a229 := Try.isAgg136
  z229 := Try.sizeOf136
  v229 := Try.zeroValue136 }
end Go.Proofs

namespace Go.Proofs.Ytojidejlohpeaaa
set_option maxRecDepth 100000
open Go.RowKit Go.Sort

theorem sort_any (blk off cap : Nat) (zs : List Int) (w : World) (hH : Holds (Value.int .i64) w blk off zs.toArray) (hblk : blk < w.heap.size) (hsz : zs.length < 4611686018427387904) :
    Calls Try.prog 63 #[.slice (some ⟨blk, off, none⟩) zs.length cap] w fun e w' =>
      e = .returned (.tuple #[]) ∧ ∃ n os, w' = grow (putRow (Value.int .i64) (Sort.ahead w n) blk off (zs.mergeSort fun x y => decide (x ≤ y)).toArray) os :=
  Any.slices_Sort_int Try.lays189 blk off cap zs w hH hblk hsz

end Go.Proofs.Ytojidejlohpeaaa

namespace Go.Proofs.Ytojidejlohpeaaa
set_option maxRecDepth 100000
open Go.RowKit Go.Maps Go.Sort

/-- numbers of sectors, as Go has them -/
def natI (l : List Nat) : List Int := l.map fun (i : Nat) => (i : Int)
def natV (l : List Nat) : List Value := l.map fun (i : Nat) => Value.int .i64 (i : Int)
theorem natV_eq (l : List Nat) : (natI l).map (Value.int .i64) = natV l := by simp [natI, natV]

/-- what was collected: no sector twice; a sector is on the list just where it is cached and no longer to come -/
def Coll (late : Nat → Option (List UInt8)) (left : Lit → Bool) (l : List Nat) : Prop := l.Nodup ∧ ∀ i, i ∈ l ↔ ((late i).isSome = true ∧ left (keyL i) = false)

theorem Coll.start {D : DataW Unit} {late : Nat → Option (List UInt8)} (h : Reads D late) : Coll late (Maps.has D) [] := ⟨List.nodup_nil, fun i => by rw [h.has i]; cases late i <;> simp⟩
theorem Coll.step {late : Nat → Option (List UInt8)} {left : Lit → Bool} {l : List Nat} (h : Coll late left l) {i : Nat} {s : List UInt8} (hi : late i = some s) (hl : left (keyL i) = true) : Coll late (fun z => left z && !z.sameKey (keyL i)) (l ++ [i]) := by
  have hnew : i ∉ l := fun hx => by have := ((h.2 i).1 hx).2; rw [hl] at this; cases this
  refine ⟨List.nodup_append.2 ⟨h.1, by simp, fun a ha b hb => by simp at hb; subst hb; exact fun e => hnew (e ▸ ha)⟩, fun j => ?_⟩
  show _ ↔ ((late j).isSome = true ∧ (left (keyL j) && !(keyL j).sameKey (keyL i)) = false)
  by_cases e : j = i
  · subst e
    rw [hi, WideAt.sameKey_self (show WideAt.IsKeyLit (keyL j) from trivial)]
    simp
  · rw [sameKey_ne (keyL_ne e)]
    simp [h.2 j, e]

theorem Coll.sorted {D : Dv} {left : Lit → Bool} {l : List Nat} (h : Coll D.late left l) (ok : D.Ok) (hl : ∀ kl, left kl = false) : ((natI l).mergeSort fun x y => decide (x ≤ y)) = natI D.keys := by
  have hp : (natI l).Perm (natI D.keys) := List.Perm.map _ ((List.perm_ext_iff_of_nodup h.1 D.keys_nodup).2 fun i => by
    rw [h.2 i, Dv.mem_keys, hl]
    constructor
    · intro ⟨h1, _⟩
      obtain ⟨s, hs⟩ := Option.isSome_iff_exists.1 h1
      exact ⟨ok.inn i s hs, h1⟩
    · intro ⟨_, h1⟩
      exact ⟨h1, rfl⟩)
  have tr : ∀ a b c : Int, (decide (a ≤ b)) = true → (decide (b ≤ c)) = true → (decide (a ≤ c)) = true := fun a b c h1 h2 => by simp only [decide_eq_true_eq] at *; omega
  have to : ∀ a b : Int, (decide (a ≤ b) || decide (b ≤ a)) = true := fun a b => by simp only [Bool.or_eq_true, decide_eq_true_eq]; omega
  refine List.Perm.eq_of_pairwise (le := fun a b => decide (a ≤ b) = true) (fun a b _ _ h1 h2 => ?_) (List.pairwise_mergeSort tr to (natI l)) ?_ ((List.mergeSort_perm (natI l) _).trans hp)
  · simp only [decide_eq_true_eq] at h1 h2
    omega
  · unfold natI
    rw [List.pairwise_map]
    exact D.keys_sorted.imp fun {a b} hab => by simp only [decide_eq_true_eq]; omega

/-- 'Cached' has answered the list in new memory -/
def Listed (w : World) (l : List Nat) (e : Ending) (w' : World) : Prop :=
  ∃ A n cap, e = .returned (.slice A n cap) ∧ n = l.length ∧ w'.ownsRow w.heap.size 3 1 (.slice A n cap) n (natV l) ∧ Below w.heap.size w w'

theorem int_facts : (Try.prog.info? 3).map (fun i => (i.zero, i.size, i.bytes)) = some (some (.int .i64 0), 1, 8) := by kernel_rfl

theorem cached_nil (w : World) : Calls Try.prog 49 #[.pointer none] w (Listed w []) := by
  go_enter Try.func49, Try.ntmps49
  go_wp2_with (go_at_call 48; refine (made_nil w).mono ?_; rintro e w' ⟨rfl, hw⟩; replace hw := hw.symm; subst hw)
  go_ret
  exact ⟨none, 0, 0, rfl, rfl, World.ownsRow_nil _ _ _ _, Below.refl _ _⟩

set_option maxRecDepth 100000 in
set_option maxHeartbeats 1000000 in
theorem cached_any {w : World} {p L M : Nat} {D : Dv} (h : IsDev w p L M D) (hf : D.spent ≤ 1000001) : Calls Try.prog 49 #[ptr p] w (Listed w D.keys) := by
  obtain ⟨i0, hi, hz0, hz1, hz2⟩ := info_parts int_facts
  have hm := made_any h
  have c1 := h.c1
  obtain ⟨Dd, hown, hR⟩ := h.cache
  have hml := h.lt.2.2
  have HR := Lib.hid hR
  have H := Lib.hid h
  have hsz : Maps.size Dd ≤ D.spent := hown.size_le
  have hmax : Maps.size Dd ≤ maxLen := by unfold maxLen; omega
  have hbytes : i0.bytes * Maps.size Dd ≤ 281474976710656 := by rw [hz2]; omega
  have hsz2 : Maps.size Dd ≤ 1000001 := by omega
  have HSZ := Lib.hid hsz2
  clear h hR hsz hf hsz2
  go_enter Try.func49, Try.ntmps49
  go_wp2_with (first
    | (go_at_call 48; refine hm.mono ?_; rintro e w' ⟨rfl, hw⟩; replace hw := hw.symm; subst hw)
    | (at_len; refine wpList_len_own _ rfl _ 88 rfl 3 95 Try.underlying88 _ M D.spent _ rfl hown ?_)
    | (at_make; refine wpList_make_own _ rfl _ _ 64 rfl w.heap.size 3 i0 (.int .i64 0) 1 Try.underlying64 hi hz0 hz1 _ _ _ (Maps.size Dd) rfl rfl rfl hbytes hmax (Nat.le_refl _) ?_; intro w1 hrow1 hg1; have c1' := hg1.cell c1 (by simp); have HROW1 := Lib.hid hrow1; have HG1 := Lib.hid hg1; clear hrow1 hg1)
    | (at_range; refine wpList_range_own _ rfl _ 88 rfl 3 95 lawK Try.underlying88 _ M D.spent _ rfl (hown.kept HG1.out (by simp)) ?_; intro w0 hrg0 hg0 hs0; have HRG0 := Lib.hid hrg0; have HG0 := Lib.hid hg0; clear hrg0 hg0 hs0))
  go_frame
  have HB := Lib.hid hbytes
  have HMX := Lib.hid hmax
  clear hbytes hmax
  go_loopw [3] (fun v wr => ∃ (left : Lit → Bool) (cnt : Nat) (ss : List Nat), Hid (wr.ranges Try.prog 3 secElem M w1.heap.size D.spent Dd left cnt) ∧ Hid (ss.length + cnt ≤ Maps.size Dd) ∧
      Hid (wr.ownsRow w.heap.size 3 1 v ss.length (natV ss)) ∧ Hid (v ≠ .slice none 0 0) ∧ Hid (Coll D.late left ss) ∧ Hid (Below w.heap.size w wr))
    (fun _ wr => wr.rangeLeft M w1.heap.size)
  case atStart =>
    exact ⟨_, _, [], HRG0, by simp [Hid], HROW1.out.kept HG0.out (Or.inr (by simp [Value.ownBlock])), by simp [Hid], Coll.start HR.out,
      ((Below.refl _ _).grown HG1.out (Nat.le_refl _) (fun j hj => by cases hj)).grown HG0.out HG1.out.size (fun j hj => by cases hj)⟩
  case round =>
    obtain ⟨left, cnt, ss, hrg, hcs, hrow, hnn, hC, hnx⟩ := hrel
    go_wp2_with (at_next; refine wpList_next_ranges _ rfl _ rfl 3 lawK secElem (Value.int .i64) secV invK invV M w1.heap.size D.spent _ _ _ rfl hrg.out ?_ ?_)
    · intro hc0 hl0
      have HL0 := Lib.hid hl0
      clear hl0 hc0
      rcases hrow.out.2 with ⟨hnil, _⟩ | ⟨g, cap, cur, rfl, hbase, hb, h1, h2, h3, h4⟩
      · exact absurd hnil hnn.out
      have hH : Holds (Value.int .i64) wr g 0 (natI ss).toArray := holds_of_blockI hb (by rw [natV_eq]; simpa [natI] using h4)
      have hgl : g < wr.heap.size := (Array.getElem?_eq_some_iff.1 hb).1
      have hln : (natI ss).length = ss.length := by simp [natI]
      have hc := sort_any g 0 cap (natI ss) wr hH hgl (by rw [hln]; have := hcs.out; have := HSZ.out; omega)
      rw [hln] at hc
      have HC := Lib.hid hc
      have HBK := Lib.hid (show _ ∧ _ ∧ _ ∧ _ ∧ _ from ⟨hbase, hb, h1, h2, h3⟩)
      clear hc hH hgl hln hbase hb h1 h2 h3 h4
      go_wp2_with (go_at_call 63; refine HC.out.mono ?_; rintro e w' ⟨rfl, nn, os, rfl⟩)
      go_ret
      obtain ⟨hbase, hb, h1, h2, h3⟩ := HBK.out
      have es := hC.out.sorted H.out.ok HL0.out
      rw [es]
      have el : (natI D.keys).length = ss.length := by rw [← es, List.length_mergeSort]; simp [natI]
      have hr2 := ownsRow_sortedI (n := nn) (os := os) (ss := natI ss) (ts := natI D.keys) (by rw [el]; simp [natI]) hbase hb (by simpa [natI] using h1) h2 h3
      have el2 : D.keys.length = ss.length := by rw [← el]; simp [natI]
      rw [natV_eq] at hr2
      refine ⟨_, ss.length, cap, rfl, el2.symm, by simpa [natI] using hr2, hnx.out.grown (grownBy_sortedI _) hnx.out.size (fun j hj => by cases hj; exact hbase)⟩
    · intro x c kl yd yp w2 cnt2 hkey hlk hv hat hrg2 hlt hg2 hs2 hen
      obtain ⟨i, rfl, rfl, hil, hs⟩ := HR.out.entry hkey hv hat
      have hrow2 := hrow.out.kept hg2 (Or.inr (row_ne_iter hrow.out hrg.out).symm)
      have HRG2 := Lib.hid hrg2
      have HG2 := Lib.hid hg2
      have HLT := Lib.hid hlt
      have HLE := Lib.hid hrg.out.left_eq
      have HC2 := Lib.hid (hC.out.step hil hlk)
      have hbl2 : w.heap.size ≤ w2.heap.size := Nat.le_trans hnx.out.size hg2.size
      have hss : ss.length + 1 ≤ 1000001 := by have := hcs.out; have := HSZ.out; omega
      clear hs2 hkey hlk hv hat hrg2 hlt hg2 hil hs
      go_wp2_with (at_builtin; refine wpList_append_own _ rfl _ _ 64 rfl w.heap.size 3 i0 (.int .i64 0) 1 8 Try.underlying64 hi hz0 hz1 hz2 rfl (by decide) _ _ _ rfl (hrow2.alloc _) ⟨w2.heap.size, 0, none⟩ 1 1 [.int .i64 (i : Int)] rfl rfl (cell_one_new _ _ _) (ints_oneCell .i64 [(i : Int)]) (by unfold maxLen; omega) (by omega) (by simp; omega) ?_; intro v' w3 hown' hg3 hnil3; go_frame)
      have hrg3 := (HRG2.out.alloc (.cells #[.int .i64 (i : Int)] 3)).kept hg3 (row_ne_low hrow2 hml) (row_ne_iter hrow2 HRG2.out)
      refine ⟨⟨_, cnt2, ss ++ [i], hrg3, ?_, ?_, fun hv' => by have := (hnil3.1 hv').2; omega, HC2.out, ?_⟩, ?_⟩
      · have := hcs.out
        have := HLT.out
        show (ss ++ [i]).length + cnt2 ≤ _
        rw [List.length_append, List.length_singleton]
        omega
      · show w3.ownsRow _ _ _ _ (ss ++ [i]).length (natV (ss ++ [i]))
        rw [List.length_append, List.length_singleton, show natV (ss ++ [i]) = natV ss ++ [Value.int .i64 (i : Int)] from by simp [natV]]
        exact hown'
      · exact ((hnx.out.grown HG2.out hnx.out.size (fun j hj => by cases hj; exact HG1.out.size)).alloc hbl2 _).grown hg3 (by simp; omega) (fun j hj => (hrow2.lt j hj).1)
      · rw [hrg3.left_eq, HLE.out]; exact HLT.out

end Go.Proofs.Ytojidejlohpeaaa

namespace Go.Proofs.Ytojidejlohpeaaa
set_option maxRecDepth 100000
open Go.RowKit Go.Maps

/-- the n bools f lie there, and do so in every world that is as w but for the blocks of which X holds -/
def Bools (X : Nat → Prop) (w : World) (A : Option Addr) (n : Nat) (f : Nat → Bool) : Prop :=
  n = 0 ∨ ∃ b o, A = some ⟨b, o, none⟩ ∧ ∀ i, i < n → ∀ V, Turn X w V → V.cell? ⟨b, o + i, none⟩ = some (.bool (f i))
theorem Bools.turn {X : Nat → Prop} {w w' : World} {A : Option Addr} {n : Nat} {f : Nat → Bool} (h : Bools X w A n f) (ht : Turn X w w') : Bools X w' A n f := by
  rcases h with h | ⟨b, o, e, hc⟩
  · exact .inl h
  · exact .inr ⟨b, o, e, fun i hi V hV => hc i hi V (ht.trans hV)⟩
theorem Bools.mono {X X' : Nat → Prop} {w : World} {A : Option Addr} {n : Nat} {f : Nat → Bool} (h : Bools X w A n f) (hx : ∀ k, X' k → X k) : Bools X' w A n f := by
  rcases h with h | ⟨b, o, e, hc⟩
  · exact .inl h
  · exact .inr ⟨b, o, e, fun i hi V hV => hc i hi V (hV.mono hx)⟩
theorem Bools.nil {X : Nat → Prop} {w : World} {A : Option Addr} {f : Nat → Bool} : Bools X w A 0 f := .inl rfl

/-- the i-th is kept -/
def kp (n : Nat) (f : Nat → Bool) (m : Nat) : Bool := decide (m < n) && f m

/-- a list of sectors' numbers, cell by cell -/
theorem ints_cells {w : World} {base n cap : Nat} {A : Option Addr} {l : List Nat} (h : w.ownsRow base 3 1 (.slice A n cap) n (natV l)) (hn : 0 < n) : ∃ g, A = some ⟨g, 0, none⟩ ∧ base ≤ g ∧ g < w.heap.size ∧ ∀ j, j < l.length → w.cell? ⟨g, j, none⟩ = some (.int .i64 ((l.getD j 0 : Nat) : Int)) := by
  rcases h.2 with ⟨e, h0⟩ | ⟨g, c, cur, e, hb, hh, _, _, _, _⟩
  · omega
  · injection e with e1 _ e3
    subst e1
    refine ⟨g, rfl, hb, lt_of_block hh, fun j hj => ?_⟩
    have hc := h.cells (g := g) rfl j (.int .i64 ((l.getD j 0 : Nat) : Int)) (by
      unfold natV
      rw [List.getElem?_map, List.getElem?_eq_getElem hj, List.getD_eq_getElem?_getD, List.getElem?_eq_getElem hj]
      rfl)
    rw [addr_add, Nat.zero_add] at hc
    exact hc

/-- behind j rounds -/
structure CMid (w1 wr : World) (L n : Nat) (D : Dv) (keep : Nat → Bool) (j : Nat) : Prop where
  lD : wr.heap[L]? = some (.cells (secs n (Dv.lay D.late D.laid keep D.keys j)) 95 (0, 0))
  turn : Turn (· = L) w1 wr

theorem CMid.skip {w1 wr : World} {L n : Nat} {D : Dv} {keep : Nat → Bool} {j : Nat} (h : CMid w1 wr L n D keep j) (hk : keep j = false) : CMid w1 wr L n D keep (j + 1) := by
  refine ⟨?_, h.turn⟩
  rw [h.lD, secs_eq n _ _ fun q _ => ?_]
  rw [Dv.lay_succ, hk, if_neg (by simp)]
theorem CMid.keep {w1 wr : World} {L n i : Nat} {D : Dv} {keep : Nat → Bool} {j : Nat} {s : List UInt8} (h : CMid w1 wr L n D keep j) (hk : keep j = true) (hi : D.keys.getD j 0 = i) (hs : D.late i = some s) :
    CMid w1 (wr.drew.setRow L (secs n fun q => if q = i then s else Dv.lay D.late D.laid keep D.keys j q)) L n D keep (j + 1) := by
  have hb3 : wr.drew.heap[L]? = some (.cells (secs n (Dv.lay D.late D.laid keep D.keys j)) 95 (0, 0)) := h.lD
  refine ⟨?_, h.turn.drew.setRow _ _ (.inl rfl)⟩
  rw [setRow_heap _ _ _ _ _ _ hb3, secs_eq n _ _ fun q _ => ?_]
  show (if q = i then s else Dv.lay D.late D.laid keep D.keys j q) = _
  rw [Dv.lay_succ, hk, if_pos rfl, hi]
  by_cases e : q = i
  · subst e
    rw [if_pos rfl, if_pos rfl, hs]
    rfl
  · rw [if_neg e, if_neg e]

/-- the crash's end -/
theorem crash_end {w1 wr w3 : World} {p L M : Nat} {D : Dv} {keep : Nat → Bool} (h : IsDev w1 p L M D) (hm : CMid w1 wr L D.n D keep D.keys.length) (hc : Cache w3 M 0 fun _ => none) (hg : wr.grownBy w3 (some M)) :
    IsDev ((w3.setCell ⟨p, 3, none⟩ (.bool false)).setCell ⟨p, 2, none⟩ (.int .i64 (-1))) p L M (D.crash keep) ∧ Turn (DS p L M) w1 ((w3.setCell ⟨p, 3, none⟩ (.bool false)).setCell ⟨p, 2, none⟩ (.int .i64 (-1))) := by
  have hb := h.lt
  have nm := h.nm
  obtain ⟨ok, ne, ⟨c, h1, h2, h3⟩, h4, h5⟩ := h
  have hp3 : w3.heap[p]? = w1.heap[p]? := (hg.block p (Nat.lt_of_lt_of_le hb.1 hm.turn.size) (fun e => nm.2.1 (by injection e))).trans (hm.turn.block p hb.1 nm.1)
  have hL3 : w3.heap[L]? = wr.heap[L]? := hg.block L (lt_of_block hm.lD) (fun e => nm.2.2 (by injection e))
  refine ⟨⟨ok.crash keep, ne, ⟨-1, rfl, by omega, heap_setCell_same _ _ _ _ _ _ (heap_setCell_same _ _ _ _ _ _ (hp3.trans h3))⟩, ?_, ?_⟩, ?_⟩
  · rw [heap_setCell_other _ _ _ _ (Ne.symm nm.1), heap_setCell_other _ _ _ _ (Ne.symm nm.1)]
    exact hL3.trans hm.lD
  · exact (hc.mono (Nat.zero_le _)).same ((heap_setCell_other _ _ _ _ (Ne.symm nm.2.1)).trans (heap_setCell_other _ _ _ _ (Ne.symm nm.2.1)))
  · exact (((hm.turn.mono fun _ e => .inr (.inl e)).grown hg (fun j hj => .inl (.inr (.inr (by injection hj with hj; exact hj.symm))))).setCell ⟨p, 3, none⟩ _ (.inl (.inl rfl))).setCell ⟨p, 2, none⟩ _ (.inl (.inl rfl))

theorem crash_nil (w : World) (A : Option Addr) (n c : Nat) : Calls Try.prog 28 #[.pointer none, .slice A n c] w fun e w' => e = .returned (.tuple #[]) ∧ w' = w := by
  go_enter Try.func28, Try.ntmps28
  go_wp2_with (go_at_call 48; refine (made_nil w).mono ?_; rintro e w' ⟨rfl, hw⟩; replace hw := hw.symm; subst hw)
  (try simp only [Exit.inBlock, Exit.then]); refine bodyPost_ret (results_none rfl _ _ _) rfl ?_
  exact ⟨rfl, rfl⟩

set_option maxRecDepth 100000 in
set_option maxHeartbeats 1000000 in
theorem crash_any {w : World} {p L M : Nat} {D : Dv} (h : IsDev w p L M D) (hf : D.spent ≤ 1000001) {A : Option Addr} {kn : Nat} (c : Nat) {f : Nat → Bool} (hk : Bools (DS p L M) w A kn f) :
    Calls Try.prog 28 #[ptr p, .slice A kn c] w fun e w' => e = .returned (.tuple #[]) ∧ IsDev w' p L M (D.crash (kp kn f)) ∧ Turn (DS p L M) w w' := by
  have hm := made_any h
  have hca := cached_any h hf
  have H := Lib.hid h
  have HK := Lib.hid hk
  clear h hf hk
  go_enter Try.func28, Try.ntmps28
  go_wp2_with (first
    | (go_at_call 48; refine hm.mono ?_; rintro e w' ⟨rfl, hw⟩; replace hw := hw.symm; subst hw)
    | (go_at_call 49; refine hca.mono ?_; rintro e w1 ⟨B, N, cap, rfl, hN, hrow, hb1⟩; have HROW := Lib.hid hrow; have HB1 := Lib.hid hb1; have HN := Lib.hid hN; clear hN hrow hb1))
  have hT1 : Turn (fun _ => False) w w1 := Turn.ofBelow HB1.out
  have hd1 := H.out.turn hT1 (fun h => h) (fun h => h) (fun h => h)
  have hk1 := HK.out.turn (hT1.mono fun _ h => h.elim)
  have HT1 := Lib.hid hT1
  have HD1 := Lib.hid hd1
  have HK1 := Lib.hid hk1
  have hC0 := hd1.c0
  have hC1 := hd1.c1
  have hlate : Hid (Cache w1 M D.spent D.late) := Lib.hid hd1.cache
  have hpL := hd1.nm.1
  clear hT1 hd1 hk1 hca hm
  have c0 := hC0
  have c1 := hC1
  clear hC0 hC1
  have hN4 : N ≤ 4096 := by have h1 := Dv.keys_length D; have h2 := H.out.ok.top; have h3 := HN.out; omega
  go_loopw [12] (fun v wr => ∃ j : Nat, v = .int .i64 (j : Int) ∧ j ≤ N ∧ Hid (CMid w1 wr L D.n D (kp kn f) j)) (fun v _ => N - (intOf v).toNat)
  case atStart => exact ⟨0, rfl, Nat.zero_le _, Lib.hid ⟨HD1.out.laid, Turn.refl _ _⟩⟩
  case round =>
    obtain ⟨j, rfl, hj, HM⟩ := hrel
    by_cases hlt : j < N
    · have hdj : decide ((j : Int) < (N : Int)) = true := decide_eq_true (by omega)
      obtain ⟨g, rfl, hgb, hgl, hcell⟩ := ints_cells HROW.out (by omega)
      have hjl : j < D.keys.length := by rw [← HN.out]; exact hlt
      obtain ⟨hin, his⟩ := Dv.keys_lt hjl
      have hci := hcell j hjl
      obtain ⟨s, hs⟩ := Option.isSome_iff_exists.1 his
      obtain ⟨i, hi⟩ : ∃ i, D.keys.getD j 0 = i := ⟨_, rfl⟩
      have HI := Lib.hid hi
      rw [hi] at hin hci hs
      have hgL : g ≠ L := fun e => by have h1 := H.out.lt.2.1; omega
      have hcr := HM.out.turn.cell hci hgL
      have hin' : Hid (i < D.n) := Lib.hid hin
      have HS0 := Lib.hid hs
      have HS := Lib.hid (HD1.out.ok.late i s hs)
      have hbd : (i : Int) < 9223372036854775808 := by have := HD1.out.ok.top; omega
      clear hcell his hci hi hs
      by_cases hkj : j < kn ∧ f j = true
      · obtain ⟨hkn, hfj⟩ := hkj
        have hdk : decide ((j : Int) < (kn : Int)) = true := decide_eq_true (by omega)
        have hkk : kp kn f j = true := by unfold kp; rw [decide_eq_true hkn, hfj]; rfl
        rcases HK1.out with h0 | ⟨b, o, rfl, hbc⟩
        · omega
        have hbj := hbc j hkn wr (HM.out.turn.mono fun _ e => .inr (.inl e))
        rw [hfj] at hbj
        have hC0 : ∀ V, Turn (· = L) wr V → V.cell? ⟨p, 0, none⟩ = some (.slice (some ⟨L, 0, none⟩) D.n D.n) := fun V hV => (HM.out.turn.trans hV).cell c0 hpL
        have hC1 : ∀ V, Turn (· = L) wr V → V.cell? ⟨p, 1, none⟩ = some (.map (some M)) := fun V hV => (HM.out.turn.trans hV).cell c1 hpL
        have hLk : ∀ V, Turn (· = L) wr V → (Instr.lookup 88 (.map (some M)) (.int .i64 (i : Int)) false).run Try.prog V = .ok (secV s) V := fun V hV => (hlate.out.same ((HM.out.turn.trans hV).block M HD1.out.lt.2.2 (Ne.symm HD1.out.nm.2.2))).get i hbd s HS0.out
        have HNX := Lib.hid (HM.out.keep hkk HI.out HS0.out)
        have HLD := Lib.hid HM.out.lD
        have hjj : j + 1 ≤ N := hlt
        clear hbc hfj hkk c0 c1 HK1 HK
        generalize Dv.lay D.late D.laid (kp kn f) D.keys j = lay at HNX HLD
        generalize D.n = n at *
        go_wp2_with fail
        · skip
          refine wp_region_turn (X := (· = L)) (by kernel_rfl) ?_
          have hS : Turn (· = L) wr (World.drew wr) := (Turn.refl _ _).drew
          refine wpAnyH_take (i := 0) (oi := ⟨some 27, _, _, _, _, _⟩) (v := ?_) rfl (by kernel_rfl) (by kernel_rfl) (by kernel_rfl) (fun _ _ _ h => h) (Or.inl ⟨by rfl, ?_⟩) hS ?_
          rotate_left
          · intro W hW; go_simp; with_reducible rfl
          try simp only [Act.put, List.setIfInBounds_toArray, List.set_cons_zero, List.set_cons_succ]
          refine wpAnyH_take (i := 1) (oi := ⟨some 28, _, _, _, _, _⟩) (v := ?_) rfl (by kernel_rfl) (by kernel_rfl) (by kernel_rfl) (fun _ _ _ h => h) (Or.inl ⟨by rfl, ?_⟩) hS ?_
          rotate_left
          · intro W hW; go_simp; with_reducible rfl
          try simp only [Act.put, List.setIfInBounds_toArray, List.set_cons_zero, List.set_cons_succ]
          refine wpAnyH_take (i := 2) (oi := ⟨some 29, _, _, _, _, _⟩) (v := ?_) rfl (by kernel_rfl) (by kernel_rfl) (by kernel_rfl) (fun _ _ _ h => h) (Or.inl ⟨by rfl, ?_⟩) hS ?_
          rotate_left
          · intro W hW; go_simp; with_reducible rfl
          try simp only [Act.put, List.setIfInBounds_toArray, List.set_cons_zero, List.set_cons_succ]
          refine wpAnyH_take (i := 3) (oi := ⟨some 30, _, _, _, _, _⟩) (v := ?_) rfl (by kernel_rfl) (by kernel_rfl) (by kernel_rfl) (fun _ _ _ h => h) (Or.inl ⟨by rfl, ?_⟩) hS ?_
          rotate_left
          · intro W hW; go_simp; with_reducible rfl
          try simp only [Act.put, List.setIfInBounds_toArray, List.set_cons_zero, List.set_cons_succ]
          refine wpAnyH_take (i := 4) (oi := ⟨some 31, _, _, _, _, _⟩) (v := ?_) rfl (by kernel_rfl) (by kernel_rfl) (by kernel_rfl) (fun _ _ _ h => h) (Or.inl ⟨by rfl, ?_⟩) hS ?_
          rotate_left
          · intro W hW; go_simp; with_reducible rfl
          try simp only [Act.put, List.setIfInBounds_toArray, List.set_cons_zero, List.set_cons_succ]
          refine wpAnyH_take (i := 5) (oi := ⟨some 32, _, _, _, _, _⟩) (v := ?_) rfl (by kernel_rfl) (by kernel_rfl) (by kernel_rfl) (fun _ _ _ h => h) (Or.inl ⟨by rfl, ?_⟩) hS ?_
          rotate_left
          · intro W hW; go_simp; with_reducible rfl
          try simp only [Act.put, List.setIfInBounds_toArray, List.set_cons_zero, List.set_cons_succ]
          refine wpAnyH_take (i := 6) (oi := ⟨some 33, _, _, _, _, _⟩) (v := ?_) rfl (by kernel_rfl) (by kernel_rfl) (by kernel_rfl) (fun _ _ _ h => h) (Or.inl ⟨by rfl, ?_⟩) hS ?_
          rotate_left
          · intro W hW; go_simp; with_reducible rfl
          try simp only [Act.put, List.setIfInBounds_toArray, List.set_cons_zero, List.set_cons_succ]
          refine wpAnyH_take (i := 7) (oi := ⟨some 34, _, _, _, _, _⟩) (v := ?_) rfl (by kernel_rfl) (by kernel_rfl) (by kernel_rfl) (fun _ _ _ h => h) (Or.inl ⟨by rfl, ?_⟩) hS ?_
          rotate_left
          · intro W hW; go_simp; with_reducible rfl
          try simp only [Act.put, List.setIfInBounds_toArray, List.set_cons_zero, List.set_cons_succ]
          refine wpAnyH_take (i := 8) (oi := ⟨some 35, _, _, _, _, _⟩) (v := ?_) rfl (by kernel_rfl) (by kernel_rfl) (by kernel_rfl) (fun _ _ _ h => h) (Or.inl ⟨by rfl, ?_⟩) hS ?_
          rotate_left
          · intro W hW; go_simp; with_reducible rfl
          try simp only [Act.put, List.setIfInBounds_toArray, List.set_cons_zero, List.set_cons_succ]
          refine wpAnyH_take (i := 9) (oi := ⟨some 36, _, _, _, _, _⟩) (v := ?_) rfl (by kernel_rfl) (by kernel_rfl) (by kernel_rfl) (fun _ _ _ h => h) (Or.inl ⟨by rfl, ?_⟩) hS ?_
          rotate_left
          · intro W hW; go_simp; with_reducible rfl
          try simp only [Act.put, List.setIfInBounds_toArray, List.set_cons_zero, List.set_cons_succ]
          refine wpAnyH_take (i := 10) (oi := ⟨some 37, _, _, _, _, _⟩) (v := ?_) rfl (by kernel_rfl) (by kernel_rfl) (by kernel_rfl) (fun _ _ _ h => h) (Or.inl ⟨by rfl, ?_⟩) hS ?_
          rotate_left
          · intro W hW; go_simp; with_reducible rfl
          try simp only [Act.put, List.setIfInBounds_toArray, List.set_cons_zero, List.set_cons_succ]
          refine wpAnyH_take (i := 11) (oi := ⟨some 38, _, _, _, _, _⟩) (v := ?_) rfl (by kernel_rfl) (by kernel_rfl) (by kernel_rfl) (fun _ _ _ h => h) (Or.inl ⟨by rfl, ?_⟩) hS ?_
          rotate_left
          · intro W hW; go_simp; with_reducible rfl
          try simp only [Act.put, List.setIfInBounds_toArray, List.set_cons_zero, List.set_cons_succ]
          -- operation 12: a step
          refine wpAnyH_ready (rs := [12]) (by kernel_rfl) (by simp) ?_
          refine AllReadyH.cons (o := ⟨none, _, _, _, _, _⟩) rfl (fun Kr hKr => ?_) AllReadyH.nil
          rw [if_pos (by kernel_rfl)]
          refine wp_store_sec (.tmp 38) (.tmp 37) rfl rfl rfl (show (World.drew wr).heap[L]? = _ from HLD.out) hin HS.out ?_
          show Kr _ _
          refine hKr.out _ _ ?_ (fun _ => ?_)
          · exact Turn.trans hS ((Turn.refl (· = L) wr.drew).setRow L (secs n fun q => if q = i then s else lay q) (.inl rfl))
          clear hKr Kr
          refine wpAnyH_turn (Turn.trans hS ((Turn.refl (· = L) wr.drew).setRow L (secs n fun q => if q = i then s else lay q) (.inl rfl))) ?_
          clear hS
          have hS : Turn (· = L) (wr.drew.setRow L (secs n fun q => if q = i then s else lay q)) (wr.drew.setRow L (secs n fun q => if q = i then s else lay q)) := Turn.refl _ _
          try simp only [Act.put]
          refine wpAnyH_done (by kernel_rfl) ?_ _
          go_wp2_with fail
          refine ⟨⟨j + 1, by go_num, hjj, HNX⟩, by simp [intOf]; omega⟩
      · have hkk : kp kn f j = false := by
          unfold kp
          by_cases h1 : j < kn
          · rw [decide_eq_true h1, Bool.true_and]
            cases hf : f j
            · rfl
            · exact absurd ⟨h1, hf⟩ hkj
          · rw [decide_eq_false h1]; rfl
        have HNX := Lib.hid (HM.out.skip hkk)
        have hjj : j + 1 ≤ N := hlt
        by_cases hkn : j < kn
        · have hdk : decide ((j : Int) < (kn : Int)) = true := decide_eq_true (by omega)
          have hfj : f j = false := by
            cases hf : f j
            · rfl
            · exact absurd ⟨hkn, hf⟩ hkj
          rcases HK1.out with h0 | ⟨b, o, rfl, hbc⟩
          · omega
          have hbj := hbc j hkn wr (HM.out.turn.mono fun _ e => .inr (.inl e))
          rw [hfj] at hbj
          clear hbc hfj hkk c0 c1 HK1 HK hkj
          go_wp2_with fail
          refine ⟨⟨j + 1, by go_num, hjj, HNX⟩, by simp [intOf]; omega⟩
        · have hdk : decide ((j : Int) < (kn : Int)) = false := decide_eq_false (by omega)
          clear hkk c0 c1 HK1 HK hkj
          go_wp2_with fail
          refine ⟨⟨j + 1, by go_num, hjj, HNX⟩, by simp [intOf]; omega⟩
    · obtain rfl : j = N := by omega
      have HM2 : Hid (CMid w1 wr L D.n D (kp kn f) D.keys.length) := by rw [← HN.out]; exact HM
      have HCE : Hid (Cache wr M D.spent D.late) := Lib.hid (hlate.out.same (HM.out.turn.block M HD1.out.lt.2.2 (Ne.symm HD1.out.nm.2.2)))
      have d1 := HM.out.turn.cell c1 (a := ⟨p, 1, none⟩) HD1.out.nm.1
      have k3 := HM.out.turn.cell HD1.out.c3 (a := ⟨p, 3, none⟩) HD1.out.nm.1
      obtain ⟨cb, _, _, hbp⟩ := HD1.out.own
      have hbr : wr.heap[p]? = _ := (HM.out.turn.block p HD1.out.lt.1 HD1.out.nm.1).trans hbp
      have HBR := Lib.hid hbr
      clear hbp hbr c0 c1 HM hlt hj k3
      go_wp2_with (refine wpList_clear rfl (.tmp 43) rfl rfl HCE.out ?_; intro w3 hc3 hg3; have HE := Lib.hid (crash_end HD1.out HM2.out hc3 hg3); have hb3 := (hg3.block p (lt_of_block HBR.out) (fun e => HD1.out.nm.2.1 (by injection e))).trans HBR.out; have e1 : w3.cell? ⟨p, 1, none⟩ = some (.map (some M)) := (by rw [cell_of_row _ _ _ _ _ _ hb3]; rfl); have e3 : w3.cell? ⟨p, 3, none⟩ = some (.bool D.gone) := (by rw [cell_of_row _ _ _ _ _ _ hb3]; rfl); have e2 : w3.cell? ⟨p, 2, none⟩ = some (.int .i64 cb) := (by rw [cell_of_row _ _ _ _ _ _ hb3]; rfl); have f3 := frozen_of_row w3 p 3 _ _ hb3; have f2 := frozen_of_row w3 p 2 _ _ hb3; clear hc3 hg3 hb3)
      go_end0
      exact ⟨rfl, HE.out.1, (HT1.out.mono fun _ h => h.elim).trans HE.out.2⟩

end Go.Proofs.Ytojidejlohpeaaa

namespace Go.Proofs.Ytojidejlohpeaaa
set_option maxRecDepth 100000
open Go.RowKit

theorem read_nil (w : World) (at_ : Int) : Calls Try.prog 36 #[.pointer none, .int .i64 at_] w (ReadOut w [] 11) := by
  go_enter Try.func36, Try.ntmps36
  go_wp2_with (go_at_call 35; refine (gone_nil w).mono ?_; rintro e w' ⟨rfl, hw⟩; replace hw := hw.symm; subst hw)
  go_ret2
  exact ⟨_, _, _, rfl, .inl ⟨rfl, rfl, rfl, rfl⟩, Below.refl _ _⟩
theorem write_nil (w : World) (at_ : Int) (A : Option Addr) (n c : Nat) : Calls Try.prog 30 #[.pointer none, .int .i64 at_, .slice A n c] w fun e w' => e = .returned (.int .i64 11) ∧ w' = w := by
  go_enter Try.func30, Try.ntmps30
  go_wp2_with (go_at_call 35; refine (gone_nil w).mono ?_; rintro e w' ⟨rfl, hw⟩; replace hw := hw.symm; subst hw)
  go_ret
  exact ⟨rfl, rfl⟩
theorem flush_nil (w : World) : Calls Try.prog 32 #[.pointer none] w fun e w' => e = .returned (.int .i64 11) ∧ w' = w := by
  go_enter Try.func32, Try.ntmps32
  go_wp2_with (go_at_call 35; refine (gone_nil w).mono ?_; rintro e w' ⟨rfl, hw⟩; replace hw := hw.symm; subst hw)
  go_ret
  exact ⟨rfl, rfl⟩

/-- a sector is read: it lies in a new block -/
def SecOut (w : World) (l : List UInt8) (e : Ending) (w' : World) : Prop :=
  ∃ g, e = .returned (.tuple #[.slice (some ⟨g, 0, none⟩) 64 64, .int .i64 0]) ∧ w.heap.size ≤ g ∧ w'.heap[g]? = some (.cells (secC l) 95 (0, 0)) ∧ Below w.heap.size w w'
theorem read_sec {w : World} {p L M : Nat} {D : Dv} (h : IsDev w p L M D) (at_ : Int) {l : List UInt8} (hl : D.read at_ = l) (h64 : l.length = 64) : Calls Try.prog 36 #[ptr p, .int .i64 at_] w (SecOut w l) := by
  have he : D.readE at_ = 0 := by
    unfold Dv.read at hl
    unfold Dv.readE
    by_cases h1 : D.gone = true
    · rw [if_pos h1] at hl
      subst hl
      cases h64
    · rw [if_neg h1] at hl ⊢
      by_cases h2 : D.has at_ = true
      · rw [if_pos h2]
      · rw [if_neg h2] at hl
        subst hl
        cases h64
  refine (dread_any h at_).mono ?_
  rintro e w' ⟨A, n, c, rfl, hg, hb⟩
  rw [hl] at hg
  rcases hg with ⟨rfl, _⟩ | ⟨g, rfl, rfl, rfl, _, h5, h6⟩
  · cases h64
  · exact ⟨g, by rw [he], h5, h6, hb⟩

/-- 'the device is as D, and all that was there when the call began is as it was' -/
structure Dr (w W : World) (p L M : Nat) (D : Dv) : Prop where
  dev : IsDev W p L M D
  bel : Below w.heap.size w W
  lo : w.heap.size ≤ p ∧ w.heap.size ≤ L ∧ w.heap.size ≤ M

section
variable {w W V : World} {p L M : Nat} {D E : Dv}
theorem Dr.turn (h : Dr w W p L M D) (hd : IsDev V p L M E) (ht : Turn (DS p L M) W V) : Dr w V p L M E :=
  ⟨hd, h.bel.trans (ht.below (fun k hk => by rcases hk with rfl | rfl | rfl; exact h.lo.1; exact h.lo.2.1; exact h.lo.2.2) h.bel.size), h.lo⟩
theorem Dr.below (h : Dr w W p L M D) (hb : Below W.heap.size W V) : Dr w V p L M D :=
  ⟨h.dev.turn (Turn.ofBelow (S := fun _ => False) hb) (fun h => h) (fun h => h) (fun h => h), h.bel.trans (hb.mono h.bel.size), h.lo⟩
theorem Dr.alloc (h : Dr w W p L M D) (o : Obj) : Dr w (W.alloc o) p L M D := h.below ((Below.refl _ _).alloc (Nat.le_refl _) o)
/-- bytes of an argument -/
theorem Dr.firm (h : Dr w W p L M D) {A : Option Addr} {l : List UInt8} (hr : Rd w w.heap.size A l) : Firm (DS p L M) W A l :=
  (hr.below h.bel).firm h.bel.size (fun k hk => by rcases hk with rfl | rfl | rfl; exact h.lo.1; exact h.lo.2.1; exact h.lo.2.2)
/-- one byte in a block that is no block of the device's -/
theorem firm_one {X : Nat → Prop} {W : World} (x : UInt8) (z : Int) (hz : z = (x.toNat : Int)) (hx : ¬ X W.heap.size) (fr : Nat × Nat) : Firm X (W.alloc (.cells #[.int .u8 z] 5 fr)) (some ⟨W.heap.size, 0, none⟩) [x] := by
  subst hz
  refine Firm.block hx (by simp) fun j y hy => ?_
  have hj : j = 0 := by
    have := (List.getElem?_eq_some_iff.1 hy).1
    simpa using this
  subst hj
  simp at hy
  subst hy
  rw [cell_of_row _ _ _ _ _ _ (heap_alloc_new W _)]
  rfl
theorem Dr.notNew (h : Dr w W p L M D) : ¬ DS p L M W.heap.size := fun hk => by
  have := h.dev.lt
  rcases hk with e | e | e <;> omega
end

theorem newdr {w W : World} (hb : Below w.heap.size w W) (n : Nat) (h1 : 1 ≤ n) (h2 : n ≤ 4096) : Calls Try.prog 21 #[.int .i64 (n : Int)] W fun e W' => ∃ p L M, e = .returned (.tuple #[ptr p, .int .i64 0]) ∧ Dr w W' p L M (.fresh n) ∧ Below W.heap.size W W' ∧ W.heap.size ≤ p ∧ W.heap.size ≤ L ∧ W.heap.size ≤ M := by
  refine (newdev_any W n h1 h2).mono ?_
  rintro e W' ⟨p, L, M, rfl, hd, hb2, g1, g2, g3⟩
  have := hb.size
  exact ⟨p, L, M, rfl, ⟨hd, hb.trans (hb2.mono hb.size), by omega, by omega, by omega⟩, hb2, g1, g2, g3⟩

end Go.Proofs.Ytojidejlohpeaaa

namespace Go.Proofs.Ytojidejlohpeaaa
set_option maxRecDepth 100000
open Go.RowKit

namespace Dv
structure Free (D : Dv) : Prop where
  gone : D.gone = false
  left : D.left = -1

variable {D : Dv}
theorem free_fresh (n : Nat) : (fresh n).Free := ⟨rfl, rfl⟩
theorem Free.more (h : D.Free) : D.more.Free := ⟨h.gone, by show max (D.left - 1) (-1) = _; rw [h.left]; rfl⟩
theorem Free.put (h : D.Free) (i : Nat) (s : List UInt8) : (D.put i s).Free := ⟨h.gone, h.left⟩
theorem has_of {i : Nat} (hi : i < D.n) : D.has (i : Int) = true := by
  unfold Dv.has
  rw [decide_eq_true (by omega), decide_eq_true (by omega)]
  rfl
theorem Free.writeE (h : D.Free) {i : Nat} (hi : i < D.n) {b : List UInt8} (hb : b.length ≤ 64) : D.writeE (i : Int) b = 0 := by
  unfold Dv.writeE
  rw [h.gone, if_neg Bool.false_ne_true, has_of hi, decide_eq_true hb, h.left]
  rfl
theorem Free.write (h : D.Free) {i : Nat} (hi : i < D.n) {b : List UInt8} (hb : b.length ≤ 64) : D.write (i : Int) b = D.more.put i (pad b) := by
  unfold Dv.write
  rw [h.gone, if_neg Bool.false_ne_true, has_of hi, decide_eq_true hb, h.left]
  rfl
theorem Free.wrote (h : D.Free) (at_ : Int) (b : List UInt8) : (D.write at_ b).Free := by
  unfold Dv.write
  rw [h.gone, if_neg Bool.false_ne_true, h.left]
  split
  · exact ⟨h.gone, h.more.left⟩
  · exact h
theorem Free.flushE (h : D.Free) : D.flushE = 0 := by
  unfold Dv.flushE
  rw [h.gone, h.left]
  rfl
theorem Free.flush (h : D.Free) : D.flush = D.more.settle := by
  unfold Dv.flush
  rw [h.gone, h.left]
  rfl
theorem Free.flushed (h : D.Free) : D.flush.Free := by rw [h.flush]; exact ⟨h.gone, h.more.left⟩
theorem free_crash (D : Dv) (keep : Nat → Bool) : (D.crash keep).Free := ⟨rfl, rfl⟩
theorem Free.read (h : D.Free) {i : Nat} (hi : i < D.n) : D.read (i : Int) = (D.late i).getD (D.laid i) := by
  unfold Dv.read
  rw [h.gone, if_neg Bool.false_ne_true, has_of hi]
  rfl
theorem Free.readE (h : D.Free) {i : Nat} (hi : i < D.n) : D.readE (i : Int) = 0 := by
  unfold Dv.readE
  rw [h.gone, if_neg Bool.false_ne_true, has_of hi]
  rfl
/-- nothing is cached: a crash turns nothing -/
theorem keys_none (h : ∀ i, D.late i = none) : D.keys = [] := by
  unfold Dv.keys
  rw [List.filter_eq_nil_iff]
  intro i _
  rw [h i]
  simp
theorem crash_none (h : ∀ i, D.late i = none) (keep : Nat → Bool) : (D.crash keep).laid = D.laid := by
  show lay D.late D.laid keep D.keys D.keys.length = _
  rw [keys_none h]
  rfl
end Dv

theorem below_drewN {B : Nat} {a w : World} (h : Below B a w) (q : Nat) : Below B a (w.drewN q) := ⟨h.os, h.tape, h.output, h.size, h.block⟩

/-- a slice of bytes that came in, byte by byte, in each world that is as it was below -/
theorem arg_byte {w : World} {a : Option Addr} {l : List UInt8} (hr : Rd w w.heap.size a l) {j : Nat} (hj : j < l.length) : ∃ b o, a = some ⟨b, o, none⟩ ∧ ∀ V, Below w.heap.size w V → V.cell? ⟨b, o + j, none⟩ = some (.int .u8 ((l[j]).toNat : Int)) := by
  obtain ⟨b, o, e, hb, hc⟩ := hr.cell hj
  exact ⟨b, o, e, fun V hV => (hV.cell (p := ⟨b, o + j, none⟩) hb).trans hc⟩

end Go.Proofs.Ytojidejlohpeaaa
