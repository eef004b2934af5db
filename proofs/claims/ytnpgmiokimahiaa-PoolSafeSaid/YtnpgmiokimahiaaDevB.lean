/-
  Write: the budget, and a sector cached.
-/
import Derived.Test.YtnpgmiokimahiaaDevA
import Derived.LoopTactic
import Derived.Test.YtnpgmiokimahiaaChecked
import Derived.Lib.SlBytesConst
namespace Go.Proofs.Ytnpgmiokimahiaa
set_option maxRecDepth 100000
open Go.RowKit

theorem IsDev.put_ {w w' : World} {p L M : Nat} {D : Dv} (h : IsDev w p L M D) {i : Nat} {s : List UInt8} {m : Nat} (hi : i < D.n) (hs : s.length = 64) (hm : m ≤ D.spent) (hc : Cache w' M m (fun j => if j = i then some s else D.late j)) (hp : w'.heap[p]? = w.heap[p]?) (hL : w'.heap[L]? = w.heap[L]?) : IsDev w' p L M (D.put i s) := by
  obtain ⟨ok, ne, ⟨c, h1, h2, h3⟩, h4, h5⟩ := h
  exact ⟨ok.put i s hi hs, ne, ⟨c, h1, h2, hp.trans h3⟩, hL.trans h4, hc.mono hm⟩

/-- what the write's last region finds, and leaves -/
structure Ready (w1 W : World) (p L M i : Nat) (D : Dv) (s : List UInt8) : Prop where
  c1 : ∀ V, Turn (· = M) W V → V.cell? ⟨p, 1, none⟩ = some (.map (some M))
  ld : ∀ V, Turn (· = M) W V → (loadVar 60 ⟨w1.heap.size, 0, none⟩).run Try.prog V = .ok (secV s) V
  st : ∃ w2, (Instr.mapUpdate 51 (.map (some M)) (.int .i64 (i : Int)) (secV s)).run Try.prog W.drew = .ok () w2 ∧ W.drew.grownBy w2 (some M) ∧ IsDev w2 p L M (D.put i s) ∧ Turn (DS p L M) w1 w2

theorem ready_mk {w1 : World} {p L M i m : Nat} {D : Dv} {s old : List UInt8} (h : IsDev w1 p L M D) (hc : Cache w1 M m D.late) (hm : m + 1 ≤ D.spent) (hm9 : m < 1000000000) (hi : i < D.n) (hs : s.length = 64) :
    Ready w1 ((w1.alloc (.cells (secC old) 60)).setRow w1.heap.size (secC s)) p L M i D s := by
  have hb := h.lt
  have nm := h.nm
  have hg : ((w1.alloc (.cells (secC old) 60)).setRow w1.heap.size (secC s)).heap[w1.heap.size]? = some (.cells (secC s) 60 (0, 0)) := setRow_heap _ _ _ _ _ _ (heap_alloc_new _ _)
  have hT : Turn (fun _ => False) w1 ((w1.alloc (.cells (secC old) 60)).setRow w1.heap.size (secC s)) := ((Turn.refl _ _).alloc _).setRow _ _ (.inr (Nat.le_refl _))
  have hdev := h.turn hT (fun h => h) (fun h => h) (fun h => h)
  have hbd : (i : Int) < 9223372036854775808 := by have := h.ok.top; omega
  refine ⟨fun V hV => hV.cell hdev.c1 nm.2.1, fun V hV => ?_, ?_⟩
  · have e : (secC s) = secs 1 fun _ => s := by
      apply Array.ext_getElem?
      intro k
      rcases Nat.lt_or_ge k 64 with hk | hk
      · rw [get_secs _ _ _ (by omega), secC_get, Nat.mod_eq_of_lt hk, List.getD_eq_getElem?_getD, List.getElem?_eq_getElem (by omega)]
        rfl
      · rw [Array.getElem?_eq_none (by rw [size_secC hs]; exact hk), Array.getElem?_eq_none (by rw [size_secs]; omega)]
    have hgV := (hV.block w1.heap.size (lt_of_block hg) (fun e => by have := hb.2.2; have e' : w1.heap.size = M := e; omega)).trans hg
    rw [e] at hgV
    have := run_load_sec hgV 0 (by omega) hs
    simpa using this
  · have hcW : Cache ((w1.alloc (.cells (secC old) 60)).setRow w1.heap.size (secC s)).drew M m D.late := hc.same (hT.block M hb.2.2 (fun h => h))
    obtain ⟨w2, hrun, hc2, hg2⟩ := hcW.store hm9 i hbd s hs
    have hb2 : ∀ k, k < w1.heap.size → k ≠ M → w2.heap[k]? = w1.heap[k]? := fun k hk hkM =>
      (hg2.block k (by rw [heap_drew]; exact Nat.lt_of_lt_of_le hk hT.size) (fun e => hkM (by injection e))).trans (hT.block k hk (fun h => h))
    exact ⟨w2, hrun, hg2, h.put_ hi hs hm hc2 (hb2 p hb.1 nm.2.1) (hb2 L hb.2.1 nm.2.2), (((Turn.refl _ _).alloc _).setRow _ _ (.inr (Nat.le_refl _))).drew.grown hg2 (fun j hj => .inl (.inr (.inr (by injection hj with hj; exact hj.symm))))⟩

set_option maxRecDepth 100000 in
set_option maxHeartbeats 1000000 in
theorem dwrite_any {w : World} {p L M : Nat} {D : Dv} (h : IsDev w p L M D) (hf : D.spent ≤ 1000000) (at_ : Int) {A : Option Addr} {l : List UInt8} (hr : Firm (DS p L M) w A l) (n c : Nat) (hn : l.length = n) : Calls Try.prog 23 #[ptr p, .int .i64 at_, .slice A n c] w fun e w' => e = .returned (.int .i64 (D.writeE at_ l)) ∧ IsDev w' p L M (D.write at_ l) ∧ Turn (DS p L M) w w' := by
  have hg := gone_any h
  subst hn
  by_cases hgone : D.gone = true
  · rw [hgone] at hg
    unfold Dv.write Dv.writeE
    rw [if_pos hgone, if_pos hgone]
    have H := Lib.hid h
    clear h hgone
    generalize l.length = n at *
    go_enter Try.func23, Try.ntmps23
    go_wp2_with (go_at_call 24; refine hg.mono ?_; rintro e w' ⟨rfl, hw⟩; replace hw := hw.symm; subst hw)
    go_ret
    exact ⟨rfl, H.out, Turn.refl _ _⟩
  · have hgf : D.gone = false := by cases hD : D.gone <;> simp_all
    rw [hgf] at hg
    have hh := has_any h at_
    have hwe : D.writeE at_ l = if D.has at_ && decide (l.length ≤ 64) then (if D.left = 0 then 11 else 0) else 1 := by unfold Dv.writeE; rw [if_neg hgone]
    have hw : D.write at_ l = if D.has at_ && decide (l.length ≤ 64) then (if D.left = 0 then D.die else D.more.put at_.toNat (Dv.pad l)) else D := by unfold Dv.write; rw [if_neg hgone]
    by_cases hat : D.has at_ = true ∧ l.length ≤ 64
    · have hb : (D.has at_ && decide (l.length ≤ 64)) = true := by rw [hat.1, decide_eq_true hat.2]; rfl
      rw [hb, if_pos rfl] at hwe hw
      obtain ⟨hat, hl64⟩ := hat
      rw [hat] at hh
      have hsp := spend_any h hf
      by_cases hleft : D.left = 0
      · have hse : spendE D = 11 := by unfold spendE; rw [if_pos hleft]
        have hsd : D.spend = D.die := by unfold Dv.spend; rw [if_pos hleft]
        rw [if_pos hleft] at hwe hw
        rw [hse, hsd] at hsp
        rw [hwe, hw]
        have hln : decide ((64 : Int) < (l.length : Int)) = false := decide_eq_false (by omega)
        clear h hgone hleft hse hsd hwe hw hb hat hl64 hf hgf
        generalize l.length = n at *
        go_enter Try.func23, Try.ntmps23
        go_wp2_with (first
          | (go_at_call 24; refine hg.mono ?_; rintro e w' ⟨rfl, hw⟩; replace hw := hw.symm; subst hw)
          | (go_at_call 29; refine hh.mono ?_; rintro e w' ⟨rfl, hw⟩; replace hw := hw.symm; subst hw)
          | (go_at_call 32; refine hsp.mono ?_; rintro e w1 ⟨rfl, hd1, ht1⟩; have HD1 := Lib.hid hd1; have HT1 := Lib.hid ht1; clear hd1 ht1))
        go_ret
        exact ⟨rfl, HD1.out, HT1.out.mono fun _ e => .inl e⟩
      · have hse : spendE D = 0 := by unfold spendE; rw [if_neg hleft]
        have hsd : D.spend = D.more := by unfold Dv.spend; rw [if_neg hleft]
        rw [if_neg hleft] at hwe hw
        rw [hse, hsd] at hsp
        rw [hwe, hw]
        have hln : decide ((64 : Int) < (l.length : Int)) = false := decide_eq_false (by omega)
        obtain ⟨hlt, h0, hi⟩ := Dv.has_lt hat
        generalize at_.toNat = i at *
        subst hi
        have hpad := Lib.hid (Dv.len_pad l hl64)
        have HR := Lib.hid hr
        have hbd : (i : Int) < 9223372036854775808 := by have := h.ok.top; omega
        have HLT := Lib.hid hlt
        have HF := Lib.hid hf
        have hB := Lib.hid h.cache
        have H0 := Lib.hid h
        have HL64 := Lib.hid hl64
        clear h hgone hleft hse hsd hwe hw hb hat hl64 hf hgf hr hlt h0
        generalize hnn : l.length = n at hg hh hsp hln HL64 ⊢
        have HN : Hid (l.length = n) := Lib.hid hnn
        clear hnn
        go_enter Try.func23, Try.ntmps23
        go_wp2_with (first
          | (go_at_call 24; refine hg.mono ?_; rintro e w' ⟨rfl, hw⟩; replace hw := hw.symm; subst hw)
          | (go_at_call 29; refine hh.mono ?_; rintro e w' ⟨rfl, hw⟩; replace hw := hw.symm; subst hw)
          | (go_at_call 32; refine hsp.mono ?_; rintro e w1 ⟨rfl, hd1, ht1⟩; have HD1 := Lib.hid hd1; have HT1 := Lib.hid ht1; clear hd1 ht1)
          | ((with_reducible refine wpList_alloc_zero (by rfl) 60 (by rfl) _ info_sec ?_))
          | (refine wpList_copy_sec rfl (.tmp 25) (.tmp 26) rfl (heap_alloc_new w1 _) (l := l) (HR.out _ (HT1.out.mono (fun _ e => .inl e) |>.alloc _)) n c HN.out HL64.out rfl rfl ?_))
        have hRY := ready_mk (old := Dv.zeros) HD1.out (hB.out.same (HT1.out.block M H0.out.lt.2.2 (Ne.symm H0.out.nm.2.1))) (Nat.le_refl _) (Nat.lt_of_le_of_lt HF.out (by omega)) HLT.out hpad.out
        generalize ((w1.alloc (.cells (secC Dv.zeros) 60)).setRow w1.heap.size (secC (Dv.pad l))) = W1 at *
        obtain ⟨hC1, hLd, w2, hrun, hg2, hd2, ht2⟩ := hRY
        have HRUN := Lib.hid hrun
        have HLd := Lib.hid hLd
        clear hLd
        have HG2 := Lib.hid hg2
        have HD2 := Lib.hid hd2
        have HT2 := Lib.hid ht2
        clear hrun hg2 hd2 ht2
        refine wp_region_turn (X := (· = M)) (by kernel_rfl) ?_
        have hS : Turn (· = M) W1 (World.drew W1) := (Turn.refl _ _).drew
        refine wpAnyH_take (i := 0) (oi := ⟨some 28, _, _, _, _, _⟩) (v := ?_) rfl (by kernel_rfl) (by kernel_rfl) (by kernel_rfl) (fun _ _ _ h => h) (Or.inl ⟨by rfl, ?_⟩) hS ?_
        rotate_left
        · intro W hW; go_simp; with_reducible rfl
        try simp only [Act.put, List.setIfInBounds_toArray, List.set_cons_zero, List.set_cons_succ]
        refine wpAnyH_take (i := 1) (oi := ⟨some 29, _, _, _, _, _⟩) (v := ?_) rfl (by kernel_rfl) (by kernel_rfl) (by kernel_rfl) (fun _ _ _ h => h) (Or.inl ⟨by rfl, ?_⟩) hS ?_
        rotate_left
        · intro W hW; go_simp; with_reducible rfl
        try simp only [Act.put, List.setIfInBounds_toArray, List.set_cons_zero, List.set_cons_succ]
        refine wpAnyH_take (i := 2) (oi := ⟨some 30, _, _, _, _, _⟩) (v := ?_) rfl (by kernel_rfl) (by kernel_rfl) (by kernel_rfl) (fun _ _ _ h => h) (Or.inl ⟨by rfl, ?_⟩) hS ?_
        rotate_left
        · intro W hW; go_simp; with_reducible rfl
        try simp only [Act.put, List.setIfInBounds_toArray, List.set_cons_zero, List.set_cons_succ]
        refine wpAnyH_take (i := 3) (oi := ⟨some 31, _, _, _, _, _⟩) (v := ?_) rfl (by kernel_rfl) (by kernel_rfl) (by kernel_rfl) (fun _ _ _ h => h) (Or.inl ⟨by rfl, ?_⟩) hS ?_
        rotate_left
        · intro W hW; go_simp; with_reducible rfl
        try simp only [Act.put, List.setIfInBounds_toArray, List.set_cons_zero, List.set_cons_succ]
        refine wpAnyH_take (i := 4) (oi := ⟨some 32, _, _, _, _, _⟩) (v := ?_) rfl (by kernel_rfl) (by kernel_rfl) (by kernel_rfl) (fun _ _ _ h => h) (Or.inl ⟨by rfl, ?_⟩) hS ?_
        rotate_left
        · intro W hW; go_simp; with_reducible rfl
        try simp only [Act.put, List.setIfInBounds_toArray, List.set_cons_zero, List.set_cons_succ]
        refine wpAnyH_take (i := 5) (oi := ⟨some 33, _, _, _, _, _⟩) (v := secV (Dv.pad l)) rfl (by kernel_rfl) (by kernel_rfl) (by kernel_rfl) (fun _ _ _ h => h) (Or.inl ⟨by rfl, fun W hW => exec_load rfl rfl (HLd.out W hW)⟩) hS ?_
        try simp only [Act.put, List.setIfInBounds_toArray, List.set_cons_zero, List.set_cons_succ]
        -- operation 6: a step
        refine wpAnyH_ready (rs := [6]) (by kernel_rfl) (by simp) ?_
        refine AllReadyH.cons (o := ⟨none, _, _, _, _, _⟩) rfl (fun Kr hKr => ?_) AllReadyH.nil
        have hrun := HRUN.out
        go_simp
        show Kr _ _
        refine hKr.out _ _ ?_ (fun _ => ?_)
        · exact Turn.trans hS (Turn.grown (Turn.refl _ _) HG2.out (fun j hj => .inl (by injection hj with hj; exact hj.symm)))
        clear hKr Kr
        refine wpAnyH_turn (Turn.trans hS (Turn.grown (Turn.refl _ _) HG2.out (fun j hj => .inl (by injection hj with hj; exact hj.symm)))) ?_
        clear hS
        have hS : Turn (· = M) w2 w2 := Turn.refl _ _
        try simp only [Act.put, List.setIfInBounds_toArray, List.set_cons_zero, List.set_cons_succ]
        refine wpAnyH_done (by kernel_rfl) ?_ _
        go_wp2_with fail
        go_ret
        exact ⟨rfl, HD2.out, (HT1.out.mono fun _ e => .inl e).trans HT2.out⟩
    · have hb : (D.has at_ && decide (l.length ≤ 64)) = false := by
        cases hD : D.has at_
        · rfl
        · exact decide_eq_false fun h2 => hat ⟨hD, h2⟩
      rw [hb] at hwe hw
      simp only [Bool.false_eq_true, if_false] at hwe hw
      rw [hwe, hw]
      have H := Lib.hid h
      cases hD : D.has at_
      · rw [hD] at hh
        clear h hgone hgf hb hat hwe hw hf
        generalize l.length = n at *
        go_enter Try.func23, Try.ntmps23
        go_wp2_with (first
          | (go_at_call 24; refine hg.mono ?_; rintro e w' ⟨rfl, hw⟩; replace hw := hw.symm; subst hw)
          | (go_at_call 29; refine hh.mono ?_; rintro e w' ⟨rfl, hw⟩; replace hw := hw.symm; subst hw))
        go_ret
        exact ⟨rfl, H.out, Turn.refl _ _⟩
      · rw [hD] at hh
        have hln : decide ((64 : Int) < (l.length : Int)) = true := decide_eq_true (by rw [hD] at hb; have := of_decide_eq_false hb; omega)
        clear h hgone hgf hb hat hwe hw hf
        generalize l.length = n at *
        go_enter Try.func23, Try.ntmps23
        go_wp2_with (first
          | (go_at_call 24; refine hg.mono ?_; rintro e w' ⟨rfl, hw⟩; replace hw := hw.symm; subst hw)
          | (go_at_call 29; refine hh.mono ?_; rintro e w' ⟨rfl, hw⟩; replace hw := hw.symm; subst hw))
        go_ret
        exact ⟨rfl, H.out, Turn.refl _ _⟩

end Go.Proofs.Ytnpgmiokimahiaa

namespace Go.Proofs.Ytnpgmiokimahiaa
set_option maxRecDepth 100000
open Go.RowKit Go.Maps

theorem Turn.toGrown {w w' : World} {g : Nat} (h : Turn (· = g) w w') : w.grownBy w' (some g) := ⟨h.os, h.tape, h.output, h.size, fun k hk hne => h.block k hk (fun e => hne (by rw [e]))⟩
theorem Turn.ofGrown {w w' : World} {g : Nat} (h : w.grownBy w' (some g)) : Turn (· = g) w w' := ⟨h.os, h.tape, h.output, h.size, fun k hk hne => h.block k hk (fun e => hne (by injection e))⟩
theorem Turn.ofNone {X : Nat → Prop} {w w' : World} (h : w.grownBy w' none) : Turn X w w' := ⟨h.os, h.tape, h.output, h.size, fun k hk _ => h.block k hk (by simp)⟩

/-- a sector in a new variable -/
theorem newsec_turn (X : Nat → Prop) (w : World) (old s : List UInt8) : Turn X w ((w.alloc (.cells (secC old) 60)).setRow w.heap.size (secC s)) := ((Turn.refl _ _).alloc _).setRow _ _ (.inr (Nat.le_refl _))
theorem secC_secs {s : List UInt8} (hs : s.length = 64) : secC s = secs 1 fun _ => s := by
  apply Array.ext_getElem?
  intro k
  rcases Nat.lt_or_ge k 64 with hk | hk
  · rw [get_secs _ _ _ (by omega), secC_get, Nat.mod_eq_of_lt hk, List.getD_eq_getElem?_getD, List.getElem?_eq_getElem (by omega)]
    rfl
  · rw [Array.getElem?_eq_none (by rw [size_secC hs]; exact hk), Array.getElem?_eq_none (by rw [size_secs]; omega)]
theorem newsec_load {X : Nat → Prop} {w : World} {old s : List UInt8} (hs : s.length = 64) (hx : ¬ X w.heap.size) : ∀ V, Turn X ((w.alloc (.cells (secC old) 60)).setRow w.heap.size (secC s)) V → (loadVar 60 ⟨w.heap.size, 0, none⟩).run Try.prog V = .ok (secV s) V := fun V hV => by
  have hg : ((w.alloc (.cells (secC old) 60)).setRow w.heap.size (secC s)).heap[w.heap.size]? = some (.cells (secC s) 60 (0, 0)) := setRow_heap _ _ _ _ _ _ (heap_alloc_new _ _)
  have hgV := (hV.block w.heap.size (lt_of_block hg) hx).trans hg
  rw [secC_secs hs] at hgV
  have := run_load_sec hgV 0 (by omega) hs
  simpa using this

/-- 'clear(d.cached)' -/
theorem wpList_clear {w : World} {ops : Array Oper} {rest : List Oper} {o : Oper} {a : Act} {Q : Exit → Act → World → Prop} (hgd : o.guard = none) (x : Operand) (ho : o.op = .call { callee := .builtin .clear, args := #[x], argTypes := #[51] })
    {M m : Nat} {late : Nat → Option (List UInt8)} (hx : a.eval x = .map (some M)) (hc : Cache w M m late)
    (h : ∀ w', Cache w' M 0 (fun _ => none) → w.grownBy w' (some M) → wpList Try.prog ops Q rest (a.put o.dst (.tuple #[])) w') : wpList Try.prog ops Q (o :: rest) a w := by
  refine wpList_plain hgd fun K hK => ?_
  obtain ⟨w', hrun, h1, h2⟩ := hc.clear o.type
  unfold Oper.wp
  simp [execOp, ho, resolve, invoke, builtin, hx, hrun, Result.andThen]
  exact hK _ _ (h w' h1 h2)

end Go.Proofs.Ytnpgmiokimahiaa

namespace Go.Proofs.Ytnpgmiokimahiaa
set_option maxRecDepth 100000
open Go.RowKit

end Go.Proofs.Ytnpgmiokimahiaa

namespace Go.Proofs.Ytnpgmiokimahiaa
set_option maxRecDepth 100000
open Go.RowKit Go.Maps

/-- numbers of sectors, as Go has them -/
def natI (l : List Nat) : List Int := l.map fun (i : Nat) => (i : Int)
def natV (l : List Nat) : List Value := l.map fun (i : Nat) => Value.int .i64 (i : Int)
theorem natV_eq (l : List Nat) : (natI l).map (Value.int .i64) = natV l := by simp [natI, natV]

/-- 'Cached' has answered the list in new memory -/
def Listed (w : World) (l : List Nat) (e : Ending) (w' : World) : Prop :=
  ∃ A n cap, e = .returned (.slice A n cap) ∧ n = l.length ∧ w'.ownsRow w.heap.size 3 1 (.slice A n cap) n (natV l) ∧ Below w.heap.size w w'

theorem int_facts : (Try.prog.info? 3).map (fun i => (i.zero, i.size, i.bytes)) = some (some (.int .i64 0), 1, 8) := by kernel_rfl

end Go.Proofs.Ytnpgmiokimahiaa

namespace Go.Proofs.Ytnpgmiokimahiaa
set_option maxRecDepth 100000
open Go.RowKit Go.Maps

/-- the n bools f lie there, and do so in every world that is as w but for the blocks of which X holds -/
def Bools (X : Nat → Prop) (w : World) (A : Option Addr) (n : Nat) (f : Nat → Bool) : Prop :=
  n = 0 ∨ ∃ b o, A = some ⟨b, o, none⟩ ∧ ∀ i, i < n → ∀ V, Turn X w V → V.cell? ⟨b, o + i, none⟩ = some (.bool (f i))
theorem Bools.turn {X : Nat → Prop} {w w' : World} {A : Option Addr} {n : Nat} {f : Nat → Bool} (h : Bools X w A n f) (ht : Turn X w w') : Bools X w' A n f := by
  rcases h with h | ⟨b, o, e, hc⟩
  · exact .inl h
  · exact .inr ⟨b, o, e, fun i hi V hV => hc i hi V (ht.trans hV)⟩
theorem Bools.mono {X X' : Nat → Prop} {w : World} {A : Option Addr} {n : Nat} {f : Nat → Bool} (h : Bools X w A n f) (hx : ∀ k, X' k → X k) : Bools X' w A n f := by
  rcases h with h | ⟨b, o, e, hc⟩
  · exact .inl h
  · exact .inr ⟨b, o, e, fun i hi V hV => hc i hi V (hV.mono hx)⟩
theorem Bools.nil {X : Nat → Prop} {w : World} {A : Option Addr} {f : Nat → Bool} : Bools X w A 0 f := .inl rfl

/-- the i-th is kept -/
def kp (n : Nat) (f : Nat → Bool) (m : Nat) : Bool := decide (m < n) && f m

/-- a list of sectors' numbers, cell by cell -/
theorem ints_cells {w : World} {base n cap : Nat} {A : Option Addr} {l : List Nat} (h : w.ownsRow base 3 1 (.slice A n cap) n (natV l)) (hn : 0 < n) : ∃ g, A = some ⟨g, 0, none⟩ ∧ base ≤ g ∧ g < w.heap.size ∧ ∀ j, j < l.length → w.cell? ⟨g, j, none⟩ = some (.int .i64 ((l.getD j 0 : Nat) : Int)) := by
  rcases h.2 with ⟨e, h0⟩ | ⟨g, c, cur, e, hb, hh, _, _, _, _⟩
  · omega
  · injection e with e1 _ e3
    subst e1
    refine ⟨g, rfl, hb, lt_of_block hh, fun j hj => ?_⟩
    have hc := h.cells (g := g) rfl j (.int .i64 ((l.getD j 0 : Nat) : Int)) (by
      unfold natV
      rw [List.getElem?_map, List.getElem?_eq_getElem hj, List.getD_eq_getElem?_getD, List.getElem?_eq_getElem hj]
      rfl)
    rw [addr_add, Nat.zero_add] at hc
    exact hc

end Go.Proofs.Ytnpgmiokimahiaa

namespace Go.Proofs.Ytnpgmiokimahiaa
set_option maxRecDepth 100000
open Go.RowKit

theorem read_nil (w : World) (at_ : Int) : Calls Try.prog 17 #[.pointer none, .int .i64 at_] w (ReadOut w [] 11) := by
  go_enter Try.func17, Try.ntmps17
  go_wp2_with (go_at_call 24; refine (gone_nil w).mono ?_; rintro e w' ⟨rfl, hw⟩; replace hw := hw.symm; subst hw)
  go_ret2
  exact ⟨_, _, _, rfl, .inl ⟨rfl, rfl, rfl, rfl⟩, Below.refl _ _⟩
theorem write_nil (w : World) (at_ : Int) (A : Option Addr) (n c : Nat) : Calls Try.prog 23 #[.pointer none, .int .i64 at_, .slice A n c] w fun e w' => e = .returned (.int .i64 11) ∧ w' = w := by
  go_enter Try.func23, Try.ntmps23
  go_wp2_with (go_at_call 24; refine (gone_nil w).mono ?_; rintro e w' ⟨rfl, hw⟩; replace hw := hw.symm; subst hw)
  go_ret
  exact ⟨rfl, rfl⟩
/-- a sector is read: it lies in a new block -/
def SecOut (w : World) (l : List UInt8) (e : Ending) (w' : World) : Prop :=
  ∃ g, e = .returned (.tuple #[.slice (some ⟨g, 0, none⟩) 64 64, .int .i64 0]) ∧ w.heap.size ≤ g ∧ w'.heap[g]? = some (.cells (secC l) 60 (0, 0)) ∧ Below w.heap.size w w'
theorem read_sec {w : World} {p L M : Nat} {D : Dv} (h : IsDev w p L M D) (at_ : Int) {l : List UInt8} (hl : D.read at_ = l) (h64 : l.length = 64) : Calls Try.prog 17 #[ptr p, .int .i64 at_] w (SecOut w l) := by
  have he : D.readE at_ = 0 := by
    unfold Dv.read at hl
    unfold Dv.readE
    by_cases h1 : D.gone = true
    · rw [if_pos h1] at hl
      subst hl
      cases h64
    · rw [if_neg h1] at hl ⊢
      by_cases h2 : D.has at_ = true
      · rw [if_pos h2]
      · rw [if_neg h2] at hl
        subst hl
        cases h64
  refine (dread_any h at_).mono ?_
  rintro e w' ⟨A, n, c, rfl, hg, hb⟩
  rw [hl] at hg
  rcases hg with ⟨rfl, _⟩ | ⟨g, rfl, rfl, rfl, _, h5, h6⟩
  · cases h64
  · exact ⟨g, by rw [he], h5, h6, hb⟩

/-- 'the device is as D, and all that was there when the call began is as it was' -/
structure Dr (w W : World) (p L M : Nat) (D : Dv) : Prop where
  dev : IsDev W p L M D
  bel : Below w.heap.size w W
  lo : w.heap.size ≤ p ∧ w.heap.size ≤ L ∧ w.heap.size ≤ M

section
variable {w W V : World} {p L M : Nat} {D E : Dv}
theorem Dr.turn (h : Dr w W p L M D) (hd : IsDev V p L M E) (ht : Turn (DS p L M) W V) : Dr w V p L M E :=
  ⟨hd, h.bel.trans (ht.below (fun k hk => by rcases hk with rfl | rfl | rfl; exact h.lo.1; exact h.lo.2.1; exact h.lo.2.2) h.bel.size), h.lo⟩
theorem Dr.below (h : Dr w W p L M D) (hb : Below W.heap.size W V) : Dr w V p L M D :=
  ⟨h.dev.turn (Turn.ofBelow (S := fun _ => False) hb) (fun h => h) (fun h => h) (fun h => h), h.bel.trans (hb.mono h.bel.size), h.lo⟩
theorem Dr.alloc (h : Dr w W p L M D) (o : Obj) : Dr w (W.alloc o) p L M D := h.below ((Below.refl _ _).alloc (Nat.le_refl _) o)
/-- bytes of an argument -/
theorem Dr.firm (h : Dr w W p L M D) {A : Option Addr} {l : List UInt8} (hr : Rd w w.heap.size A l) : Firm (DS p L M) W A l :=
  (hr.below h.bel).firm h.bel.size (fun k hk => by rcases hk with rfl | rfl | rfl; exact h.lo.1; exact h.lo.2.1; exact h.lo.2.2)
/-- one byte in a block that is no block of the device's -/
theorem firm_one {X : Nat → Prop} {W : World} (x : UInt8) (z : Int) (hz : z = (x.toNat : Int)) (hx : ¬ X W.heap.size) (fr : Nat × Nat) : Firm X (W.alloc (.cells #[.int .u8 z] 5 fr)) (some ⟨W.heap.size, 0, none⟩) [x] := by
  subst hz
  refine Firm.block hx (by simp) fun j y hy => ?_
  have hj : j = 0 := by
    have := (List.getElem?_eq_some_iff.1 hy).1
    simpa using this
  subst hj
  simp at hy
  subst hy
  rw [cell_of_row _ _ _ _ _ _ (heap_alloc_new W _)]
  rfl
theorem Dr.notNew (h : Dr w W p L M D) : ¬ DS p L M W.heap.size := fun hk => by
  have := h.dev.lt
  rcases hk with e | e | e <;> omega
end

theorem newdr {w W : World} (hb : Below w.heap.size w W) (n : Nat) (h1 : 1 ≤ n) (h2 : n ≤ 4096) : Calls Try.prog 10 #[.int .i64 (n : Int)] W fun e W' => ∃ p L M, e = .returned (.tuple #[ptr p, .int .i64 0]) ∧ Dr w W' p L M (.fresh n) ∧ Below W.heap.size W W' ∧ W.heap.size ≤ p ∧ W.heap.size ≤ L ∧ W.heap.size ≤ M := by
  refine (newdev_any W n h1 h2).mono ?_
  rintro e W' ⟨p, L, M, rfl, hd, hb2, g1, g2, g3⟩
  have := hb.size
  exact ⟨p, L, M, rfl, ⟨hd, hb.trans (hb2.mono hb.size), by omega, by omega, by omega⟩, hb2, g1, g2, g3⟩

end Go.Proofs.Ytnpgmiokimahiaa

namespace Go.Proofs.Ytnpgmiokimahiaa
set_option maxRecDepth 100000
open Go.RowKit

namespace Dv
structure Free (D : Dv) : Prop where
  gone : D.gone = false
  left : D.left = -1

variable {D : Dv}
theorem free_fresh (n : Nat) : (fresh n).Free := ⟨rfl, rfl⟩
theorem Free.more (h : D.Free) : D.more.Free := ⟨h.gone, by show max (D.left - 1) (-1) = _; rw [h.left]; rfl⟩
theorem Free.put (h : D.Free) (i : Nat) (s : List UInt8) : (D.put i s).Free := ⟨h.gone, h.left⟩
theorem has_of {i : Nat} (hi : i < D.n) : D.has (i : Int) = true := by
  unfold Dv.has
  rw [decide_eq_true (by omega), decide_eq_true (by omega)]
  rfl
theorem Free.writeE (h : D.Free) {i : Nat} (hi : i < D.n) {b : List UInt8} (hb : b.length ≤ 64) : D.writeE (i : Int) b = 0 := by
  unfold Dv.writeE
  rw [h.gone, if_neg Bool.false_ne_true, has_of hi, decide_eq_true hb, h.left]
  rfl
theorem Free.write (h : D.Free) {i : Nat} (hi : i < D.n) {b : List UInt8} (hb : b.length ≤ 64) : D.write (i : Int) b = D.more.put i (pad b) := by
  unfold Dv.write
  rw [h.gone, if_neg Bool.false_ne_true, has_of hi, decide_eq_true hb, h.left]
  rfl
theorem Free.wrote (h : D.Free) (at_ : Int) (b : List UInt8) : (D.write at_ b).Free := by
  unfold Dv.write
  rw [h.gone, if_neg Bool.false_ne_true, h.left]
  split
  · exact ⟨h.gone, h.more.left⟩
  · exact h
theorem free_crash (D : Dv) (keep : Nat → Bool) : (D.crash keep).Free := ⟨rfl, rfl⟩
theorem Free.read (h : D.Free) {i : Nat} (hi : i < D.n) : D.read (i : Int) = (D.late i).getD (D.laid i) := by
  unfold Dv.read
  rw [h.gone, if_neg Bool.false_ne_true, has_of hi]
  rfl
theorem Free.readE (h : D.Free) {i : Nat} (hi : i < D.n) : D.readE (i : Int) = 0 := by
  unfold Dv.readE
  rw [h.gone, if_neg Bool.false_ne_true, has_of hi]
  rfl
/-- nothing is cached: a crash turns nothing -/
theorem keys_none (h : ∀ i, D.late i = none) : D.keys = [] := by
  unfold Dv.keys
  rw [List.filter_eq_nil_iff]
  intro i _
  rw [h i]
  simp
theorem crash_none (h : ∀ i, D.late i = none) (keep : Nat → Bool) : (D.crash keep).laid = D.laid := by
  show lay D.late D.laid keep D.keys D.keys.length = _
  rw [keys_none h]
  rfl
end Dv

theorem below_drewN {B : Nat} {a w : World} (h : Below B a w) (q : Nat) : Below B a (w.drewN q) := ⟨h.os, h.tape, h.output, h.size, h.block⟩

/-- a slice of bytes that came in, byte by byte, in each world that is as it was below -/
theorem arg_byte {w : World} {a : Option Addr} {l : List UInt8} (hr : Rd w w.heap.size a l) {j : Nat} (hj : j < l.length) : ∃ b o, a = some ⟨b, o, none⟩ ∧ ∀ V, Below w.heap.size w V → V.cell? ⟨b, o + j, none⟩ = some (.int .u8 ((l[j]).toNat : Int)) := by
  obtain ⟨b, o, e, hb, hc⟩ := hr.cell hj
  exact ⟨b, o, e, fun V hV => (hV.cell (p := ⟨b, o + j, none⟩) hb).trans hc⟩

end Go.Proofs.Ytnpgmiokimahiaa
