/-
  Flush: all that is cached is laid down, in whatever order the map tells it.
-/
import Derived.Test.YtaidjnpbjoncoaaDevWrite
import Derived.LoopTactic
namespace Go.Proofs.Ytaidjnpbjoncoaa
open Go.RowKit Go.Maps

theorem Turn.toGrown {w w' : World} {g : Nat} (h : Turn (· = g) w w') : w.grownBy w' (some g) := ⟨h.os, h.tape, h.output, h.size, fun k hk hne => h.block k hk (fun e => hne (by rw [e]))⟩
theorem Turn.ofGrown {w w' : World} {g : Nat} (h : w.grownBy w' (some g)) : Turn (· = g) w w' := ⟨h.os, h.tape, h.output, h.size, fun k hk hne => h.block k hk (fun e => hne (by injection e))⟩
theorem Turn.ofNone {X : Nat → Prop} {w w' : World} (h : w.grownBy w' none) : Turn X w w' := ⟨h.os, h.tape, h.output, h.size, fun k hk _ => h.block k hk (by simp)⟩

/-- a sector in a new variable -/
theorem newsec_turn (X : Nat → Prop) (w : World) (old s : List UInt8) : Turn X w ((w.alloc (.cells (secC old) 60)).setRow w.heap.size (secC s)) := ((Turn.refl _ _).alloc _).setRow _ _ (.inr (Nat.le_refl _))
theorem secC_secs {s : List UInt8} (hs : s.length = 64) : secC s = secs 1 fun _ => s := by
  apply Array.ext_getElem?
  intro k
  rcases Nat.lt_or_ge k 64 with hk | hk
  · rw [get_secs _ _ _ (by omega), secC_get, Nat.mod_eq_of_lt hk, List.getD_eq_getElem?_getD, List.getElem?_eq_getElem (by omega)]
    rfl
  · rw [Array.getElem?_eq_none (by rw [size_secC hs]; exact hk), Array.getElem?_eq_none (by rw [size_secs]; omega)]
theorem newsec_load {X : Nat → Prop} {w : World} {old s : List UInt8} (hs : s.length = 64) (hx : ¬ X w.heap.size) : ∀ V, Turn X ((w.alloc (.cells (secC old) 60)).setRow w.heap.size (secC s)) V → (loadVar 60 ⟨w.heap.size, 0, none⟩).run Try.prog V = .ok (secV s) V := fun V hV => by
  have hg : ((w.alloc (.cells (secC old) 60)).setRow w.heap.size (secC s)).heap[w.heap.size]? = some (.cells (secC s) 60 (0, 0)) := setRow_heap _ _ _ _ _ _ (heap_alloc_new _ _)
  have hgV := (hV.block w.heap.size (lt_of_block hg) hx).trans hg
  rw [secC_secs hs] at hgV
  have := run_load_sec hgV 0 (by omega) hs
  simpa using this

/-- 'clear(d.cached)' -/
theorem wpList_clear {w : World} {ops : Array Oper} {rest : List Oper} {o : Oper} {a : Act} {Q : Exit → Act → World → Prop} (hgd : o.guard = none) (x : Operand) (ho : o.op = .call { callee := .builtin .clear, args := #[x], argTypes := #[56] })
    {M m : Nat} {late : Nat → Option (List UInt8)} (hx : a.eval x = .map (some M)) (hc : Cache w M m late)
    (h : ∀ w', Cache w' M 0 (fun _ => none) → w.grownBy w' (some M) → wpList Try.prog ops Q rest (a.put o.dst (.tuple #[])) w') : wpList Try.prog ops Q (o :: rest) a w := by
  refine wpList_plain hgd fun K hK => ?_
  obtain ⟨w', hrun, h1, h2⟩ := hc.clear o.type
  unfold Oper.wp
  simp [execOp, ho, resolve, invoke, builtin, hx, hrun, Result.andThen]
  exact hK _ _ (h w' h1 h2)

/-- what is laid down while those of which left holds are still to come -/
def mid (late : Nat → Option (List UInt8)) (laid : Nat → List UInt8) (left : Lit → Bool) (i : Nat) : List UInt8 := if left (keyL i) then laid i else (late i).getD (laid i)

theorem mid_step {late : Nat → Option (List UInt8)} {laid : Nat → List UInt8} {left : Lit → Bool} {i : Nat} {s : List UInt8} (hs : late i = some s) (j : Nat) :
    (if j = i then s else mid late laid left j) = mid late laid (fun z => left z && !z.sameKey (keyL i)) j := by
  unfold mid
  by_cases e : j = i
  · subst e
    show _ = if (left (keyL j) && !(keyL j).sameKey (keyL j)) = true then laid j else (late j).getD (laid j)
    rw [if_pos rfl, WideAt.sameKey_self (show WideAt.IsKeyLit (keyL j) from trivial), hs]
    simp
  · show _ = if (left (keyL j) && !(keyL j).sameKey (keyL i)) = true then laid j else (late j).getD (laid j)
    rw [if_neg e, sameKey_ne (keyL_ne e)]
    simp

/-- an entry that the map tells -/
theorem Reads.entry {D : DataW Unit} {late : Nat → Option (List UInt8)} (h : Reads D late) {x : Int} {c : List UInt8} {kl : Lit} {y : DataW Unit × List MemPlace} (hkey : keyOf Try.prog 3 (.int .i64 x) = some kl) (hv : secElem (secV c) = some y) (hat : ∀ zd, D.atKey kl zd = y.1) :
    ∃ i : Nat, x = (i : Int) ∧ kl = keyL i ∧ late i = some c ∧ c.length = 64 := by
  obtain ⟨x', ex, rfl, hwx⟩ := Maps.keyOf_int_inv Try.underlying3 hkey
  cases ex
  obtain ⟨s, hs, e1, e2⟩ := secElem_inv hv
  obtain rfl := secV_inj e1
  have hhas : Maps.has D (.int .i64 x) = true := has_true_of_atKey hat
  have hx0 : 0 ≤ x := by
    rcases Int.lt_or_le x 0 with h1 | h1
    · rw [h.neg x h1] at hhas; cases hhas
    · exact h1
  obtain ⟨i, rfl⟩ : ∃ i : Nat, x = (i : Int) := ⟨x.toNat, by omega⟩
  refine ⟨i, rfl, rfl, ?_, hs⟩
  have hh := h.has i
  rw [show Maps.has D (keyL i) = true from hhas] at hh
  obtain ⟨t, ht⟩ := Option.isSome_iff_exists.1 hh.symm
  have h2 := h.at_ i t ht .nil
  rw [show D.atKey (keyL i) .nil = y.1 from hat _, e2] at h2
  simp only [DataW.lit.injEq, Lit.string.injEq] at h2
  rw [ht, h2]

theorem invK : ∀ key kl, keyOf Try.prog 3 key = some kl → ∃ x, key = Value.int .i64 x := fun key kl h => by
  obtain ⟨x, rfl, _⟩ := Maps.keyOf_int_inv Try.underlying3 h
  exact ⟨x, rfl⟩
theorem invV : ∀ v (y : DataW Unit × List MemPlace), secElem v = some y → ∃ c, v = secV c := fun v y h => by
  obtain ⟨s, _, rfl, _⟩ := secElem_inv h
  exact ⟨s, rfl⟩

/-- between two rounds: nothing but the sectors has turned -/
structure Mid (w1 wr : World) (L M r m n : Nat) (Dd : DataW Unit) (late : Nat → Option (List UInt8)) (laid : Nat → List UInt8) (left : Lit → Bool) (cnt : Nat) : Prop where
  rg : wr.ranges Try.prog 3 secElem M r m Dd left cnt
  lD : wr.heap[L]? = some (.cells (secs n (mid late laid left)) 60 (0, 0))
  turn : Turn (· = L) w1 wr

/-- what the round's last region finds, and leaves -/
structure Lay (w1 W : World) (p L M r m n g i : Nat) (Dd : DataW Unit) (late : Nat → Option (List UInt8)) (laid : Nat → List UInt8) (left : Lit → Bool) (cnt : Nat) (s : List UInt8) : Prop where
  c0 : ∀ V, Turn (· = L) W V → V.cell? ⟨p, 0, none⟩ = some (.slice (some ⟨L, 0, none⟩) n n)
  ld : ∀ V, Turn (· = L) W V → (loadVar 60 ⟨g, 0, none⟩).run Try.prog V = .ok (secV s) V
  lD : W.drew.heap[L]? = some (.cells (secs n (mid late laid left)) 60 (0, 0))
  turn : Turn (· = L) W (W.drew.setRow L (secs n fun j => if j = i then s else mid late laid left j))
  next : Mid w1 (W.drew.setRow L (secs n fun j => if j = i then s else mid late laid left j)) L M r m n Dd late laid (fun z => left z && !z.sameKey (keyL i)) cnt

theorem lay_mk {w1 wr W : World} {p L M r m n i : Nat} {Dd : DataW Unit} {late : Nat → Option (List UInt8)} {laid : Nat → List UInt8} {left : Lit → Bool} {cnt cnt2 : Nat} {s old : List UInt8} (h : Mid w1 wr L M r m n Dd late laid left cnt)
    (hr : w1.heap.size ≤ r) (hL : L < w1.heap.size) (hML : L ≠ M) (c0 : w1.cell? ⟨p, 0, none⟩ = some (.slice (some ⟨L, 0, none⟩) n n)) (hpL : p ≠ L)
    (hrg : W.ranges Try.prog 3 secElem M r m Dd (fun z => left z && !z.sameKey (keyL i)) cnt2) (hg : wr.grownBy W (some r)) (hs : s.length = 64) (hi : late i = some s) :
    Lay w1 ((W.alloc (.cells (secC old) 60)).setRow W.heap.size (secC s)) p L M r m n W.heap.size i Dd late laid left cnt2 s := by
  have hLw : L < wr.heap.size := Nat.lt_of_lt_of_le hL h.turn.size
  have hT2 : Turn (fun _ => False) W ((W.alloc (.cells (secC old) 60)).setRow W.heap.size (secC s)) := newsec_turn _ _ _ _
  have hb1 : W.heap[L]? = some (.cells (secs n (mid late laid left)) 60 (0, 0)) := (hg.block L hLw (fun e => by injection e with e; omega)).trans h.lD
  have hb2 : ((W.alloc (.cells (secC old) 60)).setRow W.heap.size (secC s)).heap[L]? = some (.cells (secs n (mid late laid left)) 60 (0, 0)) := (hT2.block L (lt_of_block hb1) (fun h => h)).trans hb1
  have hT1 : Turn (· = L) w1 W := h.turn.grown hg (fun j hj => .inr (by injection hj with hj; omega))
  have hT : Turn (· = L) w1 ((W.alloc (.cells (secC old) 60)).setRow W.heap.size (secC s)) := hT1.trans (hT2.mono fun _ h => h.elim)
  have hT3 : Turn (· = L) ((W.alloc (.cells (secC old) 60)).setRow W.heap.size (secC s)) (((W.alloc (.cells (secC old) 60)).setRow W.heap.size (secC s)).drew.setRow L (secs n fun j => if j = i then s else mid late laid left j)) := (Turn.refl _ _).drew.setRow _ _ (.inl rfl)
  refine ⟨fun V hV => (hT.trans hV).cell c0 hpL, newsec_load hs (fun e => by have e' : W.heap.size = L := e; have := lt_of_block hb1; omega), hb2, hT3, ?_, ?_, hT.trans hT3⟩
  · exact hrg.kept (row := some L) ((hT2.mono fun _ h => h.elim).trans hT3).toGrown (fun e => hML (by injection e with e; exact e.symm)) (fun e => by injection e with e; omega)
  · have hb3 : ((W.alloc (.cells (secC old) 60)).setRow W.heap.size (secC s)).drew.heap[L]? = some (.cells (secs n (mid late laid left)) 60 (0, 0)) := hb2
    rw [setRow_heap _ _ _ _ _ _ hb3, secs_eq n _ _ fun j _ => mid_step hi j]

theorem mid_end {w1 wr : World} {L M r m n : Nat} {D : Dv} {Dd : DataW Unit} {left : Lit → Bool} {cnt : Nat} (h : Mid w1 wr L M r m n Dd D.late D.laid left cnt) (hl : ∀ kl, left kl = false) (hR : Reads Dd D.late) :
    Cache wr M m D.late ∧ wr.heap[L]? = some (.cells (secs n D.settle.laid) 60 (0, 0)) := by
  refine ⟨⟨Dd, h.rg.owns, hR⟩, ?_⟩
  rw [h.lD, secs_eq n _ D.settle.laid fun j _ => by unfold mid; rw [hl]; rfl]

theorem mid_start {w1 w0 : World} {p L M : Nat} {D : Dv} {Dd : DataW Unit} (h : IsDev w1 p L M D) (hR : Reads Dd D.late) (hrg : w0.ranges Try.prog 3 secElem M w1.heap.size D.spent Dd (Maps.has Dd) (Maps.size Dd)) (hg : w1.grownBy w0 none) :
    Mid w1 w0 L M w1.heap.size D.spent D.n Dd D.late D.laid (Maps.has Dd) (Maps.size Dd) := by
  refine ⟨hrg, ?_, Turn.ofNone hg⟩
  rw [hg.block L h.lt.2.1 (by simp), h.laid, secs_eq D.n D.laid _ fun j _ => ?_]
  unfold mid
  rw [hR.has j]
  cases D.late j <;> rfl

/-- the flush's end -/
theorem flush_end {w1 wr w3 : World} {p L M r m : Nat} {D : Dv} {Dd : DataW Unit} {left : Lit → Bool} {cnt : Nat} (h : IsDev w1 p L M D) (hm : Mid w1 wr L M r m D.n Dd D.late D.laid left cnt) (hl : ∀ kl, left kl = false) (hR : Reads Dd D.late)
    (hc : Cache w3 M 0 fun _ => none) (hg : wr.grownBy w3 (some M)) : IsDev w3 p L M D.settle ∧ Turn (DS p L M) w1 w3 := by
  have hb := h.lt
  have nm := h.nm
  obtain ⟨_, hL⟩ := mid_end hm hl hR
  obtain ⟨ok, ne, ⟨c, h1, h2, h3⟩, h4, h5⟩ := h
  have hp3 : w3.heap[p]? = w1.heap[p]? := (hg.block p (Nat.lt_of_lt_of_le hb.1 hm.turn.size) (fun e => nm.2.1 (by injection e))).trans (hm.turn.block p hb.1 nm.1)
  have hL3 : w3.heap[L]? = wr.heap[L]? := hg.block L (lt_of_block hL) (fun e => nm.2.2 (by injection e))
  exact ⟨⟨ok.settle, ne, ⟨c, h1, h2, hp3.trans h3⟩, hL3.trans hL, hc.mono (Nat.zero_le _)⟩, (hm.turn.mono fun _ e => .inr (.inl e)).grown hg (fun j hj => .inl (.inr (.inr (by injection hj with hj; exact hj.symm))))⟩

set_option maxRecDepth 100000 in
set_option maxHeartbeats 1000000 in
theorem flush_any {w : World} {p L M : Nat} {D : Dv} (h : IsDev w p L M D) (hf : D.spent ≤ 1000000) : Calls Try.prog 15 #[ptr p] w fun e w' => e = .returned (.int .i64 D.flushE) ∧ IsDev w' p L M D.flush ∧ Turn (DS p L M) w w' := by
  have hg := gone_any h
  by_cases hgone : D.gone = true
  · rw [hgone] at hg
    unfold Dv.flush Dv.flushE
    rw [if_pos hgone, if_pos hgone]
    have H := Lib.hid h
    clear h hgone
    go_enter Try.func15, Try.ntmps15
    go_wp2_with (go_at_call 23; refine hg.mono ?_; rintro e w' ⟨rfl, hw⟩; replace hw := hw.symm; subst hw)
    go_ret
    exact ⟨rfl, H.out, Turn.refl _ _⟩
  · have hgf : D.gone = false := by cases hD : D.gone <;> simp_all
    rw [hgf] at hg
    have hwe : D.flushE = if D.left = 0 then 11 else 0 := by unfold Dv.flushE; rw [if_neg hgone]
    have hw : D.flush = if D.left = 0 then D.die else D.more.settle := by unfold Dv.flush; rw [if_neg hgone]
    have hsp := spend_any h hf
    by_cases hleft : D.left = 0
    · have hse : spendE D = 11 := by unfold spendE; rw [if_pos hleft]
      have hsd : D.spend = D.die := by unfold Dv.spend; rw [if_pos hleft]
      rw [if_pos hleft] at hwe hw
      rw [hse, hsd] at hsp
      rw [hwe, hw]
      clear h hgone hleft hse hsd hwe hw hf hgf
      go_enter Try.func15, Try.ntmps15
      go_wp2_with (first
        | (go_at_call 23; refine hg.mono ?_; rintro e w' ⟨rfl, hw⟩; replace hw := hw.symm; subst hw)
        | (go_at_call 30; refine hsp.mono ?_; rintro e w1 ⟨rfl, hd1, ht1⟩; have HD1 := Lib.hid hd1; have HT1 := Lib.hid ht1; clear hd1 ht1))
      go_ret
      exact ⟨rfl, HD1.out, HT1.out.mono fun _ e => .inl e⟩
    · have hse : spendE D = 0 := by unfold spendE; rw [if_neg hleft]
      have hsd : D.spend = D.more := by unfold Dv.spend; rw [if_neg hleft]
      rw [if_neg hleft] at hwe hw
      rw [hse, hsd] at hsp
      rw [hwe, hw]
      clear h hgone hleft hse hsd hwe hw hf hgf
      generalize D.more = E at hsp ⊢
      go_enter Try.func15, Try.ntmps15
      go_wp2_with (first
        | (go_at_call 23; refine hg.mono ?_; rintro e w' ⟨rfl, hw⟩; replace hw := hw.symm; subst hw)
        | (go_at_call 30; refine hsp.mono ?_; rintro e w1 ⟨rfl, hd1, ht1⟩; obtain ⟨Dd, hown, hR⟩ := hd1.cache; have c1 := hd1.c1; have HO := Lib.hid hown; have HR := Lib.hid hR; have HD1 := Lib.hid hd1; have HT1 := Lib.hid ht1; clear hd1 ht1 hown hR)
        | (at_range; refine wpList_range_own _ rfl _ 56 rfl 3 60 lawK Try.underlying56 secElem M E.spent Dd rfl HO.out ?_; intro w0 hrg0 hg0 hs0; have HM : Hid (Mid w1 w0 L M w1.heap.size E.spent E.n Dd E.late E.laid (Maps.has Dd) (Maps.size Dd)) := Lib.hid (mid_start HD1.out HR.out hrg0 hg0); clear hrg0 hg0 hs0))
      go_frame
      go_loopw [4] (fun _ wr => ∃ left cnt, Hid (Mid w1 wr L M w1.heap.size E.spent E.n Dd E.late E.laid left cnt)) (fun _ wr => wr.rangeLeft M w1.heap.size)
      case atStart => exact ⟨_, _, HM.out⟩
      case round =>
        obtain ⟨left, cnt, HM2⟩ := hrel
        have d1 := HM2.out.turn.cell c1 (a := ⟨p, 1, none⟩) HD1.out.nm.1
        clear HM
        go_wp2_with (at_next; refine wpList_next_ranges _ rfl _ rfl 3 lawK secElem (Value.int .i64) secV invK invV M w1.heap.size E.spent _ _ _ rfl HM2.out.rg ?_ ?_)
        · intro hc0 hl0
          have HL0 := Lib.hid hl0
          have HCE := Lib.hid (mid_end HM2.out hl0 HR.out).1
          clear hc0 hl0
          go_wp2_with (refine wpList_clear rfl (.tmp 33) rfl rfl HCE.out ?_; intro w3 hc3 hg3; have HE := Lib.hid (flush_end HD1.out HM2.out HL0.out HR.out hc3 hg3); clear hc3 hg3)
          go_ret
          exact ⟨rfl, HE.out.1, (HT1.out.mono fun _ e => .inl e).trans HE.out.2⟩
        intro x c kl yd yp w2 cnt2 hkey hlk hv hat hrg2 hlt hg2 hs2 hen
        obtain ⟨i, rfl, rfl, hi, hs⟩ := HR.out.entry hkey hv hat
        have hin := HD1.out.ok.inn i c hi
        have HLY := Lib.hid (lay_mk (old := Dv.zeros) HM2.out (Nat.le_refl _) HD1.out.lt.2.1 HD1.out.nm.2.2 HD1.out.c0 HD1.out.nm.1 hrg2 hg2 hs hi)
        have HLT := Lib.hid hlt
        have HLE := Lib.hid HM2.out.rg.left_eq
        clear hkey hlk hv hat hrg2 hlt hg2 hs2 hi
        go_wp2_with (first
          | ((with_reducible refine wpList_alloc_zero (by rfl) 60 (by rfl) _ info_sec ?_))
          | (refine wpList_store_row rfl 60 (.tmp 5) (.tmp 22) rfl w2.heap.size (secC c) rfl rfl _ _ (heap_alloc_new _ _) (by rw [size_secC hs]; exact info_size) (by rw [size_secC hs, size_secC Dv.len_zeros]) (secC_one _) ?_; generalize ((w2.alloc (.cells (secC Dv.zeros) 60)).setRow w2.heap.size (secC c)) = W1 at *))
        have hC0 := HLY.out.c0
        refine wp_region_turn (X := (· = L)) (by kernel_rfl) ?_
        have hS : Turn (· = L) W1 (World.drew W1) := (Turn.refl _ _).drew
        refine wpAnyH_take (i := 0) (oi := ⟨some 23, _, _, _, _, _⟩) (v := ?_) rfl (by kernel_rfl) (by kernel_rfl) (by kernel_rfl) (fun _ _ _ h => h) (Or.inl ⟨by rfl, ?_⟩) hS ?_
        rotate_left
        · intro W hW; go_simp; with_reducible rfl
        try simp only [Act.put, List.setIfInBounds_toArray, List.set_cons_zero, List.set_cons_succ]
        refine wpAnyH_take (i := 1) (oi := ⟨some 24, _, _, _, _, _⟩) (v := ?_) rfl (by kernel_rfl) (by kernel_rfl) (by kernel_rfl) (fun _ _ _ h => h) (Or.inl ⟨by rfl, ?_⟩) hS ?_
        rotate_left
        · intro W hW; go_simp; with_reducible rfl
        try simp only [Act.put, List.setIfInBounds_toArray, List.set_cons_zero, List.set_cons_succ]
        refine wpAnyH_take (i := 2) (oi := ⟨some 25, _, _, _, _, _⟩) (v := ?_) rfl (by kernel_rfl) (by kernel_rfl) (by kernel_rfl) (fun _ _ _ h => h) (Or.inl ⟨by rfl, ?_⟩) hS ?_
        rotate_left
        · intro W hW; go_simp; with_reducible rfl
        try simp only [Act.put, List.setIfInBounds_toArray, List.set_cons_zero, List.set_cons_succ]
        refine wpAnyH_take (i := 3) (oi := ⟨some 26, _, _, _, _, _⟩) (v := ?_) rfl (by kernel_rfl) (by kernel_rfl) (by kernel_rfl) (fun _ _ _ h => h) (Or.inl ⟨by rfl, ?_⟩) hS ?_
        rotate_left
        · intro W hW; go_simp; with_reducible rfl
        try simp only [Act.put, List.setIfInBounds_toArray, List.set_cons_zero, List.set_cons_succ]
        refine wpAnyH_take (i := 4) (oi := ⟨some 27, _, _, _, _, _⟩) (v := ?_) rfl (by kernel_rfl) (by kernel_rfl) (by kernel_rfl) (fun _ _ _ h => h) (Or.inl ⟨by rfl, ?_⟩) hS ?_
        rotate_left
        · intro W hW; go_simp; with_reducible rfl
        try simp only [Act.put, List.setIfInBounds_toArray, List.set_cons_zero, List.set_cons_succ]
        refine wpAnyH_take (i := 5) (oi := ⟨some 28, _, _, _, _, _⟩) (v := secV c) rfl (by kernel_rfl) (by kernel_rfl) (by kernel_rfl) (fun _ _ _ h => h) (Or.inl ⟨by rfl, fun W hW => exec_load rfl rfl (HLY.out.ld W hW)⟩) hS ?_
        try simp only [Act.put, List.setIfInBounds_toArray, List.set_cons_zero, List.set_cons_succ]
        refine wpAnyH_take (i := 6) (oi := ⟨some 29, _, _, _, _, _⟩) (v := ?_) rfl (by kernel_rfl) (by kernel_rfl) (by kernel_rfl) (fun _ _ _ h => h) (Or.inl ⟨by rfl, ?_⟩) hS ?_
        rotate_left
        · intro W hW; go_simp; with_reducible rfl
        try simp only [Act.put, List.setIfInBounds_toArray, List.set_cons_zero, List.set_cons_succ]
        -- operation 7: a step
        refine wpAnyH_ready (rs := [7]) (by kernel_rfl) (by simp) ?_
        refine AllReadyH.cons (o := ⟨none, _, _, _, _, _⟩) rfl (fun Kr hKr => ?_) AllReadyH.nil
        rw [if_pos (by kernel_rfl)]
        refine wp_store_sec (.tmp 29) (.tmp 28) rfl rfl rfl HLY.out.lD hin hs ?_
        show Kr _ _
        refine hKr.out _ _ ?_ (fun _ => ?_)
        · exact Turn.trans hS ((Turn.refl (· = L) W1.drew).setRow L (secs E.n fun j => if j = i then c else mid E.late E.laid left j) (.inl rfl))
        clear hKr Kr
        refine wpAnyH_turn (Turn.trans hS ((Turn.refl (· = L) W1.drew).setRow L (secs E.n fun j => if j = i then c else mid E.late E.laid left j) (.inl rfl))) ?_
        clear hS
        have hS : Turn (· = L) (W1.drew.setRow L (secs E.n fun j => if j = i then c else mid E.late E.laid left j)) (W1.drew.setRow L (secs E.n fun j => if j = i then c else mid E.late E.laid left j)) := Turn.refl _ _
        try simp only [Act.put]
        refine wpAnyH_done (by kernel_rfl) ?_ _
        go_wp2_with fail
        refine ⟨⟨_, _, Lib.hid HLY.out.next⟩, ?_⟩
        rw [HLY.out.next.rg.left_eq, HLE.out]
        exact HLT.out

end Go.Proofs.Ytaidjnpbjoncoaa
