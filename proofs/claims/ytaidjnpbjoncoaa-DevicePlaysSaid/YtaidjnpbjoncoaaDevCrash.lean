/-
  Crash: of what is cached that which is kept is laid down, the rest is lost.
-/
import Derived.Test.YtaidjnpbjoncoaaDevCached
namespace Go.Proofs.Ytaidjnpbjoncoaa
open Go.RowKit Go.Maps

/-- the n bools f lie there, and do so in every world that is as w but for the blocks of which X holds -/
def Bools (X : Nat → Prop) (w : World) (A : Option Addr) (n : Nat) (f : Nat → Bool) : Prop :=
  n = 0 ∨ ∃ b o, A = some ⟨b, o, none⟩ ∧ ∀ i, i < n → ∀ V, Turn X w V → V.cell? ⟨b, o + i, none⟩ = some (.bool (f i))
theorem Bools.turn {X : Nat → Prop} {w w' : World} {A : Option Addr} {n : Nat} {f : Nat → Bool} (h : Bools X w A n f) (ht : Turn X w w') : Bools X w' A n f := by
  rcases h with h | ⟨b, o, e, hc⟩
  · exact .inl h
  · exact .inr ⟨b, o, e, fun i hi V hV => hc i hi V (ht.trans hV)⟩
theorem Bools.mono {X X' : Nat → Prop} {w : World} {A : Option Addr} {n : Nat} {f : Nat → Bool} (h : Bools X w A n f) (hx : ∀ k, X' k → X k) : Bools X' w A n f := by
  rcases h with h | ⟨b, o, e, hc⟩
  · exact .inl h
  · exact .inr ⟨b, o, e, fun i hi V hV => hc i hi V (hV.mono hx)⟩
theorem Bools.nil {X : Nat → Prop} {w : World} {A : Option Addr} {f : Nat → Bool} : Bools X w A 0 f := .inl rfl

/-- the i-th is kept -/
def kp (n : Nat) (f : Nat → Bool) (m : Nat) : Bool := decide (m < n) && f m

/-- a list of sectors' numbers, cell by cell -/
theorem ints_cells {w : World} {base n cap : Nat} {A : Option Addr} {l : List Nat} (h : w.ownsRow base 3 1 (.slice A n cap) n (natV l)) (hn : 0 < n) : ∃ g, A = some ⟨g, 0, none⟩ ∧ base ≤ g ∧ g < w.heap.size ∧ ∀ j, j < l.length → w.cell? ⟨g, j, none⟩ = some (.int .i64 ((l.getD j 0 : Nat) : Int)) := by
  rcases h.2 with ⟨e, h0⟩ | ⟨g, c, cur, e, hb, hh, _, _, _, _⟩
  · omega
  · injection e with e1 _ e3
    subst e1
    refine ⟨g, rfl, hb, lt_of_block hh, fun j hj => ?_⟩
    have hc := h.cells (g := g) rfl j (.int .i64 ((l.getD j 0 : Nat) : Int)) (by
      unfold natV
      rw [List.getElem?_map, List.getElem?_eq_getElem hj, List.getD_eq_getElem?_getD, List.getElem?_eq_getElem hj]
      rfl)
    rw [addr_add, Nat.zero_add] at hc
    exact hc

/-- behind j rounds -/
structure CMid (w1 wr : World) (L n : Nat) (D : Dv) (keep : Nat → Bool) (j : Nat) : Prop where
  lD : wr.heap[L]? = some (.cells (secs n (Dv.lay D.late D.laid keep D.keys j)) 60 (0, 0))
  turn : Turn (· = L) w1 wr

theorem CMid.skip {w1 wr : World} {L n : Nat} {D : Dv} {keep : Nat → Bool} {j : Nat} (h : CMid w1 wr L n D keep j) (hk : keep j = false) : CMid w1 wr L n D keep (j + 1) := by
  refine ⟨?_, h.turn⟩
  rw [h.lD, secs_eq n _ _ fun q _ => ?_]
  rw [Dv.lay_succ, hk, if_neg (by simp)]
theorem CMid.keep {w1 wr : World} {L n i : Nat} {D : Dv} {keep : Nat → Bool} {j : Nat} {s : List UInt8} (h : CMid w1 wr L n D keep j) (hk : keep j = true) (hi : D.keys.getD j 0 = i) (hs : D.late i = some s) :
    CMid w1 (wr.drew.setRow L (secs n fun q => if q = i then s else Dv.lay D.late D.laid keep D.keys j q)) L n D keep (j + 1) := by
  have hb3 : wr.drew.heap[L]? = some (.cells (secs n (Dv.lay D.late D.laid keep D.keys j)) 60 (0, 0)) := h.lD
  refine ⟨?_, h.turn.drew.setRow _ _ (.inl rfl)⟩
  rw [setRow_heap _ _ _ _ _ _ hb3, secs_eq n _ _ fun q _ => ?_]
  show (if q = i then s else Dv.lay D.late D.laid keep D.keys j q) = _
  rw [Dv.lay_succ, hk, if_pos rfl, hi]
  by_cases e : q = i
  · subst e
    rw [if_pos rfl, if_pos rfl, hs]
    rfl
  · rw [if_neg e, if_neg e]

/-- the crash's end -/
theorem crash_end {w1 wr w3 : World} {p L M : Nat} {D : Dv} {keep : Nat → Bool} (h : IsDev w1 p L M D) (hm : CMid w1 wr L D.n D keep D.keys.length) (hc : Cache w3 M 0 fun _ => none) (hg : wr.grownBy w3 (some M)) :
    IsDev ((w3.setCell ⟨p, 3, none⟩ (.bool false)).setCell ⟨p, 2, none⟩ (.int .i64 (-1))) p L M (D.crash keep) ∧ Turn (DS p L M) w1 ((w3.setCell ⟨p, 3, none⟩ (.bool false)).setCell ⟨p, 2, none⟩ (.int .i64 (-1))) := by
  have hb := h.lt
  have nm := h.nm
  obtain ⟨ok, ne, ⟨c, h1, h2, h3⟩, h4, h5⟩ := h
  have hp3 : w3.heap[p]? = w1.heap[p]? := (hg.block p (Nat.lt_of_lt_of_le hb.1 hm.turn.size) (fun e => nm.2.1 (by injection e))).trans (hm.turn.block p hb.1 nm.1)
  have hL3 : w3.heap[L]? = wr.heap[L]? := hg.block L (lt_of_block hm.lD) (fun e => nm.2.2 (by injection e))
  refine ⟨⟨ok.crash keep, ne, ⟨-1, rfl, by omega, heap_setCell_same _ _ _ _ _ _ (heap_setCell_same _ _ _ _ _ _ (hp3.trans h3))⟩, ?_, ?_⟩, ?_⟩
  · rw [heap_setCell_other _ _ _ _ (Ne.symm nm.1), heap_setCell_other _ _ _ _ (Ne.symm nm.1)]
    exact hL3.trans hm.lD
  · exact (hc.mono (Nat.zero_le _)).same ((heap_setCell_other _ _ _ _ (Ne.symm nm.2.1)).trans (heap_setCell_other _ _ _ _ (Ne.symm nm.2.1)))
  · exact (((hm.turn.mono fun _ e => .inr (.inl e)).grown hg (fun j hj => .inl (.inr (.inr (by injection hj with hj; exact hj.symm))))).setCell ⟨p, 3, none⟩ _ (.inl (.inl rfl))).setCell ⟨p, 2, none⟩ _ (.inl (.inl rfl))

theorem crash_nil (w : World) (A : Option Addr) (n c : Nat) : Calls Try.prog 19 #[.pointer none, .slice A n c] w fun e w' => e = .returned (.tuple #[]) ∧ w' = w := by
  go_enter Try.func19, Try.ntmps19
  go_wp2_with (go_at_call 33; refine (made_nil w).mono ?_; rintro e w' ⟨rfl, hw⟩; replace hw := hw.symm; subst hw)
  (try simp only [Exit.inBlock, Exit.then]); refine bodyPost_ret (results_none rfl _ _ _) rfl ?_
  exact ⟨rfl, rfl⟩

set_option maxRecDepth 100000 in
set_option maxHeartbeats 1000000 in
theorem crash_any {w : World} {p L M : Nat} {D : Dv} (h : IsDev w p L M D) (hf : D.spent ≤ 1000001) {A : Option Addr} {kn : Nat} (c : Nat) {f : Nat → Bool} (hk : Bools (DS p L M) w A kn f) :
    Calls Try.prog 19 #[ptr p, .slice A kn c] w fun e w' => e = .returned (.tuple #[]) ∧ IsDev w' p L M (D.crash (kp kn f)) ∧ Turn (DS p L M) w w' := by
  have hm := made_any h
  have hca := cached_any h hf
  have H := Lib.hid h
  have HK := Lib.hid hk
  clear h hf hk
  go_enter Try.func19, Try.ntmps19
  go_wp2_with (first
    | (go_at_call 33; refine hm.mono ?_; rintro e w' ⟨rfl, hw⟩; replace hw := hw.symm; subst hw)
    | (go_at_call 26; refine hca.mono ?_; rintro e w1 ⟨B, N, cap, rfl, hN, hrow, hb1⟩; have HROW := Lib.hid hrow; have HB1 := Lib.hid hb1; have HN := Lib.hid hN; clear hN hrow hb1))
  have hT1 : Turn (fun _ => False) w w1 := Turn.ofBelow HB1.out
  have hd1 := H.out.turn hT1 (fun h => h) (fun h => h) (fun h => h)
  have hk1 := HK.out.turn (hT1.mono fun _ h => h.elim)
  have HT1 := Lib.hid hT1
  have HD1 := Lib.hid hd1
  have HK1 := Lib.hid hk1
  have hC0 := hd1.c0
  have hC1 := hd1.c1
  have hlate : Hid (Cache w1 M D.spent D.late) := Lib.hid hd1.cache
  have hpL := hd1.nm.1
  clear hT1 hd1 hk1 hca hm
  have c0 := hC0
  have c1 := hC1
  clear hC0 hC1
  have hN4 : N ≤ 4096 := by have h1 := Dv.keys_length D; have h2 := H.out.ok.top; have h3 := HN.out; omega
  go_loopw [12] (fun v wr => ∃ j : Nat, v = .int .i64 (j : Int) ∧ j ≤ N ∧ Hid (CMid w1 wr L D.n D (kp kn f) j)) (fun v _ => N - (intOf v).toNat)
  case atStart => exact ⟨0, rfl, Nat.zero_le _, Lib.hid ⟨HD1.out.laid, Turn.refl _ _⟩⟩
  case round =>
    obtain ⟨j, rfl, hj, HM⟩ := hrel
    by_cases hlt : j < N
    · have hdj : decide ((j : Int) < (N : Int)) = true := decide_eq_true (by omega)
      obtain ⟨g, rfl, hgb, hgl, hcell⟩ := ints_cells HROW.out (by omega)
      have hjl : j < D.keys.length := by rw [← HN.out]; exact hlt
      obtain ⟨hin, his⟩ := Dv.keys_lt hjl
      have hci := hcell j hjl
      obtain ⟨s, hs⟩ := Option.isSome_iff_exists.1 his
      obtain ⟨i, hi⟩ : ∃ i, D.keys.getD j 0 = i := ⟨_, rfl⟩
      have HI := Lib.hid hi
      rw [hi] at hin hci hs
      have hgL : g ≠ L := fun e => by have h1 := H.out.lt.2.1; omega
      have hcr := HM.out.turn.cell hci hgL
      have hin' : Hid (i < D.n) := Lib.hid hin
      have HS0 := Lib.hid hs
      have HS := Lib.hid (HD1.out.ok.late i s hs)
      have hbd : (i : Int) < 9223372036854775808 := by have := HD1.out.ok.top; omega
      clear hcell his hci hi hs
      by_cases hkj : j < kn ∧ f j = true
      · obtain ⟨hkn, hfj⟩ := hkj
        have hdk : decide ((j : Int) < (kn : Int)) = true := decide_eq_true (by omega)
        have hkk : kp kn f j = true := by unfold kp; rw [decide_eq_true hkn, hfj]; rfl
        rcases HK1.out with h0 | ⟨b, o, rfl, hbc⟩
        · omega
        have hbj := hbc j hkn wr (HM.out.turn.mono fun _ e => .inr (.inl e))
        rw [hfj] at hbj
        have hC0 : ∀ V, Turn (· = L) wr V → V.cell? ⟨p, 0, none⟩ = some (.slice (some ⟨L, 0, none⟩) D.n D.n) := fun V hV => (HM.out.turn.trans hV).cell c0 hpL
        have hC1 : ∀ V, Turn (· = L) wr V → V.cell? ⟨p, 1, none⟩ = some (.map (some M)) := fun V hV => (HM.out.turn.trans hV).cell c1 hpL
        have hLk : ∀ V, Turn (· = L) wr V → (Instr.lookup 56 (.map (some M)) (.int .i64 (i : Int)) false).run Try.prog V = .ok (secV s) V := fun V hV => (hlate.out.same ((HM.out.turn.trans hV).block M HD1.out.lt.2.2 (Ne.symm HD1.out.nm.2.2))).get i hbd s HS0.out
        have HNX := Lib.hid (HM.out.keep hkk HI.out HS0.out)
        have HLD := Lib.hid HM.out.lD
        have hjj : j + 1 ≤ N := hlt
        clear hbc hfj hkk c0 c1 HK1 HK
        generalize Dv.lay D.late D.laid (kp kn f) D.keys j = lay at HNX HLD
        generalize D.n = n at *
        go_wp2_with fail
        · skip
          refine wp_region_turn (X := (· = L)) (by kernel_rfl) ?_
          have hS : Turn (· = L) wr (World.drew wr) := (Turn.refl _ _).drew
          refine wpAnyH_take (i := 0) (oi := ⟨some 27, _, _, _, _, _⟩) (v := ?_) rfl (by kernel_rfl) (by kernel_rfl) (by kernel_rfl) (fun _ _ _ h => h) (Or.inl ⟨by rfl, ?_⟩) hS ?_
          rotate_left
          · intro W hW; go_simp; with_reducible rfl
          try simp only [Act.put, List.setIfInBounds_toArray, List.set_cons_zero, List.set_cons_succ]
          refine wpAnyH_take (i := 1) (oi := ⟨some 28, _, _, _, _, _⟩) (v := ?_) rfl (by kernel_rfl) (by kernel_rfl) (by kernel_rfl) (fun _ _ _ h => h) (Or.inl ⟨by rfl, ?_⟩) hS ?_
          rotate_left
          · intro W hW; go_simp; with_reducible rfl
          try simp only [Act.put, List.setIfInBounds_toArray, List.set_cons_zero, List.set_cons_succ]
          refine wpAnyH_take (i := 2) (oi := ⟨some 29, _, _, _, _, _⟩) (v := ?_) rfl (by kernel_rfl) (by kernel_rfl) (by kernel_rfl) (fun _ _ _ h => h) (Or.inl ⟨by rfl, ?_⟩) hS ?_
          rotate_left
          · intro W hW; go_simp; with_reducible rfl
          try simp only [Act.put, List.setIfInBounds_toArray, List.set_cons_zero, List.set_cons_succ]
          refine wpAnyH_take (i := 3) (oi := ⟨some 30, _, _, _, _, _⟩) (v := ?_) rfl (by kernel_rfl) (by kernel_rfl) (by kernel_rfl) (fun _ _ _ h => h) (Or.inl ⟨by rfl, ?_⟩) hS ?_
          rotate_left
          · intro W hW; go_simp; with_reducible rfl
          try simp only [Act.put, List.setIfInBounds_toArray, List.set_cons_zero, List.set_cons_succ]
          refine wpAnyH_take (i := 4) (oi := ⟨some 31, _, _, _, _, _⟩) (v := ?_) rfl (by kernel_rfl) (by kernel_rfl) (by kernel_rfl) (fun _ _ _ h => h) (Or.inl ⟨by rfl, ?_⟩) hS ?_
          rotate_left
          · intro W hW; go_simp; with_reducible rfl
          try simp only [Act.put, List.setIfInBounds_toArray, List.set_cons_zero, List.set_cons_succ]
          refine wpAnyH_take (i := 5) (oi := ⟨some 32, _, _, _, _, _⟩) (v := ?_) rfl (by kernel_rfl) (by kernel_rfl) (by kernel_rfl) (fun _ _ _ h => h) (Or.inl ⟨by rfl, ?_⟩) hS ?_
          rotate_left
          · intro W hW; go_simp; with_reducible rfl
          try simp only [Act.put, List.setIfInBounds_toArray, List.set_cons_zero, List.set_cons_succ]
          refine wpAnyH_take (i := 6) (oi := ⟨some 33, _, _, _, _, _⟩) (v := ?_) rfl (by kernel_rfl) (by kernel_rfl) (by kernel_rfl) (fun _ _ _ h => h) (Or.inl ⟨by rfl, ?_⟩) hS ?_
          rotate_left
          · intro W hW; go_simp; with_reducible rfl
          try simp only [Act.put, List.setIfInBounds_toArray, List.set_cons_zero, List.set_cons_succ]
          refine wpAnyH_take (i := 7) (oi := ⟨some 34, _, _, _, _, _⟩) (v := ?_) rfl (by kernel_rfl) (by kernel_rfl) (by kernel_rfl) (fun _ _ _ h => h) (Or.inl ⟨by rfl, ?_⟩) hS ?_
          rotate_left
          · intro W hW; go_simp; with_reducible rfl
          try simp only [Act.put, List.setIfInBounds_toArray, List.set_cons_zero, List.set_cons_succ]
          refine wpAnyH_take (i := 8) (oi := ⟨some 35, _, _, _, _, _⟩) (v := ?_) rfl (by kernel_rfl) (by kernel_rfl) (by kernel_rfl) (fun _ _ _ h => h) (Or.inl ⟨by rfl, ?_⟩) hS ?_
          rotate_left
          · intro W hW; go_simp; with_reducible rfl
          try simp only [Act.put, List.setIfInBounds_toArray, List.set_cons_zero, List.set_cons_succ]
          refine wpAnyH_take (i := 9) (oi := ⟨some 36, _, _, _, _, _⟩) (v := ?_) rfl (by kernel_rfl) (by kernel_rfl) (by kernel_rfl) (fun _ _ _ h => h) (Or.inl ⟨by rfl, ?_⟩) hS ?_
          rotate_left
          · intro W hW; go_simp; with_reducible rfl
          try simp only [Act.put, List.setIfInBounds_toArray, List.set_cons_zero, List.set_cons_succ]
          refine wpAnyH_take (i := 10) (oi := ⟨some 37, _, _, _, _, _⟩) (v := ?_) rfl (by kernel_rfl) (by kernel_rfl) (by kernel_rfl) (fun _ _ _ h => h) (Or.inl ⟨by rfl, ?_⟩) hS ?_
          rotate_left
          · intro W hW; go_simp; with_reducible rfl
          try simp only [Act.put, List.setIfInBounds_toArray, List.set_cons_zero, List.set_cons_succ]
          refine wpAnyH_take (i := 11) (oi := ⟨some 38, _, _, _, _, _⟩) (v := ?_) rfl (by kernel_rfl) (by kernel_rfl) (by kernel_rfl) (fun _ _ _ h => h) (Or.inl ⟨by rfl, ?_⟩) hS ?_
          rotate_left
          · intro W hW; go_simp; with_reducible rfl
          try simp only [Act.put, List.setIfInBounds_toArray, List.set_cons_zero, List.set_cons_succ]
          -- operation 12: a step
          refine wpAnyH_ready (rs := [12]) (by kernel_rfl) (by simp) ?_
          refine AllReadyH.cons (o := ⟨none, _, _, _, _, _⟩) rfl (fun Kr hKr => ?_) AllReadyH.nil
          rw [if_pos (by kernel_rfl)]
          refine wp_store_sec (.tmp 38) (.tmp 37) rfl rfl rfl (show (World.drew wr).heap[L]? = _ from HLD.out) hin HS.out ?_
          show Kr _ _
          refine hKr.out _ _ ?_ (fun _ => ?_)
          · exact Turn.trans hS ((Turn.refl (· = L) wr.drew).setRow L (secs n fun q => if q = i then s else lay q) (.inl rfl))
          clear hKr Kr
          refine wpAnyH_turn (Turn.trans hS ((Turn.refl (· = L) wr.drew).setRow L (secs n fun q => if q = i then s else lay q) (.inl rfl))) ?_
          clear hS
          have hS : Turn (· = L) (wr.drew.setRow L (secs n fun q => if q = i then s else lay q)) (wr.drew.setRow L (secs n fun q => if q = i then s else lay q)) := Turn.refl _ _
          try simp only [Act.put]
          refine wpAnyH_done (by kernel_rfl) ?_ _
          go_wp2_with fail
          refine ⟨⟨j + 1, by go_num, hjj, HNX⟩, by simp [intOf]; omega⟩
      · have hkk : kp kn f j = false := by
          unfold kp
          by_cases h1 : j < kn
          · rw [decide_eq_true h1, Bool.true_and]
            cases hf : f j
            · rfl
            · exact absurd ⟨h1, hf⟩ hkj
          · rw [decide_eq_false h1]; rfl
        have HNX := Lib.hid (HM.out.skip hkk)
        have hjj : j + 1 ≤ N := hlt
        by_cases hkn : j < kn
        · have hdk : decide ((j : Int) < (kn : Int)) = true := decide_eq_true (by omega)
          have hfj : f j = false := by
            cases hf : f j
            · rfl
            · exact absurd ⟨hkn, hf⟩ hkj
          rcases HK1.out with h0 | ⟨b, o, rfl, hbc⟩
          · omega
          have hbj := hbc j hkn wr (HM.out.turn.mono fun _ e => .inr (.inl e))
          rw [hfj] at hbj
          clear hbc hfj hkk c0 c1 HK1 HK hkj
          go_wp2_with fail
          refine ⟨⟨j + 1, by go_num, hjj, HNX⟩, by simp [intOf]; omega⟩
        · have hdk : decide ((j : Int) < (kn : Int)) = false := decide_eq_false (by omega)
          clear hkk c0 c1 HK1 HK hkj
          go_wp2_with fail
          refine ⟨⟨j + 1, by go_num, hjj, HNX⟩, by simp [intOf]; omega⟩
    · obtain rfl : j = N := by omega
      have HM2 : Hid (CMid w1 wr L D.n D (kp kn f) D.keys.length) := by rw [← HN.out]; exact HM
      have HCE : Hid (Cache wr M D.spent D.late) := Lib.hid (hlate.out.same (HM.out.turn.block M HD1.out.lt.2.2 (Ne.symm HD1.out.nm.2.2)))
      have d1 := HM.out.turn.cell c1 (a := ⟨p, 1, none⟩) HD1.out.nm.1
      have k3 := HM.out.turn.cell HD1.out.c3 (a := ⟨p, 3, none⟩) HD1.out.nm.1
      obtain ⟨cb, _, _, hbp⟩ := HD1.out.own
      have hbr : wr.heap[p]? = _ := (HM.out.turn.block p HD1.out.lt.1 HD1.out.nm.1).trans hbp
      have HBR := Lib.hid hbr
      clear hbp hbr c0 c1 HM hlt hj k3
      go_wp2_with (refine wpList_clear rfl (.tmp 43) rfl rfl HCE.out ?_; intro w3 hc3 hg3; have HE := Lib.hid (crash_end HD1.out HM2.out hc3 hg3); have hb3 := (hg3.block p (lt_of_block HBR.out) (fun e => HD1.out.nm.2.1 (by injection e))).trans HBR.out; have e1 : w3.cell? ⟨p, 1, none⟩ = some (.map (some M)) := (by rw [cell_of_row _ _ _ _ _ _ hb3]; rfl); have e3 : w3.cell? ⟨p, 3, none⟩ = some (.bool D.gone) := (by rw [cell_of_row _ _ _ _ _ _ hb3]; rfl); have e2 : w3.cell? ⟨p, 2, none⟩ = some (.int .i64 cb) := (by rw [cell_of_row _ _ _ _ _ _ hb3]; rfl); have f3 := frozen_of_row w3 p 3 _ _ hb3; have f2 := frozen_of_row w3 p 2 _ _ hb3; clear hc3 hg3 hb3)
      go_end0
      exact ⟨rfl, HE.out.1, (HT1.out.mono fun _ h => h.elim).trans HE.out.2⟩

end Go.Proofs.Ytaidjnpbjoncoaa
