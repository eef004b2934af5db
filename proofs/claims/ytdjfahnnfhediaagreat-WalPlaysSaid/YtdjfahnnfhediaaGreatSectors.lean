/-
  The sectors of a log's ring, read into a row of slices.
-/
import Derived.Test.YtdjfahnnfhediaaGreatLogMem
import Derived.Test.YtdjfahnnfhediaaGreatRows6
import Derived.OwnWalk
namespace Go.Proofs.YtdjfahnnfhediaaGreat
set_option maxRecDepth 100000
open Go.RowKit

theorem made_nils (n : Nat) : (madeCells (Value.cells (.slice none 0 0)) (n * 1)).toList = List.replicate n (.slice none 0 0) := by
  unfold madeCells
  rw [Array.toList_map, Array.toList_range, Nat.mul_one, List.eq_replicate_iff]
  refine ⟨by simp, fun b hb => ?_⟩
  obtain ⟨i, _, rfl⟩ := List.mem_map.1 hb
  simp [Value.cells, Nat.mod_one]

theorem setS_get {l : List (List UInt8)} {i j : Nat} {x : List UInt8} (hi : i < l.length) : (l.set i x)[j]? = if j = i then some x else l[j]? := by
  by_cases h : j = i
  · subst h; rw [if_pos rfl, List.getElem?_set_self hi]
  · rw [if_neg h, List.getElem?_set_ne (fun e => h e.symm)]

/-- one slice of the row put in another's place -/
theorem Rw.put {w : World} {base g n c : Nat} {ls : List (List UInt8)} {i : Nat} {x : List UInt8} {Ax : Option Addr} {nx cx : Nat} (h : Rw w base (.slice (some ⟨g, 0, none⟩) n c) ls) (hn : ls.length = n) (hi : i < n) (hx : Lies w Ax cx nx x) (hf : Far Ax x (some g)) (hu : Up base Ax x) :
    Rw (w.setCell ⟨g, i, none⟩ (.slice Ax nx cx)) base (.slice (some ⟨g, 0, none⟩) n c) (ls.set i x) := by
  subst hn
  obtain ⟨vs, ho, he⟩ := h
  have hs := (ho.stored i (.slice Ax nx cx)).1
  have hg := setCell_grown w g i (.slice Ax nx cx)
  have hvl : vs.length = ls.length := by have := ho.1; omega
  refine ⟨vs.set i (.slice Ax nx cx), by rw [List.length_set]; exact hs, fun j y hy => ?_⟩
  rw [setS_get hi] at hy
  by_cases hj : j = i
  · subst hj
    rw [if_pos rfl] at hy
    injection hy with hy
    subst hy
    exact ⟨Ax, nx, cx, List.getElem?_set_self (by omega), hx.far hf hg, hf, hu⟩
  · rw [if_neg hj] at hy
    obtain ⟨A', n', c', e1, e2, e3, e4⟩ := he j y hy
    exact ⟨A', n', c', by rw [List.getElem?_set_ne (fun e => hj e.symm)]; exact e1, e2.far e3 hg, e3, e4⟩
theorem Rw.cell {w : World} {base g n c : Nat} {ls : List (List UInt8)} (h : Rw w base (.slice (some ⟨g, 0, none⟩) n c) ls) (hn : ls.length = n) {i : Nat} (hi : i < n) : (∃ u, w.cell? ⟨g, i, none⟩ = some u) ∧ w.frozen? ⟨g, i, none⟩ = false := by
  subst hn
  obtain ⟨vs, ho, he⟩ := h
  obtain ⟨A', n', c', e1, _⟩ := he i _ (List.getElem?_eq_getElem hi)
  have hc := ho.cells (g := g) rfl i _ e1
  rw [addr_add, Nat.zero_add] at hc
  rcases ho.2 with ⟨e, _⟩ | ⟨g', cap, cur, e, hb, hh, _⟩
  · cases e
  · injection e with e1
    injection e1 with e1
    injection e1 with e1
    subst e1
    exact ⟨⟨_, hc⟩, frozen_of_row _ _ _ _ _ hh⟩

/-- what has been read when i of n are through -/
def partS (ls : List (List UInt8)) (n i : Nat) : List (List UInt8) := ls.take i ++ List.replicate (n - i) []
theorem length_partS {ls : List (List UInt8)} {n i : Nat} (h : ls.length = n) (hi : i ≤ n) : (partS ls n i).length = n := by
  unfold partS; rw [List.length_append, List.length_take, List.length_replicate]; omega
theorem partS_set {ls : List (List UInt8)} {n i : Nat} {x : List UInt8} (h : ls.length = n) (hx : ls[i]? = some x) : (partS ls n i).set i x = partS ls n (i + 1) := by
  have hi : i < n := by have := (List.getElem?_eq_some_iff.1 hx).1; omega
  unfold partS
  have hl : (ls.take i).length = i := by rw [List.length_take]; omega
  rw [List.set_append_right _ _ (by omega), hl, Nat.sub_self, List.take_add_one, hx, List.append_assoc]
  congr 1
  rw [show n - i = (n - (i + 1)) + 1 from by omega, List.replicate_succ]
  rfl

theorem Got.lies {w : World} {base n c : Nat} {A : Option Addr} {l : List UInt8} (h : Got w base A n c l) : Lies w A c n l := by
  refine ⟨h.rd, h.len, ?_⟩
  rcases h with ⟨_, _, rfl, rfl⟩ | ⟨g, _, rfl, rfl, _⟩
  · exact Nat.le_refl _
  · exact Nat.le_refl _
theorem Got.blk {w : World} {base n c : Nat} {A : Option Addr} {l : List UInt8} (h : Got w base A n c l) : ∀ a, A = some a → base ≤ a.block := by
  intro a ha
  rcases h with ⟨_, e, _, _⟩ | ⟨g, e, _, _, _, h5, _⟩
  · rw [e] at ha; cases ha
  · rw [e] at ha; injection ha with ha; subst ha; exact h5

/-- a call answers slices of bytes in new memory -/
def SecsOut (w : World) (ls : List (List UInt8)) (e : Ending) (w' : World) : Prop :=
  ∃ A n c, e = .returned (.slice A n c) ∧ n = ls.length ∧ LsN w' w.heap.size A ls ∧ n ≤ c ∧ Below w.heap.size w w'

set_option maxHeartbeats 2000000 in
theorem sectors_any {w : World} {q p L M : Nat} {G : Lg} {D : Dv} (hl : IsLog w q p G) (hd : IsDev w p L M D) (hon : G.On D) : Calls Tryz.prog 60 #[ptr q] w (SecsOut w (ringL D G.R)) := by
  obtain ⟨i0, hi, hz0, hz1, hz2⟩ := info_parts sl_facts
  have HI := Lib.hid (show _ ∧ _ ∧ _ ∧ _ from ⟨hi, hz0, hz1, hz2⟩)
  clear hi hz0 hz1 hz2
  obtain ⟨n, hn⟩ : ∃ n : Nat, G.R.S = (n : Int) := ⟨G.R.S.toNat, by have := hon.ok.s0; omega⟩
  have hnb : 1 ≤ n ∧ n ≤ 4096 := by have := hon.ok.s0; have := hon.ok.s1; omega
  have hHb : 0 ≤ G.R.H ∧ G.R.H ≤ 1099511627776 := by have := hon.ok.h0; have := hon.ok.ht; have := hon.ok.t1; omega
  have HLEN : Hid ((ringL D G.R).length = n) := by show _ = _; rw [length_ringL]; omega
  have HGET : Hid (∀ i, i < n → (ringL D G.R)[i]? = some (D.read (G.R.sector (G.R.H + i)))) := by
    intro i hi
    rw [ringL_get D G.R i (by omega), hon.sector (by omega) (by omega)]
  have HSC := Lib.hid (fun at_ => sector_any G.R at_)
  have c1 := hl.c1
  rw [hn] at c1
  have hqlt := hl.lt
  have HL := Lib.hid hl
  have HD := Lib.hid hd
  have hdl := hd.lt
  have HRD := Lib.hid (fun (V : World) (hV : IsDev V p L M D) at_ => dread_any hV at_)
  generalize ringL D G.R = ls at *
  obtain ⟨R, E, safe, broken⟩ := G
  obtain ⟨F, S, H, T⟩ := R
  simp only at hn c1 hHb
  subst hn
  clear hl hd hon
  replace HGET : Hid (∀ i, i < n → ls[i]? = some (D.read ((Rg.mk F n H T).sector (H + i)))) := HGET
  replace HSC : Hid (∀ at_, Tells 42 #[rgV ⟨F, n, H, T⟩, .int .i64 at_] (.int .i64 ((Rg.mk F n H T).sector at_))) := HSC
  generalize hsec : (Rg.mk F n H T).sector = sec at HGET HSC
  clear hsec
  go_enter Tryz.func60, Tryz.ntmps60
  obtain ⟨hi, hz0, hz1, hz2⟩ := HI.out
  go_wp2_with (at_make; refine wpList_make_full _ rfl _ _ _ rfl w.heap.size 41 i0 _ 1 Tryz.underlying79 hi hz0 hz1 _ _ _ _ n rfl rfl rfl rfl (by rw [hz2]; omega) (by unfold maxLen; omega) (Nat.le_refl _) ?_; intro w1 hown1 hg1)
  rw [made_nils] at hown1
  have HB1 : Hid (Below w.heap.size w w1) := Lib.hid ((Below.refl w.heap.size w).grown hg1 (Nat.le_refl _) (by simp))
  obtain ⟨g, hgw⟩ : ∃ g, w.heap.size = g := ⟨_, rfl⟩
  have HR1 : Hid (Rw w1 g (.slice (some ⟨g, 0, none⟩) n n) (partS ls n 0)) := by
    subst hgw
    refine ⟨List.replicate n (.slice none 0 0), by rw [length_partS HLEN.out (by omega)]; exact hown1, fun j x hx => ?_⟩
    unfold partS at hx
    rw [List.take_zero, List.nil_append, Nat.sub_zero, List.getElem?_replicate] at hx
    split at hx
    · next hj =>
      injection hx with hx
      subst hx
      exact ⟨none, 0, 0, by rw [List.getElem?_replicate, if_pos hj], ⟨.inl rfl, rfl, Nat.le_refl _⟩, .inl rfl, .inl rfl⟩
    · cases hx
  rw [hgw] at hqlt hdl HB1
  have HGW := Lib.hid hgw
  clear hown1 hg1 hi hz0 hz1 hz2 hgw
  go_loopw [13] (fun u wr => ∃ i : Nat, u = .int .i64 (i : Int) ∧ i ≤ n ∧ Hid (Rw wr g (.slice (some ⟨g, 0, none⟩) n n) (partS ls n i)) ∧ Hid (Below g w wr)) (fun u _ => n - (intOf u).toNat)
  case atStart => exact ⟨0, rfl, Nat.zero_le _, HR1, HB1⟩
  case round =>
    obtain ⟨i, rfl, hi, HR, HB⟩ := hrel
    rcases Nat.lt_or_ge i n with hlt | hge
    · have HX := Lib.hid (HGET.out i hlt)
      have hT0 : Turn (· = g) w wr := Turn.mono (Turn.ofBelow (by rw [HGW.out]; exact HB.out)) (fun _ h => h)
      have HLV : Hid (∀ V, Turn (· = g) wr V → IsLog V q p ⟨⟨F, n, H, T⟩, E, safe, broken⟩) := fun V hV => (HL.out.turn hT0 (by omega)).turn hV (by omega)
      have HDV : Hid (∀ V, Turn (· = g) wr V → IsDev V p L M D) := fun V hV => (HD.out.turn hT0 (by omega) (by omega) (by omega)).turn hV (by omega) (by omega) (by omega)
      have HHD : Hid (∀ V, Turn (· = g) wr V → Calls Tryz.prog 27 #[ptr q] V fun e w' => e = .returned (.int .i64 H) ∧ w' = V) := fun V hV => lhead_any (HLV.out V hV)
      have v0 : ∀ V, Turn (· = g) wr V → V.cell? ⟨q, 0, none⟩ = some (.int .i64 F) := fun V hV => (HLV.out V hV).c0
      have v1 : ∀ V, Turn (· = g) wr V → V.cell? ⟨q, 1, none⟩ = some (.int .i64 (n : Int)) := fun V hV => (HLV.out V hV).c1
      have v2 : ∀ V, Turn (· = g) wr V → V.cell? ⟨q, 2, none⟩ = some (.int .i64 H) := fun V hV => (HLV.out V hV).c2
      have v3 : ∀ V, Turn (· = g) wr V → V.cell? ⟨q, 3, none⟩ = some (.int .i64 T) := fun V hV => (HLV.out V hV).c3
      have v4 : ∀ V, Turn (· = g) wr V → V.cell? ⟨q, 4, none⟩ = some (ptr p) := fun V hV => (HLV.out V hV).c4
      have hwr : IntKind.i64.wrap (H + (i : Int)) = H + (i : Int) := by rw [IntKind.wrap_i64]; omega
      have hdj : decide ((i : Int) < (n : Int)) = true := decide_eq_true (by omega)
      have hdj2 : decide (i < n) = true := decide_eq_true hlt
      clear hT0 c1
      go_wp2_with fail
      refine wp_region_turn (X := (· = g)) (by kernel_rfl) ?_
      have hS : Turn (· = g) wr (World.drew wr) := (Turn.refl _ _).drew
      refine wpAnyH_take (i := 0) (oi := ⟨some 17, _, _, _, _, _⟩) (v := ?_) rfl (by kernel_rfl) (by kernel_rfl) (by kernel_rfl) (fun _ _ _ h => h) (Or.inl ⟨by rfl, ?_⟩) hS ?_
      rotate_left
      · intro W hW; go_simp; with_reducible rfl
      try simp only [Act.put, List.setIfInBounds_toArray, List.set_cons_zero, List.set_cons_succ]
      refine wpAnyH_take (i := 1) (oi := ⟨some 18, _, _, _, _, _⟩) (v := ?_) rfl (by kernel_rfl) (by kernel_rfl) (by kernel_rfl) (fun _ _ _ h => h) (Or.inl ⟨by rfl, ?_⟩) hS ?_
      rotate_left
      · intro W hW; go_simp; with_reducible rfl
      try simp only [Act.put, List.setIfInBounds_toArray, List.set_cons_zero, List.set_cons_succ]
      refine wpAnyH_take (i := 2) (oi := ⟨some 19, _, _, _, _, _⟩) (v := ?_) rfl (by kernel_rfl) (by kernel_rfl) (by kernel_rfl) (fun _ _ _ h => h) (Or.inl ⟨by rfl, ?_⟩) hS ?_
      rotate_left
      · intro W hW; go_simp; with_reducible rfl
      try simp only [Act.put, List.setIfInBounds_toArray, List.set_cons_zero, List.set_cons_succ]
      refine wpAnyH_take (i := 3) (oi := ⟨some 20, _, _, _, _, _⟩) (v := ?_) rfl (by kernel_rfl) (by kernel_rfl) (by kernel_rfl) (fun _ _ _ h => h) (Or.inl ⟨by rfl, ?_⟩) hS ?_
      rotate_left
      · intro W hW; go_simp; with_reducible rfl
      try simp only [Act.put, List.setIfInBounds_toArray, List.set_cons_zero, List.set_cons_succ]
      refine wpAnyH_take (i := 4) (oi := ⟨some 21, _, _, _, _, _⟩) (v := ?_) rfl (by kernel_rfl) (by kernel_rfl) (by kernel_rfl) (fun _ _ _ h => h) (Or.inl ⟨by rfl, ?_⟩) hS ?_
      rotate_left
      · intro W hW; go_simp; with_reducible rfl
      try simp only [Act.put, List.setIfInBounds_toArray, List.set_cons_zero, List.set_cons_succ]
      refine wpAnyH_take (i := 5) (oi := ⟨some 22, _, _, _, _, _⟩) (v := ?_) rfl (by kernel_rfl) (by kernel_rfl) (by kernel_rfl) (fun _ _ _ h => h) (Or.inl ⟨by rfl, ?_⟩) hS ?_
      rotate_left
      · intro W hW; go_simp; with_reducible rfl
      try simp only [Act.put, List.setIfInBounds_toArray, List.set_cons_zero, List.set_cons_succ]
      refine wpAnyH_take (i := 6) (oi := ⟨some 23, _, _, _, _, _⟩) (v := ?_) rfl (by kernel_rfl) (by kernel_rfl) (by kernel_rfl) (fun _ _ _ h => h) (Or.inl ⟨by rfl, ?_⟩) hS ?_
      rotate_left
      · intro W hW; go_simp; with_reducible rfl
      try simp only [Act.put, List.setIfInBounds_toArray, List.set_cons_zero, List.set_cons_succ]
      refine wpAnyH_take (i := 7) (oi := ⟨some 24, _, _, _, _, _⟩) (v := ?_) rfl (by kernel_rfl) (by kernel_rfl) (by kernel_rfl) (fun _ _ _ h => h) (Or.inl ⟨by rfl, ?_⟩) hS ?_
      rotate_left
      · intro W hW; go_simp; with_reducible rfl
      try simp only [Act.put, List.setIfInBounds_toArray, List.set_cons_zero, List.set_cons_succ]
      refine wpAnyH_take (i := 8) (oi := ⟨some 25, _, _, _, _, _⟩) (v := ?_) rfl (by kernel_rfl) (by kernel_rfl) (by kernel_rfl) (fun _ _ _ h => h) (Or.inl ⟨by rfl, ?_⟩) hS ?_
      rotate_left
      · intro W hW; go_simp; with_reducible rfl
      try simp only [Act.put, List.setIfInBounds_toArray, List.set_cons_zero, List.set_cons_succ]
      refine wpAnyH_take (i := 9) (oi := ⟨some 26, _, _, _, _, _⟩) (v := ?_) rfl (by kernel_rfl) (by kernel_rfl) (by kernel_rfl) (fun _ _ _ h => h) (Or.inl ⟨by rfl, ?_⟩) hS ?_
      rotate_left
      · intro W hW; go_simp; with_reducible rfl
      try simp only [Act.put, List.setIfInBounds_toArray, List.set_cons_zero, List.set_cons_succ]
      refine wpAnyH_take (i := 10) (oi := ⟨some 27, _, _, _, _, _⟩) (v := ?_) rfl (by kernel_rfl) (by kernel_rfl) (by kernel_rfl) (fun _ _ _ h => h) (Or.inl ⟨by rfl, ?_⟩) hS ?_
      rotate_left
      · intro W hW; go_simp; with_reducible rfl
      try simp only [Act.put, List.setIfInBounds_toArray, List.set_cons_zero, List.set_cons_succ]
      refine wpAnyH_take (i := 12) (oi := ⟨some 29, _, _, _, _, _⟩) (v := ?_) rfl (by kernel_rfl) (by kernel_rfl) (by kernel_rfl) (fun _ _ _ h => h) (Or.inl ⟨by rfl, ?_⟩) hS ?_
      rotate_left
      · intro W hW; go_simp; with_reducible rfl
      try simp only [Act.put, List.setIfInBounds_toArray, List.set_cons_zero, List.set_cons_succ]
      refine wpAnyH_ready (rs := [11]) (by kernel_rfl) (by simp) ?_
      refine AllReadyH.cons (o := ⟨some 28, _, _, _, _, _⟩) rfl (fun Kr hKr => ?_) AllReadyH.nil
      -- operation 11: a call
      go_simp
      refine (HHD.out _ hS).mono ?_
      rintro e V0 ⟨rfl, hx⟩
      subst hx
      show Kr _ _
      refine hKr.out _ _ ?_ (fun _ => ?_)
      · exact hS
      clear hKr Kr
      try simp only [Act.put, List.setIfInBounds_toArray, List.set_cons_zero, List.set_cons_succ]
      refine wpAnyH_take (i := 13) (oi := ⟨some 30, _, _, _, _, _⟩) (v := ?_) rfl (by kernel_rfl) (by kernel_rfl) (by kernel_rfl) (fun _ _ _ h => h) (Or.inl ⟨by rfl, ?_⟩) hS ?_
      rotate_left
      · intro W hW; go_simp; with_reducible rfl
      try simp only [Act.put, List.setIfInBounds_toArray, List.set_cons_zero, List.set_cons_succ]
      refine wpAnyH_ready (rs := [14]) (by kernel_rfl) (by simp) ?_
      refine AllReadyH.cons (o := ⟨some 31, _, _, _, _, _⟩) rfl (fun Kr hKr => ?_) AllReadyH.nil
      -- operation 14: a call
      go_simp
      refine (HSC.out (H + (i : Int)) _).mono ?_
      rintro e V1 ⟨rfl, hx⟩
      show Kr _ _
      refine hKr.out _ _ ?_ (fun _ => ?_)
      · exact hS.trans (.ofBelow hx)
      clear hKr Kr
      replace hS : Turn (· = g) wr V1 := hS.trans (.ofBelow hx)
      try simp only [Act.put, List.setIfInBounds_toArray, List.set_cons_zero, List.set_cons_succ]
      refine wpAnyH_ready (rs := [15]) (by kernel_rfl) (by simp) ?_
      refine AllReadyH.cons (o := ⟨some 32, _, _, _, _, _⟩) rfl (fun Kr hKr => ?_) AllReadyH.nil
      -- operation 15: a call
      go_simp
      refine (HRD.out _ (HDV.out _ hS) _).mono ?_
      rintro e V2 ⟨A2, n2, c2, rfl, hgot, hx2⟩
      show Kr _ _
      refine hKr.out _ _ ?_ (fun _ => ?_)
      · exact hS.trans (.ofBelow hx2)
      clear hKr Kr
      replace hS : Turn (· = g) wr V2 := hS.trans (.ofBelow hx2)
      have HB2 := Lib.hid (below_two (below_two ((Below.refl wr.heap.size wr).drew) hx) hx2)
      have HR2 := Lib.hid (HR.out.below HB2.out)
      have HG2 := Lib.hid hgot
      have hv1 := Lib.hid hx.size
      have hgl : Hid (g < wr.heap.size) := (HR.out.lt g rfl).2
      obtain ⟨⟨u, hc⟩, hf⟩ := HR2.out.cell (length_partS HLEN.out hi) hlt
      clear hgot hx hx2
      try simp only [Act.put, List.setIfInBounds_toArray, List.set_cons_zero, List.set_cons_succ]
      refine wpAnyH_take (i := 16) (oi := ⟨some 16, _, _, _, _, _⟩) (v := ?_) rfl (by kernel_rfl) (by kernel_rfl) (by kernel_rfl) (fun _ _ _ h => h) (Or.inl ⟨by rfl, ?_⟩) hS ?_
      rotate_left
      · intro W hW; go_simp; with_reducible rfl
      try simp only [Act.put, List.setIfInBounds_toArray, List.set_cons_zero, List.set_cons_succ]
      refine wpAnyH_take (i := 17) (oi := ⟨some 33, _, _, _, _, _⟩) (v := ?_) rfl (by kernel_rfl) (by kernel_rfl) (by kernel_rfl) (fun _ _ _ h => h) (Or.inl ⟨by rfl, ?_⟩) hS ?_
      rotate_left
      · intro W hW; go_simp; with_reducible rfl
      try simp only [Act.put, List.setIfInBounds_toArray, List.set_cons_zero, List.set_cons_succ]
      refine wpAnyH_take (i := 18) (oi := ⟨some 34, _, _, _, _, _⟩) (v := ?_) rfl (by kernel_rfl) (by kernel_rfl) (by kernel_rfl) (fun _ _ _ h => h) (Or.inl ⟨by rfl, ?_⟩) hS ?_
      rotate_left
      · intro W hW; go_simp; with_reducible rfl
      try simp only [Act.put, List.setIfInBounds_toArray, List.set_cons_zero, List.set_cons_succ]
      refine wpAnyH_take (i := 19) (oi := ⟨some 35, _, _, _, _, _⟩) (v := ?_) rfl (by kernel_rfl) (by kernel_rfl) (by kernel_rfl) (fun _ _ _ h => h) (Or.inl ⟨by rfl, ?_⟩) hS ?_
      rotate_left
      · intro W hW; go_simp; with_reducible rfl
      try simp only [Act.put, List.setIfInBounds_toArray, List.set_cons_zero, List.set_cons_succ]
      refine wpAnyH_ready (rs := [20]) (by kernel_rfl) (by simp) ?_
      refine AllReadyH.cons (o := ⟨none, _, _, _, _, _⟩) rfl (fun Kr hKr => ?_) AllReadyH.nil
      -- operation 20: a step
      rw [← HGW.out] at hc hf
      go_simp
      show Kr _ _
      refine hKr.out _ _ ?_ (fun _ => ?_)
      · exact hS.trans ((Turn.refl (· = g) V2).setCell ⟨w.heap.size, i, none⟩ (.slice A2 n2 c2) (.inl HGW.out))
      clear hKr Kr
      replace hS : Turn (· = g) wr (V2.setCell ⟨w.heap.size, i, none⟩ (.slice A2 n2 c2)) := hS.trans ((Turn.refl (· = g) V2).setCell ⟨w.heap.size, i, none⟩ (.slice A2 n2 c2) (.inl HGW.out))
      try simp only [Act.put, List.setIfInBounds_toArray, List.set_cons_zero, List.set_cons_succ]
      refine wpAnyH_done (by kernel_rfl) ?_ _
      have hV1 : g < V1.heap.size := Nat.lt_of_lt_of_le hgl.out (by simpa using hv1.out)
      have HR3 := Lib.hid (HR2.out.put (length_partS HLEN.out hi) hlt HG2.out.lies (.inr fun a ha e => by injection e with e; have := HG2.out.blk a ha; omega) (.inr fun a ha => by have := HG2.out.blk a ha; omega))
      rw [partS_set HLEN.out HX.out] at HR3
      have HB3 : Hid (Below g w (V2.setCell ⟨g, i, none⟩ (.slice A2 n2 c2))) := (HB.out.trans (HB2.out.mono (Nat.le_of_lt hgl.out))).setCell (Nat.le_refl _) _
      clear hS hc hf v0 v1 v2 v3 v4
      go_wp2_with fail
      refine ⟨⟨i + 1, by go_num, by omega, by rw [HGW.out]; exact HR3, by rw [HGW.out]; exact HB3⟩, by simp [intOf]; omega⟩
    · obtain rfl : i = n := by omega
      have hdj : decide ((i : Int) < (i : Int)) = false := decide_eq_false (by omega)
      have hr := HR.out
      have e : partS ls i i = ls := by unfold partS; rw [Nat.sub_self, List.replicate_zero, List.append_nil, List.take_of_length_le (by rw [HLEN.out]; exact Nat.le_refl _)]
      rw [e] at hr
      have HR2 := Lib.hid hr
      clear hr e
      go_wp2_with fail
      go_ret
      exact ⟨_, _, _, rfl, HLEN.out.symm, by rw [HGW.out]; exact HR2.out.lsn, Nat.le_refl _, by rw [HGW.out]; exact HB.out⟩

end Go.Proofs.YtdjfahnnfhediaaGreat
