/-
  The program's Cut, of any bytes, at any epoch and place.
-/
import Derived.Test.YtdjfahnnfhediaaGreatRows6
import Derived.Lib.MinMax
namespace Go.Proofs.YtdjfahnnfhediaaGreat
set_option maxRecDepth 100000
open Go.RowKit Crc Wm

/-- a call answers slices of bytes, and an error -/
def CutOut (w : World) (ls : List (List UInt8)) (E : Int) (e : Ending) (w' : World) : Prop :=
  ∃ A n c, e = .returned (.tuple #[.slice A n c, .int .i64 E]) ∧ n = ls.length ∧ LsN w' w.heap.size A ls ∧ n ≤ c ∧ Below w.heap.size w w'

theorem CutOut.no {w w' : World} {ep at_ : Int} {b : List UInt8} {E : Int} (h : cutE ep at_ b = E) (hE : E ≠ 0) (hb : Below w.heap.size w w') : CutOut w (cutL ep at_ b) (cutE ep at_ b) (.returned (.tuple #[.slice none 0 0, .int .i64 E])) w' := by
  unfold cutL
  rw [h, if_neg hE]
  exact ⟨none, 0, 0, rfl, rfl, .inl rfl, Nat.le_refl _, hb⟩

theorem cut_no (ep at_ : Int) (b : List UInt8) (i : Nat) (hn : needN b ≤ 1024) (hi : i < needN b) (h : ¬ (pieceAt ep at_ (needN b) b i).May) : cutE ep at_ b = 1 := by
  rw [piece_may ep at_ b i hi hn] at h
  unfold cutE
  rw [if_neg (by omega), if_neg]
  intro g
  apply h
  refine ⟨g.1, ?_, ?_⟩ <;> omega
theorem cut_yes (ep at_ : Int) (b : List UInt8) (hn : needN b ≤ 1024) (h : ∀ i, i < needN b → (pieceAt ep at_ (needN b) b i).May) : cutE ep at_ b = 0 := by
  have h1 := needN_pos b
  have g0 := (piece_may ep at_ b 0 (by omega) hn).1 (h 0 (by omega))
  have g1 := (piece_may ep at_ b (needN b - 1) (by omega) hn).1 (h (needN b - 1) (by omega))
  unfold cutE
  rw [if_neg (by omega), if_pos]
  refine ⟨g0.1, ?_, ?_⟩ <;> omega

theorem length_cutAll (ep at_ : Int) (b : List UInt8) : (cutAll ep at_ b).length = needN b := by unfold cutAll; simp
theorem cutAll_get (ep at_ : Int) (b : List UInt8) (i : Nat) (h : i < needN b) : (cutAll ep at_ b)[i]? = some (pieceAt ep at_ (needN b) b i).sector := by
  unfold cutAll
  rw [List.getElem?_map, List.getElem?_range h]
  rfl
theorem cutAll_step (ep at_ : Int) (b : List UInt8) (i : Nat) (h : i < needN b) : (cutAll ep at_ b).take (i + 1) = (cutAll ep at_ b).take i ++ [(pieceAt ep at_ (needN b) b i).sector] := by
  rw [List.take_add_one, cutAll_get ep at_ b i h]
  rfl

/-- a slice of bytes laid for an append -/
theorem ls_one {w : World} {A : Option Addr} {n c : Nat} {l : List UInt8} (h : Lies w A c n l) (t : TypeId) (g : Nat) (hg : w.heap.size = g) : Ls (w.alloc (.cells #[.slice A n c] t)) (some ⟨g, 0, none⟩) [l] := by
  subst hg
  have hb := below_new w (.cells #[.slice A n c] t)
  refine .inr ⟨_, 0, rfl, by simp, fun j x hx => ?_⟩
  rw [Nat.zero_add, cell_of_row _ _ _ _ _ _ (heap_alloc_new w _)]
  match j, hx with
  | 0, hx => simp at hx; subst hx; exact ⟨_, _, _, rfl, h.up hb⟩
  | j + 1, hx => simp at hx

theorem far_one {w : World} {A2 : Option Addr} {n c : Nat} {l : List UInt8} {t : TypeId} {g : Option Nat} {B : Nat} (h : Far A2 l g ∧ Up B A2 l) :
    ∀ b o, (some ⟨w.heap.size, 0, none⟩ : Option Addr) = some ⟨b, o, none⟩ → ∀ (j : Nat) (x : List UInt8), [l][j]? = some x → ∀ A'' n' c', (w.alloc (.cells #[.slice A2 n c] t)).cell? ⟨b, o + j, none⟩ = some (.slice A'' n' c') → Far A'' x g ∧ Up B A'' x := by
  intro b o e j x hl A'' n' c' hc
  injection e with e
  injection e with e1 e2
  subst e1 e2
  match j, hl with
  | 0, hl =>
    simp at hl
    subst hl
    rw [Nat.zero_add, cell_of_row _ _ _ _ _ _ (heap_alloc_new w _)] at hc
    injection hc with hc
    injection hc with hc
    subst hc
    exact h
  | j + 1, hl => simp at hl

set_option maxHeartbeats 1000000 in
set_option maxRecDepth 100000 in
theorem cut_any (ep at_ : Int) (ha0 : -9223372036854775808 ≤ at_) (ha1 : at_ ≤ 9223372036854775807) (A : Option Addr) (c L : Nat) (b : List UInt8) (w : World) (hl : Lies w A c L b) (hL : L ≤ 4611686018427387904) :
    Calls Tryz.prog 39 #[.int .i64 ep, .int .i64 at_, .slice A L c] w (CutOut w (cutL ep at_ b) (cutE ep at_ b)) := by
  obtain ⟨i0, hi, hz0, hz1, hz2⟩ := info_parts sl_facts
  have HI := Lib.hid (show _ ∧ _ ∧ _ ∧ _ from ⟨hi, hz0, hz1, hz2⟩)
  clear hi hz0 hz1 hz2
  have HL := Lib.hid hl
  have hcap := hl.cap
  obtain ⟨C, hC⟩ : ∃ C, needN b = C := ⟨_, rfl⟩
  have hCI : need L = C := by rw [← hC, needN_eq, hl.len]
  have hCp : 1 ≤ C := by rw [← hC]; exact needN_pos b
  have hCb : L ≤ 44 * C ∧ 44 * (C - 1) ≤ L := by have := needN_bd b; rw [hC, hl.len] at this; exact ⟨this.1, this.2.1⟩
  have HC := Lib.hid hC
  have hnd := need_any L (by omega) (by omega)
  rw [hCI] at hnd
  have HND := Lib.hid hnd
  clear hnd hCI hC hl
  rcases Nat.lt_or_ge 1024 C with hbig | hsm
  · have HN := Lib.hid (fun W => @CutOut.no w W ep at_ b 13 (by unfold cutE; rw [HC.out, if_pos hbig]) (by decide))
    go_enter Tryz.func39, Tryz.ntmps39
    go_wp2_with fail
    refine (HND.out w).mono ?_
    rintro e w' ⟨rfl, hw⟩
    subst hw
    go_wp2_with fail
    go_ret2
    exact HN.out _ (Below.refl _ _)
  have HNO : Hid (∀ i, i < C → ¬ (pieceAt ep at_ C b i).May → ∀ W, Below w.heap.size w W → CutOut w (cutL ep at_ b) (cutE ep at_ b) (.returned (.tuple #[.slice none 0 0, .int .i64 1])) W) := by
    intro i hi hm W hW
    refine CutOut.no (cut_no ep at_ b i (by rw [HC.out]; exact hsm) (by rw [HC.out]; exact hi) ?_) (by decide) hW
    rw [HC.out]
    exact hm
  have HMAY : Hid (∀ i, i < C → ((pieceAt ep at_ C b i).May ↔ (0 ≤ ep ∧ ep ≤ 4294967295) ∧ 0 ≤ at_ + i ∧ at_ + i ≤ 2199023255552)) := by
    intro i hi
    have := piece_may ep at_ b i (by rw [HC.out]; exact hi) (by rw [HC.out]; exact hsm)
    rwa [HC.out] at this
  go_enter Tryz.func39, Tryz.ntmps39
  go_wp2_with fail
  refine (HND.out w).mono ?_
  rintro e w' ⟨rfl, hw⟩
  subst hw
  obtain ⟨hi, hz0, hz1, hz2⟩ := HI.out
  go_wp2_with (at_make; refine wpList_make_own _ rfl _ _ _ rfl w.heap.size 41 i0 _ 1 Tryz.underlying79 hi hz0 hz1 _ _ _ C rfl rfl (by omega) (by rw [hz2]; omega) (by unfold maxLen; omega) (Nat.le_refl _) ?_; intro w1 hown1 hg1)
  have HR1 : Hid (Rw w1 w.heap.size (.slice (some ⟨w.heap.size, 0, none⟩) 0 C) []) := Lib.hid ⟨[], hown1, fun j x hx => by simp at hx⟩
  have HB1 := Lib.hid ((Below.refl w.heap.size w).grown hg1 (Nat.le_refl _) (by simp))
  clear hown1 hg1 hi hz0 hz1 hz2
  go_loopw [9, 23] (fun v u wr => ∃ (i : Nat) (A' : Option Addr) (c' : Nat), u = .int .i64 (i : Int) ∧ v = .slice A' i c' ∧ i ≤ C ∧ Hid (∀ j, j < i → (pieceAt ep at_ C b j).May) ∧ Hid (Rw wr w.heap.size (.slice A' i c') ((cutAll ep at_ b).take i)) ∧ Hid (Below w.heap.size w wr)) (fun _ u _ => C - (intOf u).toNat)
  case atStart => exact ⟨0, _, _, rfl, rfl, by omega, Lib.hid (fun j hj => by omega), Lib.hid (by simpa using HR1.out), HB1⟩
  case round =>
    obtain ⟨i, A', c', rfl, rfl, hi, HM, HR, HB⟩ := hrel
    rcases Nat.lt_or_ge i C with hlt | hge
    · obtain ⟨F, hF⟩ : ∃ F, F = 44 * i := ⟨_, rfl⟩
      have hFL : F ≤ L := by omega
      obtain ⟨T, hT⟩ : ∃ T : Nat, T = min (F + 44) L := ⟨_, rfl⟩
      obtain ⟨Z, hZ⟩ : ∃ Z, IntKind.i64.wrap (at_ + (i : Int)) = Z := ⟨_, rfl⟩
      have hZ2 : Z = at_ + i := by
        rw [← hZ, IntKind.wrap_i64]
        rcases Nat.eq_zero_or_pos i with h0 | h0
        · subst h0; omega
        · have := ((HMAY.out 0 (by omega)).1 (HM.out 0 h0)).2; omega
      have hw1 : IntKind.i64.wrap ((i : Int) * 44) = (F : Int) := by rw [IntKind.wrap_i64]; omega
      have hw2 : IntKind.i64.wrap ((F : Int) + 44) = (F : Int) + 44 := by rw [IntKind.wrap_i64]; omega
      have hw3 : min ((F : Int) + 44) (L : Int) = (T : Int) := by omega
      have hTL : T ≤ L := by omega
      have hFT : F ≤ T := by omega
      have HD : Hid (∀ A2, (¬ c = F → A2 = Option.map (fun x => x.add F) A) → Lies w A2 (c - F) (T - F) (pieceAt ep at_ C b i).D) := by
        intro A2 hA2
        refine ⟨?_, ?_, by omega⟩
        · show Rd w w.heap.size A2 ((b.drop (44 * i)).take 44)
          rw [← hF]
          refine HL.out.rd.cut F 44 A2 (fun b' o' e hk => ?_)
          have := HL.out.len
          rw [hA2 (by omega), e]
          show some ((⟨b', o', none⟩ : Addr).add F) = _
          rw [addr_add]
        · rw [piece_len, ← hF, HL.out.len]
          omega
      have HST := Lib.hid (cutAll_step ep at_ b i (by rw [HC.out]; exact hlt))
      rw [HC.out] at HST
      have HPE : Hid (∀ A2, Pv.pc ⟨ep, Z, (i : Int), (C : Int), A2, T - F, c - F⟩ (pieceAt ep at_ C b i).D = pieceAt ep at_ C b i) := by
        intro A2
        show Pc.mk ep Z i C _ = Pc.mk _ _ _ _ _
        rw [hZ2]
        rfl
      have HNM := Lib.hid (HNO.out i hlt)
      have HM2 : Hid ((pieceAt ep at_ C b i).May → ∀ j, j < i + 1 → (pieceAt ep at_ C b j).May) := by
        intro h j hj
        rcases Nat.lt_or_ge j i with h1 | h1
        · exact HM.out j h1
        · obtain rfl : j = i := by omega
          exact h
      generalize pieceAt ep at_ C b i = p at HD HST HPE HNM HM2
      clear hF hT hZ2 HM
      by_cases hcF : c = F
      · have hd := HD.out A (fun h => absurd hcF h)
        subst hcF
        rw [Nat.sub_self] at hd
        simp only [Nat.sub_self] at HPE
        go_wp2_with fail
        have hwr := write_any ⟨ep, Z, (i : Int), (C : Int), A, T - c, 0⟩ p.D wr (hd.up HB.out) (by show T - c ≤ _; omega)
        rw [HPE.out] at hwr
        refine hwr.mono ?_
        clear hwr hd HPE HD
        rintro e w2 ⟨A2, n2, c2, rfl, ho2, hb2⟩
        have HO2 := Lib.hid ho2
        have HB2 := Lib.hid (below_two HB.out hb2)
        have HR2 := Lib.hid (HR.out.below hb2)
        have hgr : ∀ k, (Value.slice A' i c').ownBlock = some k → k < wr.heap.size := fun k hk => (HR.out.lt k hk).2
        have HFA : Hid (Far A2 p.writeB (Value.slice A' i c').ownBlock ∧ Up w.heap.size A2 p.writeB) := by
          refine ⟨.inr fun a ha e => ?_, .inr fun a ha => ?_⟩
          · have h1 := (ho2.block a ha).1
            have h2 := hgr _ e.symm
            omega
          · exact Nat.le_trans HB.out.size (ho2.block a ha).1
        clear ho2 hb2 hgr HR HB
        by_cases hm : p.May
        · have hE : p.writeE = 0 := by unfold Pc.writeE; rw [if_pos hm]
          have hW : p.writeB = p.sector := by unfold Pc.writeB; rw [if_pos hm]
          have HM3 := Lib.hid (HM2.out hm)
          rw [hW] at HO2 HFA
          rw [hE]
          clear hE hW hm HNM HM2
          have HRL : Hid (((cutAll ep at_ b).take i).length = i) := by show _ = _; rw [List.length_take, length_cutAll, HC.out]; omega
          have hln : ((cutAll ep at_ b).take i ++ [p.sector]).length = i + 1 := by rw [List.length_append, HRL.out]; rfl
          have HLN := Lib.hid hln
          clear hln
          have hbl := HB2.out.size
          have hb3 := below_new w2 (.cells #[.slice A2 n2 c2] 41)
          have HR3 := Lib.hid (HR2.out.below hb3)
          have HLS : Hid (Ls (w2.alloc (.cells #[.slice A2 n2 c2] 41)) (some ⟨w2.heap.size, 0, none⟩) [p.sector]) := Lib.hid (ls_one HO2.out.lies _ _ rfl)
          have HFR := Lib.hid (far_one (w := w2) (n := n2) (c := c2) (t := 41) HFA.out)
          obtain ⟨hi', hz0, hz1, hz2⟩ := HI.out
          clear hb3
          go_wp2_with (at_builtin; refine wpList_append_rw rfl (.tmp 51) (.tmp 53) _ rfl w.heap.size i0 Tryz.underlying79 hi' hz0 hz1 hz2 (.slice A' i c') _ rfl HR3.out _ _ 1 _ rfl HLS.out rfl HFR.out (by rw [HRL.out]; omega) (Nat.le_trans hbl (by simp)) ?_; intro v3 w3 hR3 hg3 hat3; have HR4 := Lib.hid hR3; have HG3 := Lib.hid hg3; clear hR3 hg3 hat3; obtain ⟨A4, c4, hv4, _, _⟩ := HR4.out.form; rw [HLN.out] at hv4; subst hv4)
          refine ⟨⟨i + 1, A4, c4, by go_num, rfl, by omega, HM3, by rw [HST.out]; exact HR4, Lib.hid (below_two HB2.out (below_new _ _) |>.grown HG3.out (by simp; omega) (fun k hk => (HR3.out.lt k hk).1))⟩, by simp [intOf]; omega⟩
        · have hE : p.writeE = 1 := by unfold Pc.writeE; rw [if_neg hm]
          have HN := Lib.hid (HNM.out hm)
          rw [hE]
          clear hE hm HNM HM2
          go_wp2_with fail
          go_ret2
          exact HN.out _ HB2.out
      · have hd := HD.out (Option.map (fun x => x.add F) A) (fun _ => rfl)
        go_wp2_with fail
        have hwr := write_any ⟨ep, Z, (i : Int), (C : Int), Option.map (fun x => x.add F) A, T - F, c - F⟩ p.D wr (hd.up HB.out) (by show T - F ≤ _; omega)
        rw [HPE.out] at hwr
        refine hwr.mono ?_
        clear hwr hd HPE HD
        rintro e w2 ⟨A2, n2, c2, rfl, ho2, hb2⟩
        have HO2 := Lib.hid ho2
        have HB2 := Lib.hid (below_two HB.out hb2)
        have HR2 := Lib.hid (HR.out.below hb2)
        have hgr : ∀ k, (Value.slice A' i c').ownBlock = some k → k < wr.heap.size := fun k hk => (HR.out.lt k hk).2
        have HFA : Hid (Far A2 p.writeB (Value.slice A' i c').ownBlock ∧ Up w.heap.size A2 p.writeB) := by
          refine ⟨.inr fun a ha e => ?_, .inr fun a ha => ?_⟩
          · have h1 := (ho2.block a ha).1
            have h2 := hgr _ e.symm
            omega
          · exact Nat.le_trans HB.out.size (ho2.block a ha).1
        clear ho2 hb2 hgr HR HB
        by_cases hm : p.May
        · have hE : p.writeE = 0 := by unfold Pc.writeE; rw [if_pos hm]
          have hW : p.writeB = p.sector := by unfold Pc.writeB; rw [if_pos hm]
          have HM3 := Lib.hid (HM2.out hm)
          rw [hW] at HO2 HFA
          rw [hE]
          clear hE hW hm HNM HM2
          have HRL : Hid (((cutAll ep at_ b).take i).length = i) := by show _ = _; rw [List.length_take, length_cutAll, HC.out]; omega
          have hln : ((cutAll ep at_ b).take i ++ [p.sector]).length = i + 1 := by rw [List.length_append, HRL.out]; rfl
          have HLN := Lib.hid hln
          clear hln
          have hbl := HB2.out.size
          have hb3 := below_new w2 (.cells #[.slice A2 n2 c2] 41)
          have HR3 := Lib.hid (HR2.out.below hb3)
          have HLS : Hid (Ls (w2.alloc (.cells #[.slice A2 n2 c2] 41)) (some ⟨w2.heap.size, 0, none⟩) [p.sector]) := Lib.hid (ls_one HO2.out.lies _ _ rfl)
          have HFR := Lib.hid (far_one (w := w2) (n := n2) (c := c2) (t := 41) HFA.out)
          obtain ⟨hi', hz0, hz1, hz2⟩ := HI.out
          clear hb3
          go_wp2_with (at_builtin; refine wpList_append_rw rfl (.tmp 51) (.tmp 53) _ rfl w.heap.size i0 Tryz.underlying79 hi' hz0 hz1 hz2 (.slice A' i c') _ rfl HR3.out _ _ 1 _ rfl HLS.out rfl HFR.out (by rw [HRL.out]; omega) (Nat.le_trans hbl (by simp)) ?_; intro v3 w3 hR3 hg3 hat3; have HR4 := Lib.hid hR3; have HG3 := Lib.hid hg3; clear hR3 hg3 hat3; obtain ⟨A4, c4, hv4, _, _⟩ := HR4.out.form; rw [HLN.out] at hv4; subst hv4)
          refine ⟨⟨i + 1, A4, c4, by go_num, rfl, by omega, HM3, by rw [HST.out]; exact HR4, Lib.hid (below_two HB2.out (below_new _ _) |>.grown HG3.out (by simp; omega) (fun k hk => (HR3.out.lt k hk).1))⟩, by simp [intOf]; omega⟩
        · have hE : p.writeE = 1 := by unfold Pc.writeE; rw [if_neg hm]
          have HN := Lib.hid (HNM.out hm)
          rw [hE]
          clear hE hm HNM HM2
          go_wp2_with fail
          go_ret2
          exact HN.out _ HB2.out
    · obtain rfl : i = C := by omega
      have HE0 : Hid (cutE ep at_ b = 0) := Lib.hid (cut_yes ep at_ b (by rw [HC.out]; exact hsm) (by rw [HC.out]; exact HM.out))
      have hr := HR.out
      rw [List.take_of_length_le (by rw [length_cutAll, HC.out]; exact Nat.le_refl _)] at hr
      have HR2 := Lib.hid hr
      have HCL : Hid (cutL ep at_ b = cutAll ep at_ b) := by show _ = _; unfold cutL; rw [if_pos HE0.out]
      have HLN : Hid ((cutAll ep at_ b).length = i) := by show _ = _; rw [length_cutAll, HC.out]
      clear hr HR
      go_wp2_with fail
      go_ret2
      rw [HE0.out, HCL.out]
      obtain ⟨A4, c4, hv, _, hcc⟩ := HR2.out.form
      rw [HLN.out] at hv hcc
      injection hv with e1 e2 e3
      subst e1 e3
      exact ⟨A', i, c', rfl, HLN.out.symm, HR2.out.lsn, hcc, HB.out⟩

end Go.Proofs.YtdjfahnnfhediaaGreat
