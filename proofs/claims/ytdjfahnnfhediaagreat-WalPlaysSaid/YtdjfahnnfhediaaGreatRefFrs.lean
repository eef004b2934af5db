/-
  The document's Cut, of any bytes, at any epoch and place.
-/
import Derived.Test.YtdjfahnnfhediaaGreatCut6
import Derived.Test.YtdjfahnnfhediaaGreatRefWrite6
import Derived.Test.YtdjfahnnfhediaaGreatGath6
import Derived.Test.YtdjfahnnfhediaaGreatRefRead6
namespace Go.Proofs.YtdjfahnnfhediaaGreat
set_option maxRecDepth 100000
open Go.RowKit Crc Wm

set_option maxHeartbeats 1000000 in
set_option maxRecDepth 100000 in
theorem refcut_any (ep at_ : Int) (ha0 : -9223372036854775808 ≤ at_) (ha1 : at_ ≤ 9223372036854775807) (A : Option Addr) (c L : Nat) (b : List UInt8) (w : World) (hl : Lies w A c L b) (hL : L ≤ 4611686018427387904) :
    Calls Tryz.prog 51 #[.int .i64 ep, .int .i64 at_, .slice A L c] w (CutOut w (cutL ep at_ b) (cutE ep at_ b)) := by
  obtain ⟨i0, hi, hz0, hz1, hz2⟩ := info_parts sl_facts
  have HI := Lib.hid (show _ ∧ _ ∧ _ ∧ _ from ⟨hi, hz0, hz1, hz2⟩)
  clear hi hz0 hz1 hz2
  have HL := Lib.hid hl
  have hcap := hl.cap
  obtain ⟨C, hC⟩ : ∃ C, needN b = C := ⟨_, rfl⟩
  have hCI : need L = C := by rw [← hC, needN_eq, hl.len]
  have hCp : 1 ≤ C := by rw [← hC]; exact needN_pos b
  have hCb : L ≤ 44 * C ∧ 44 * (C - 1) ≤ L := by have := needN_bd b; rw [hC, hl.len] at this; exact ⟨this.1, this.2.1⟩
  have HC := Lib.hid hC
  have hnd := refneed_any L (by omega) (by omega)
  rw [hCI] at hnd
  have HND := Lib.hid hnd
  clear hnd hCI hC hl
  rcases Nat.lt_or_ge 1024 C with hbig | hsm
  · have HN := Lib.hid (fun W => @CutOut.no w W ep at_ b 13 (by unfold cutE; rw [HC.out, if_pos hbig]) (by decide))
    go_enter Tryz.func51, Tryz.ntmps51
    go_wp2_with fail
    refine (HND.out w).mono ?_
    rintro e w' ⟨rfl, hw⟩
    subst hw
    go_wp2_with fail
    go_ret2
    exact HN.out _ (Below.refl _ _)
  have HNO : Hid (∀ i, i < C → ¬ (pieceAt ep at_ C b i).May → ∀ W, Below w.heap.size w W → CutOut w (cutL ep at_ b) (cutE ep at_ b) (.returned (.tuple #[.slice none 0 0, .int .i64 1])) W) := by
    intro i hi hm W hW
    refine CutOut.no (cut_no ep at_ b i (by rw [HC.out]; exact hsm) (by rw [HC.out]; exact hi) ?_) (by decide) hW
    rw [HC.out]
    exact hm
  have HMAY : Hid (∀ i, i < C → ((pieceAt ep at_ C b i).May ↔ (0 ≤ ep ∧ ep ≤ 4294967295) ∧ 0 ≤ at_ + i ∧ at_ + i ≤ 2199023255552)) := by
    intro i hi
    have := piece_may ep at_ b i (by rw [HC.out]; exact hi) (by rw [HC.out]; exact hsm)
    rwa [HC.out] at this
  have HNA : Hid ((at_ < 0 ∨ 2199023255552 < at_) → ∀ W, Below w.heap.size w W → CutOut w (cutL ep at_ b) (cutE ep at_ b) (.returned (.tuple #[.slice none 0 0, .int .i64 1])) W) := by
    intro h W hW
    exact HNO.out 0 (by omega) (fun g => by have := (HMAY.out 0 (by omega)).1 g; omega) W hW
  go_enter Tryz.func51, Tryz.ntmps51
  go_wp2_with fail
  refine (HND.out w).mono ?_
  rintro e w' ⟨rfl, hw⟩
  subst hw
  by_cases hat : at_ < 0 ∨ 2199023255552 < at_
  · have HN := Lib.hid (HNA.out hat)
    rcases hat with h | h
    · go_wp2_with fail
      go_ret2
      exact HN.out _ (Below.refl _ _)
    · have h0 : ¬ at_ < 0 := by omega
      go_wp2_with fail
      go_ret2
      exact HN.out _ (Below.refl _ _)
  have hat0 : 0 ≤ at_ := by omega
  have hat1 : at_ ≤ 2199023255552 := by omega
  have hd0 : decide (at_ < 0) = false := decide_eq_false (by omega)
  have hd1 : decide (at_ > 2199023255552) = false := decide_eq_false (by omega)
  clear hat
  go_wp2_with fail
  clear hd0 hd1
  have HR1 : Hid (Rw w w.heap.size (.slice none 0 0) []) := Lib.hid (Rw.nil _ _)
  have HB1 : Hid (Below w.heap.size w w) := Lib.hid (Below.refl _ _)
  go_loopw [9, 10] (fun v u wr => ∃ (i : Nat) (A' : Option Addr) (c' : Nat), u = .int .i64 (i : Int) ∧ v = .slice A' i c' ∧ i ≤ C ∧ Hid (∀ j, j < i → (pieceAt ep at_ C b j).May) ∧ Hid (Rw wr w.heap.size (.slice A' i c') ((cutAll ep at_ b).take i)) ∧ Hid (Below w.heap.size w wr)) (fun _ u _ => C - (intOf u).toNat)
  case atStart => exact ⟨0, _, _, rfl, rfl, by omega, Lib.hid (fun j hj => by omega), Lib.hid (by simpa using HR1.out), HB1⟩
  case round =>
    obtain ⟨i, A', c', rfl, rfl, hi, HM, HR, HB⟩ := hrel
    rcases Nat.lt_or_ge i C with hlt | hge
    · obtain ⟨F, hF⟩ : ∃ F, F = 44 * i := ⟨_, rfl⟩
      have hFL : F ≤ L := by omega
      obtain ⟨T, hT⟩ : ∃ T : Nat, T = min (F + 44) L := ⟨_, rfl⟩
      obtain ⟨Z, hZ⟩ : ∃ Z, IntKind.i64.wrap (at_ + (i : Int)) = Z := ⟨_, rfl⟩
      have hZ2 : Z = at_ + i := by rw [← hZ, IntKind.wrap_i64]; omega
      have hw1 : IntKind.i64.wrap (44 * (i : Int)) = (F : Int) := by rw [IntKind.wrap_i64]; omega
      have hw2 : IntKind.i64.wrap ((F : Int) + 44) = (F : Int) + 44 := by rw [IntKind.wrap_i64]; omega
      have hw3 : min (L : Int) ((F : Int) + 44) = (T : Int) := by omega
      have hTL : T ≤ L := by omega
      have hFT : F ≤ T := by omega
      have HD : Hid (∀ A2, (¬ c = F → A2 = Option.map (fun x => x.add F) A) → Lies w A2 (c - F) (T - F) (pieceAt ep at_ C b i).D) := by
        intro A2 hA2
        refine ⟨?_, ?_, by omega⟩
        · show Rd w w.heap.size A2 ((b.drop (44 * i)).take 44)
          rw [← hF]
          refine HL.out.rd.cut F 44 A2 (fun b' o' e hk => ?_)
          have := HL.out.len
          rw [hA2 (by omega), e]
          show some ((⟨b', o', none⟩ : Addr).add F) = _
          rw [addr_add]
        · rw [piece_len, ← hF, HL.out.len]
          omega
      have HST := Lib.hid (cutAll_step ep at_ b i (by rw [HC.out]; exact hlt))
      rw [HC.out] at HST
      have HPE : Hid (∀ A2, Pv.pc ⟨ep, Z, (i : Int), (C : Int), A2, T - F, c - F⟩ (pieceAt ep at_ C b i).D = pieceAt ep at_ C b i) := by
        intro A2
        show Pc.mk ep Z i C _ = Pc.mk _ _ _ _ _
        rw [hZ2]
        rfl
      have HNM := Lib.hid (HNO.out i hlt)
      have HM2 : Hid ((pieceAt ep at_ C b i).May → ∀ j, j < i + 1 → (pieceAt ep at_ C b j).May) := by
        intro h j hj
        rcases Nat.lt_or_ge j i with h1 | h1
        · exact HM.out j h1
        · obtain rfl : j = i := by omega
          exact h
      generalize pieceAt ep at_ C b i = p at HD HST HPE HNM HM2
      clear hF hT hZ2 HM
      by_cases hcF : c = F
      · have hd := HD.out A (fun h => absurd hcF h)
        subst hcF
        rw [Nat.sub_self] at hd
        simp only [Nat.sub_self] at HPE
        go_wp2_with fail
        have hwr := refwrite_any ⟨ep, Z, (i : Int), (C : Int), A, T - c, 0⟩ p.D wr (hd.up HB.out) (by show T - c ≤ _; omega)
        rw [HPE.out] at hwr
        refine hwr.mono ?_
        clear hwr hd HPE HD
        rintro e w2 ⟨A2, n2, c2, rfl, ho2, hb2⟩
        have HO2 := Lib.hid ho2
        have HB2 := Lib.hid (below_two HB.out hb2)
        have HR2 := Lib.hid (HR.out.below hb2)
        have hgr : ∀ k, (Value.slice A' i c').ownBlock = some k → k < wr.heap.size := fun k hk => (HR.out.lt k hk).2
        have HFA : Hid (Far A2 p.writeB (Value.slice A' i c').ownBlock ∧ Up w.heap.size A2 p.writeB) := by
          refine ⟨.inr fun a ha e => ?_, .inr fun a ha => ?_⟩
          · have h1 := (ho2.block a ha).1
            have h2 := hgr _ e.symm
            omega
          · exact Nat.le_trans HB.out.size (ho2.block a ha).1
        clear ho2 hb2 hgr HR HB
        by_cases hm : p.May
        · have hE : p.writeE = 0 := by unfold Pc.writeE; rw [if_pos hm]
          have hW : p.writeB = p.sector := by unfold Pc.writeB; rw [if_pos hm]
          have HM3 := Lib.hid (HM2.out hm)
          rw [hW] at HO2 HFA
          rw [hE]
          clear hE hW hm HNM HM2
          have HRL : Hid (((cutAll ep at_ b).take i).length = i) := by show _ = _; rw [List.length_take, length_cutAll, HC.out]; omega
          have hln : ((cutAll ep at_ b).take i ++ [p.sector]).length = i + 1 := by rw [List.length_append, HRL.out]; rfl
          have HLN := Lib.hid hln
          clear hln
          have hbl := HB2.out.size
          have hb3 := below_new w2 (.cells #[.slice A2 n2 c2] 41)
          have HR3 := Lib.hid (HR2.out.below hb3)
          have HLS : Hid (Ls (w2.alloc (.cells #[.slice A2 n2 c2] 41)) (some ⟨w2.heap.size, 0, none⟩) [p.sector]) := Lib.hid (ls_one HO2.out.lies _ _ rfl)
          have HFR := Lib.hid (far_one (w := w2) (n := n2) (c := c2) (t := 41) HFA.out)
          obtain ⟨hi', hz0, hz1, hz2⟩ := HI.out
          clear hb3
          go_wp2_with (at_builtin; refine wpList_append_rw rfl (.tmp 53) (.tmp 55) _ rfl w.heap.size i0 Tryz.underlying79 hi' hz0 hz1 hz2 (.slice A' i c') _ rfl HR3.out _ _ 1 _ rfl HLS.out rfl HFR.out (by rw [HRL.out]; omega) (Nat.le_trans hbl (by simp)) ?_; intro v3 w3 hR3 hg3 hat3; have HR4 := Lib.hid hR3; have HG3 := Lib.hid hg3; clear hR3 hg3 hat3; obtain ⟨A4, c4, hv4, _, _⟩ := HR4.out.form; rw [HLN.out] at hv4; subst hv4)
          refine ⟨⟨i + 1, A4, c4, by go_num, rfl, by omega, HM3, by rw [HST.out]; exact HR4, Lib.hid (below_two HB2.out (below_new _ _) |>.grown HG3.out (by simp; omega) (fun k hk => (HR3.out.lt k hk).1))⟩, by simp [intOf]; omega⟩
        · have hE : p.writeE = 1 := by unfold Pc.writeE; rw [if_neg hm]
          have HN := Lib.hid (HNM.out hm)
          rw [hE]
          clear hE hm HNM HM2
          go_wp2_with fail
          go_ret2
          exact HN.out _ HB2.out
      · have hd := HD.out (Option.map (fun x => x.add F) A) (fun _ => rfl)
        go_wp2_with fail
        have hwr := refwrite_any ⟨ep, Z, (i : Int), (C : Int), Option.map (fun x => x.add F) A, T - F, c - F⟩ p.D wr (hd.up HB.out) (by show T - F ≤ _; omega)
        rw [HPE.out] at hwr
        refine hwr.mono ?_
        clear hwr hd HPE HD
        rintro e w2 ⟨A2, n2, c2, rfl, ho2, hb2⟩
        have HO2 := Lib.hid ho2
        have HB2 := Lib.hid (below_two HB.out hb2)
        have HR2 := Lib.hid (HR.out.below hb2)
        have hgr : ∀ k, (Value.slice A' i c').ownBlock = some k → k < wr.heap.size := fun k hk => (HR.out.lt k hk).2
        have HFA : Hid (Far A2 p.writeB (Value.slice A' i c').ownBlock ∧ Up w.heap.size A2 p.writeB) := by
          refine ⟨.inr fun a ha e => ?_, .inr fun a ha => ?_⟩
          · have h1 := (ho2.block a ha).1
            have h2 := hgr _ e.symm
            omega
          · exact Nat.le_trans HB.out.size (ho2.block a ha).1
        clear ho2 hb2 hgr HR HB
        by_cases hm : p.May
        · have hE : p.writeE = 0 := by unfold Pc.writeE; rw [if_pos hm]
          have hW : p.writeB = p.sector := by unfold Pc.writeB; rw [if_pos hm]
          have HM3 := Lib.hid (HM2.out hm)
          rw [hW] at HO2 HFA
          rw [hE]
          clear hE hW hm HNM HM2
          have HRL : Hid (((cutAll ep at_ b).take i).length = i) := by show _ = _; rw [List.length_take, length_cutAll, HC.out]; omega
          have hln : ((cutAll ep at_ b).take i ++ [p.sector]).length = i + 1 := by rw [List.length_append, HRL.out]; rfl
          have HLN := Lib.hid hln
          clear hln
          have hbl := HB2.out.size
          have hb3 := below_new w2 (.cells #[.slice A2 n2 c2] 41)
          have HR3 := Lib.hid (HR2.out.below hb3)
          have HLS : Hid (Ls (w2.alloc (.cells #[.slice A2 n2 c2] 41)) (some ⟨w2.heap.size, 0, none⟩) [p.sector]) := Lib.hid (ls_one HO2.out.lies _ _ rfl)
          have HFR := Lib.hid (far_one (w := w2) (n := n2) (c := c2) (t := 41) HFA.out)
          obtain ⟨hi', hz0, hz1, hz2⟩ := HI.out
          clear hb3
          go_wp2_with (at_builtin; refine wpList_append_rw rfl (.tmp 53) (.tmp 55) _ rfl w.heap.size i0 Tryz.underlying79 hi' hz0 hz1 hz2 (.slice A' i c') _ rfl HR3.out _ _ 1 _ rfl HLS.out rfl HFR.out (by rw [HRL.out]; omega) (Nat.le_trans hbl (by simp)) ?_; intro v3 w3 hR3 hg3 hat3; have HR4 := Lib.hid hR3; have HG3 := Lib.hid hg3; clear hR3 hg3 hat3; obtain ⟨A4, c4, hv4, _, _⟩ := HR4.out.form; rw [HLN.out] at hv4; subst hv4)
          refine ⟨⟨i + 1, A4, c4, by go_num, rfl, by omega, HM3, by rw [HST.out]; exact HR4, Lib.hid (below_two HB2.out (below_new _ _) |>.grown HG3.out (by simp; omega) (fun k hk => (HR3.out.lt k hk).1))⟩, by simp [intOf]; omega⟩
        · have hE : p.writeE = 1 := by unfold Pc.writeE; rw [if_neg hm]
          have HN := Lib.hid (HNM.out hm)
          rw [hE]
          clear hE hm HNM HM2
          go_wp2_with fail
          go_ret2
          exact HN.out _ HB2.out
    · obtain rfl : i = C := by omega
      have HE0 : Hid (cutE ep at_ b = 0) := Lib.hid (cut_yes ep at_ b (by rw [HC.out]; exact hsm) (by rw [HC.out]; exact HM.out))
      have hr := HR.out
      rw [List.take_of_length_le (by rw [length_cutAll, HC.out]; exact Nat.le_refl _)] at hr
      have HR2 := Lib.hid hr
      have HCL : Hid (cutL ep at_ b = cutAll ep at_ b) := by show _ = _; unfold cutL; rw [if_pos HE0.out]
      have HLN : Hid ((cutAll ep at_ b).length = i) := by show _ = _; rw [length_cutAll, HC.out]
      clear hr HR
      go_wp2_with fail
      go_ret2
      rw [HE0.out, HCL.out]
      obtain ⟨A4, c4, hv, _, hcc⟩ := HR2.out.form
      rw [HLN.out] at hv hcc
      injection hv with e1 e2 e3
      subst e1 e3
      exact ⟨A', i, c', rfl, HLN.out.symm, HR2.out.lsn, hcc, HB.out⟩

end Go.Proofs.YtdjfahnnfhediaaGreat

namespace Go.Proofs.YtdjfahnnfhediaaGreat
set_option maxRecDepth 100000
open Go.RowKit Crc Wm

/-- an error at a place, none ahead of it: that is what is gathered -/
theorem gat_at {ls : List (List UInt8)} {at_ : Int} {i : Nat} {E : Int} (hf : firstErr ls at_ (headP ls).E (headP ls).C i = 0) (hi : i = 0 ∨ (headE ls = 0 ∧ (i : Int) < (headP ls).C))
    (he : errAt ls at_ (headP ls).E (headP ls).C i = E) (hE : E ≠ 0) : gatE ls at_ = E := by
  have key : headE ls = 0 → (i : Int) < (headP ls).C → gatE ls at_ = E := by
    intro h0 hlt
    unfold gatE
    rw [if_neg (by rw [h0]; exact fun h => h rfl), firstErr_at ls at_ _ _ i _ (by omega) hf (by rw [he]; exact hE), he]
  rcases hi with rfl | ⟨h0, hlt⟩
  · by_cases h0 : headE ls = 0
    · exact key h0 (by have := (count_bd ls h0).1; omega)
    · unfold gatE
      rw [if_pos h0, ← he]
      unfold headE at h0 ⊢
      unfold errAt
      cases hx : ls[0]? with
      | none => rfl
      | some x =>
        rw [hx] at h0
        simp only at h0 ⊢
        rw [if_pos h0]
  · exact key h0 hlt
theorem gat_done {ls : List (List UInt8)} {at_ : Int} {i : Nat} (h0 : headE ls = 0) (hf : firstErr ls at_ (headP ls).E (headP ls).C (i + 1) = 0) (hC : (headP ls).C = (i : Int) + 1) :
    gatE ls at_ = 0 ∧ gatB ls at_ = datas ls (i + 1) ∧ gatEp ls at_ = (headP ls).E ∧ gatC ls at_ = (headP ls).C := by
  have hn : (headP ls).C.toNat = i + 1 := by omega
  have e : gatE ls at_ = 0 := by
    unfold gatE
    rw [if_neg (by rw [h0]; exact fun h => h rfl), hn]
    exact hf
  unfold gatB gatEp gatC
  rw [e, hn]
  exact ⟨rfl, if_pos rfl, if_pos rfl, if_pos rfl⟩
theorem errAt_some {ls : List (List UInt8)} {at_ ep ct : Int} {i : Nat} {x : List UInt8} (hx : ls[i]? = some x) : errAt ls at_ ep ct i = if readE x ≠ 0 then readE x else if (readP x).A = at_ + i ∧ (readP x).I = i ∧ (readP x).E = ep ∧ (readP x).C = ct then 0 else 3 := by
  unfold errAt
  rw [hx]
theorem errAt_none {ls : List (List UInt8)} {at_ ep ct : Int} {i : Nat} (hx : ls[i]? = none) : errAt ls at_ ep ct i = 2 := by
  unfold errAt
  rw [hx]
theorem head_some {ls : List (List UInt8)} {x : List UInt8} (hx : ls[0]? = some x) : headE ls = readE x ∧ headP ls = readP x := by
  unfold headE headP
  rw [List.getD_eq_getElem?_getD, hx]
  exact ⟨rfl, rfl⟩
theorem dataAt_some {ls : List (List UInt8)} {i : Nat} {x : List UInt8} (hx : ls[i]? = some x) : dataAt ls i = (readP x).D := by
  unfold dataAt
  rw [List.getD_eq_getElem?_getD, hx]
  rfl

theorem Bp.apart {w w' : World} {g : Nat} {p : Pv} {t : TypeId} {row : Option Nat} (h : Bp w g p t) (hg : w.grownBy w' row) (hr : ∀ k, row = some k → k ≠ g) : Bp w' g p t :=
  (hg.block g h.lt (fun e => hr g e.symm rfl)).trans h
theorem Bp.setAll {w : World} {g : Nat} {p q : Pv} {t : TypeId} (h : Bp w g p t) : Bp (((((w.setCell ⟨g, 0, none⟩ (.int .i64 q.E)).setCell ⟨g, 1, none⟩ (.int .i64 q.A)).setCell ⟨g, 2, none⟩ (.int .i64 q.I)).setCell ⟨g, 3, none⟩ (.int .i64 q.C)).setCell ⟨g, 4, none⟩ (.slice q.ad q.n q.c)) g q t := by
  unfold Bp at h ⊢
  rw [heap_setCell_same _ _ _ _ _ _ (heap_setCell_same _ _ _ _ _ _ (heap_setCell_same _ _ _ _ _ _ (heap_setCell_same _ _ _ _ _ _ (heap_setCell_same _ _ _ _ _ _ h))))]
  rfl

set_option maxHeartbeats 3000000 in
set_option maxRecDepth 100000 in
theorem refgather_any (A : Option Addr) (c m : Nat) (ls : List (List UInt8)) (HM : Hid (ls.length = m)) (_hm : m ≤ 1000000) (hsm : Hid (∀ x ∈ ls, x.length ≤ 1000000)) (at_ : Int) (_ha0 : -9223372036854775808 ≤ at_) (_ha1 : at_ ≤ 9223372036854775807) (w : World) (hls : Ls w A ls) :
    Calls Tryz.prog 46 #[.slice A m c, .int .i64 at_] w (GatOut w (gatB ls at_) (gatEp ls at_) (gatC ls at_) (gatE ls at_)) := by
  obtain ⟨ib, hi, hz0, hz1, hz2⟩ := info_parts byte_facts
  have HI := Lib.hid (show _ ∧ _ ∧ _ ∧ _ from ⟨hi, hz0, hz1, hz2⟩)
  clear hi hz0 hz1 hz2
  have HL := Lib.hid hls
  have HB0 := Lib.hid (below_new w (.cells #[.int .i64 0, .int .i64 0, .int .i64 0, .int .i64 0, .slice none 0 0] 109))
  have HP0 := Lib.hid (Bp.new w zp 109)
  have HNO := Lib.hid (fun W E => @GatOut.no w W ls at_ E)
  clear hls
  go_enter Tryz.func46, Tryz.ntmps46
  go_wp2_with fail
  generalize hw0 : w.alloc (.cells #[.int .i64 0, .int .i64 0, .int .i64 0, .int .i64 0, .slice none 0 0] 109) = w0
  replace HB0 : Hid (Below w.heap.size w w0) := by rw [← hw0]; exact HB0
  replace HP0 : Hid (Bp w0 w.heap.size zp 109) := by rw [← hw0]; exact HP0
  clear hw0
  go_loopw [8, 10] (fun v u wr => ∃ (i U : Nat) (A' : Option Addr) (c' : Nat) (f : Pv), u = .int .i64 (i : Int) ∧ v = .slice A' U c' ∧ i ≤ 1023 ∧ U ≤ 44 * i ∧ Hid (Owns wr (w.heap.size + 1) A' c' U (datas ls i)) ∧ Hid (firstErr ls at_ (headP ls).E (headP ls).C i = 0) ∧ Hid (i = 0 ∨ (headE ls = 0 ∧ (i : Int) < (headP ls).C)) ∧ Hid (0 < i → f.E = (headP ls).E ∧ f.C = (headP ls).C) ∧ Hid (Bp wr w.heap.size f 109) ∧ Hid (Below w.heap.size w wr)) (fun _ u _ => 1024 - (intOf u).toNat)
  case atStart => exact ⟨0, 0, none, 0, zp, rfl, rfl, by omega, by omega, Lib.hid (World.ownsRow_nil _ _ _ _), Lib.hid rfl, Lib.hid (.inl rfl), Lib.hid (fun h => by omega), HP0, HB0⟩
  case round =>
    clear HP0 HB0
    obtain ⟨i, U, A', c', f, rfl, rfl, hi, hU, HO, HF, HIC, HFE, HP, HB⟩ := hrel
    rcases Nat.lt_or_ge i m with hlt | hge
    case inr =>
      have hx : ls[i]? = none := List.getElem?_eq_none (by rw [HM.out]; exact hge)
      have HN := Lib.hid (HNO.out · 2 (gat_at HF.out HIC.out (errAt_none hx) (by decide)) (by decide))
      clear hx
      go_wp2_with fail
      (try simp only [Exit.inBlock, Exit.then]); refine bodyPost_ret (results_tmp4 rfl _ _ _) rfl ?_
      exact HN.out _ HB.out
    have hil : i < ls.length := by rw [HM.out]; exact hlt
    have hx := List.getElem?_eq_getElem hil
    have hxl := hsm.out _ (List.getElem_mem hil)
    generalize ls[i] = x at hx hxl
    obtain ⟨b, o, Ax, n, cx, rfl, hb, hc, hlx⟩ := HL.out.at_ hx
    have hn : n ≤ 1000000 := by rw [← hlx.len]; exact hxl
    have hc1 := (HB.out.cell (p := ⟨b, o + i, none⟩) hb).trans hc
    have HCA := Lib.hid (refread_any Ax cx n x wr (hlx.up HB.out) (by omega))
    have HEA := Lib.hid (errAt_some (at_ := at_) (ep := (headP ls).E) (ct := (headP ls).C) hx)
    have HST := Lib.hid (firstErr_step ls at_ (headP ls).E (headP ls).C i HF.out)
    have HMA := Lib.hid (readP_may x)
    have HPL := Lib.hid (readP_len x)
    have HDA := Lib.hid (dataAt_some hx)
    have HHD : Hid (i = 0 → headE ls = readE x ∧ headP ls = readP x) := Lib.hid (fun h => by subst h; exact head_some hx)
    have HGA := Lib.hid (fun E => @gat_at ls at_ i E HF.out HIC.out)
    have HGD := Lib.hid (@gat_done ls at_ i)
    have hpl : w.heap.size < wr.heap.size := HP.out.lt
    have HRB : Hid (∀ k, (Value.slice A' U c').ownBlock = some k → k < wr.heap.size) := Lib.hid (fun k hk => (World.ownsRow.lt HO.out k hk).2)
    clear hil hx hxl hb hc hlx HF
    go_wp2_with fail
    refine HCA.out.mono ?_
    rintro e w1 ⟨A3, n3, c3, rfl, ho3, hb3⟩
    generalize readE x = E at *
    generalize readP x = p at *
    obtain ⟨PE, PA, PI, PC, PD⟩ := p
    simp only at HEA HMA HPL HDA HHD ho3
    have hb4 := below_new w1 (.cells #[.int .i64 PE, .int .i64 PA, .int .i64 PI, .int .i64 PC, .slice A3 n3 c3] 109)
    have HQ : Hid (Bp (w1.alloc (.cells #[.int .i64 PE, .int .i64 PA, .int .i64 PI, .int .i64 PC, .slice A3 n3 c3] 109)) w1.heap.size ⟨PE, PA, PI, PC, A3, n3, c3⟩ 109) := Lib.hid (Bp.new w1 ⟨PE, PA, PI, PC, A3, n3, c3⟩ 109)
    replace HO := Lib.hid ((HO.out.below hb3).below hb4)
    replace HP := Lib.hid ((HP.out.below hb3).below hb4)
    replace HB := Lib.hid (below_two (below_two HB.out hb3) hb4)
    have HD := Lib.hid (ho3.below hb4)
    have hwr1 : wr.heap.size ≤ w1.heap.size := hb3.size
    have hn3 : n3 ≤ 44 := by rw [← ho3.len]; exact HPL.out
    clear ho3 hb3 hb4 HCA hc1
    by_cases hE : E = 0
    case neg =>
      have hne : (E != 0) = true := by rw [bne_iff_ne]; exact hE
      have HN := Lib.hid (HNO.out · E (HGA.out E (by rw [HEA.out, if_pos hE]) hE) hE)
      clear hE
      go_wp2_with fail
      (try simp only [Exit.inBlock, Exit.then]); refine bodyPost_ret (results_tmp4 rfl _ _ _) rfl ?_
      exact HN.out _ HB.out
    subst hE
    have hne : ((0 : Int) != 0) = false := rfl
    have hmay := HMA.out rfl
    obtain ⟨_, ⟨a0, a1⟩, ⟨k0, k1⟩, ⟨i0', i1⟩, _⟩ := hmay
    simp only at a0 a1 k0 k1 i0' i1
    have HEB : Hid (errAt ls at_ (headP ls).E (headP ls).C i = if PA = at_ + i ∧ PI = i ∧ PE = (headP ls).E ∧ PC = (headP ls).C then 0 else 3) := by show _ = _; rw [HEA.out, if_neg (fun h => h rfl)]
    have hws : IntKind.i64.wrap (PA - (i : Int)) = PA - (i : Int) := by rw [IntKind.wrap_i64]; omega
    have hwc : IntKind.i64.wrap (PC - 1) = PC - 1 := by rw [IntKind.wrap_i64]; omega
    have HN3 := Lib.hid (fun (h : ¬ (PA = at_ + i ∧ PI = i ∧ PE = (headP ls).E ∧ PC = (headP ls).C)) W => HNO.out W 3 (HGA.out 3 (by rw [HEB.out, if_neg h]) (by decide)) (by decide))
    clear HEA HMA hne HGA
    generalize hw2 : w1.alloc (.cells #[.int .i64 PE, .int .i64 PA, .int .i64 PI, .int .i64 PC, .slice A3 n3 c3] 109) = w2
    replace HQ : Hid (Bp w2 w1.heap.size ⟨PE, PA, PI, PC, A3, n3, c3⟩ 109) := by rw [← hw2]; exact HQ
    replace HO : Hid (Owns w2 (w.heap.size + 1) A' c' U (datas ls i)) := by rw [← hw2]; exact HO
    replace HP : Hid (Bp w2 w.heap.size f 109) := by rw [← hw2]; exact HP
    replace HB : Hid (Below w.heap.size w w2) := by rw [← hw2]; exact HB
    replace HD : Hid (Owns w2 wr.heap.size A3 c3 n3 PD) := by rw [← hw2]; exact HD
    rcases Nat.eq_zero_or_pos i with hi0 | hi0
    · have ht : ((i : Int) == 0) = true := by rw [hi0]; rfl
      obtain ⟨hh0, hhp⟩ := HHD.out hi0
      have HH0 : Hid (headE ls = 0) := Lib.hid hh0
      have HE3 : Hid (PE = (headP ls).E) := by show _ = _; rw [hhp]
      have HC3 : Hid (PC = (headP ls).C) := by show _ = _; rw [hhp]
      have HFF : Hid (PE = (headP ls).E ∧ PC = (headP ls).C) := Lib.hid ⟨HE3.out, HC3.out⟩
      clear hh0 hhp HHD HFE HIC hi0
      have r0 := HP.out.c0
      have r1 := HP.out.c1
      have r2 := HP.out.c2
      have r3 := HP.out.c3
      have r4 := HP.out.c4
      have g0 := HP.out.fr 0
      have g1 := HP.out.fr 1
      have g2 := HP.out.fr 2
      have g3 := HP.out.fr 3
      have g4 := HP.out.fr 4
      have s0 := HQ.out.c0
      have s1 := HQ.out.c1
      have s2 := HQ.out.c2
      have s3 := HQ.out.c3
      have s4 := HQ.out.c4
      simp only at s0 s1 s2 s3 s4
      have hne1 : w1.heap.size ≠ w.heap.size := by omega
      have HP2 := Lib.hid (HP.out.setAll (q := ⟨PE, PA, PI, PC, A3, n3, c3⟩))
      have HQ2 := Lib.hid (((((HQ.out.setOther (q := ⟨w.heap.size, 0, none⟩) hne1 (.int .i64 PE)).setOther (q := ⟨w.heap.size, 1, none⟩) hne1 (.int .i64 PA)).setOther (q := ⟨w.heap.size, 2, none⟩) hne1 (.int .i64 PI)).setOther (q := ⟨w.heap.size, 3, none⟩) hne1 (.int .i64 PC)).setOther (q := ⟨w.heap.size, 4, none⟩) hne1 (.slice A3 n3 c3))
      have HO2 := Lib.hid (((((HO.out.setOld (q := ⟨w.heap.size, 0, none⟩) (Nat.lt_succ_self _) (.int .i64 PE)).setOld (q := ⟨w.heap.size, 1, none⟩) (Nat.lt_succ_self _) (.int .i64 PA)).setOld (q := ⟨w.heap.size, 2, none⟩) (Nat.lt_succ_self _) (.int .i64 PI)).setOld (q := ⟨w.heap.size, 3, none⟩) (Nat.lt_succ_self _) (.int .i64 PC)).setOld (q := ⟨w.heap.size, 4, none⟩) (Nat.lt_succ_self _) (.slice A3 n3 c3))
      have HD2 := Lib.hid (((((HD.out.setOld (q := ⟨w.heap.size, 0, none⟩) hpl (.int .i64 PE)).setOld (q := ⟨w.heap.size, 1, none⟩) hpl (.int .i64 PA)).setOld (q := ⟨w.heap.size, 2, none⟩) hpl (.int .i64 PI)).setOld (q := ⟨w.heap.size, 3, none⟩) hpl (.int .i64 PC)).setOld (q := ⟨w.heap.size, 4, none⟩) hpl (.slice A3 n3 c3))
      have HBB := Lib.hid (results_five HB.out (.int .i64 PE) (.int .i64 PA) (.int .i64 PI) (.int .i64 PC) (.slice A3 n3 c3))
      simp only at HP2
      clear HP HQ HO HD HB
      generalize hW3 : ((((w2.setCell ⟨w.heap.size, 0, none⟩ (.int .i64 PE)).setCell ⟨w.heap.size, 1, none⟩ (.int .i64 PA)).setCell ⟨w.heap.size, 2, none⟩ (.int .i64 PI)).setCell ⟨w.heap.size, 3, none⟩ (.int .i64 PC)).setCell ⟨w.heap.size, 4, none⟩ (.slice A3 n3 c3) = w3 at HP2 HQ2 HO2 HD2 HBB
      have HP := HP2
      have HQ := HQ2
      have HO := HO2
      have HD := HD2
      have HB := HBB
      clear HP2 HQ2 HO2 HD2 HBB
      have q0 := HQ.out.c0
      have q1 := HQ.out.c1
      have q2 := HQ.out.c2
      have q3 := HQ.out.c3
      have q4 := HQ.out.c4
      have p0 := HP.out.c0
      have p3 := HP.out.c3
      simp only at q0 q1 q2 q3 q4 p0 p3
      obtain ⟨b1, hb1, HB1⟩ : ∃ b1, (PA - (i : Int) != at_) = b1 ∧ Hid (b1 = false ↔ PA = at_ + i) := ⟨_, rfl, Lib.hid (by rw [bne_eq_false_iff_eq]; omega)⟩
      obtain ⟨b2, hb2, HB2⟩ : ∃ b2, (PI != (i : Int)) = b2 ∧ Hid (b2 = false ↔ PI = i) := ⟨_, rfl, Lib.hid bne_eq_false_iff_eq⟩
      cases b1 with
      | true =>
        have HN := Lib.hid (HN3.out (fun h => by have := HB1.out.2 h.1; cases this))
        go_wp2_with fail
        (try simp only [Exit.inBlock, Exit.then]); refine bodyPost_ret (results_tmp4 rfl _ _ _) rfl ?_
        exact HN.out _ HB.out
      | false =>
      cases b2 with
      | true =>
        have HN := Lib.hid (HN3.out (fun h => by have := HB2.out.2 h.2.1; cases this))
        go_wp2_with fail
        (try simp only [Exit.inBlock, Exit.then]); refine bodyPost_ret (results_tmp4 rfl _ _ _) rfl ?_
        exact HN.out _ HB.out
      | false =>
      have HEZ : Hid (firstErr ls at_ (headP ls).E (headP ls).C (i + 1) = 0) := by show _ = _; rw [HST.out, HEB.out, if_pos ⟨HB1.out.1 rfl, HB2.out.1 rfl, HE3.out, HC3.out⟩]
      have hpi : PI = i := HB2.out.1 rfl
      have HXC : Hid (PC ≠ (i : Int) + 1 → ((i : Int) + 1 < PC)) := Lib.hid (fun h => by omega)
      obtain ⟨hi', hz0, hz1, hz2⟩ := HI.out
      have HPI := Lib.hid hpi
      clear hpi HN3 HEB HST HB1 HB2
      have hle2 : w.heap.size + 1 ≤ w3.heap.size := by have := HP.out.lt; omega
      by_cases hlast : (i : Int) = PC - 1
      · have hd : ((i : Int) == PC - 1) = true := beq_iff_eq.2 hlast
        have HLA : Hid (PC = (i : Int) + 1) := by show _ = _; omega
        clear hlast
        go_wp2_with (at_builtin; refine wpList_append_rd rfl (.tmp 62) (.tmp 64) _ rfl (w.heap.size + 1) ib Tryz.underlying41 hi' hz0 hz1 hz2 (.slice A' U c') U _ rfl HO.out _ _ PD n3 _ rfl HD.out.read HD.out.len (by omega) hle2 ?_; intro v4 w4 hown4 hg4 hat4; obtain ⟨A4, c4, rfl, ho4, hb4, hP4⟩ := app_two HO.out HB.out HP.out hown4 hg4; have hQ4 := HQ.out.apart hg4 (fun k hk => by have := HRB.out k hk; omega); clear hown4 hg4 hat4; have q3' := hQ4.c3; have p0' := hP4.c0; have p3' := hP4.c3; simp only at q3' p0' p3'; have HO4 := Lib.hid ho4; have HB4 := Lib.hid hb4; clear ho4 hb4 hP4 hQ4)
        go_quiet (fail)
        go_wp2_with fail
        (try simp only [Exit.inBlock, Exit.then]); refine bodyPost_ret (results_tmp4 rfl _ _ _) rfl ?_
        obtain ⟨h1, h2, h3, h4⟩ := HGD.out HH0.out HEZ.out (by rw [← HC3.out]; exact HLA.out)
        rw [h1, h2, h3, h4, ← HE3.out, ← HC3.out]
        refine ⟨A4, U + n3, c4, rfl, ?_, below_drewN HB4.out _⟩
        have h5 := (HO4.out.below (below_drewN (Below.refl _ _) nq)).base_le (Nat.le_succ _)
        rw [← HDA.out] at h5
        exact h5
      · have hd : ((i : Int) == PC - 1) = false := by rw [beq_eq_false_iff_ne]; exact hlast
        have HLA : Hid ((i : Int) + 1 < PC) := Lib.hid (HXC.out (by omega))
        have hi2 : i + 1 ≤ 1023 := by have := HLA.out; omega
        clear hlast
        go_wp2_with (at_builtin; refine wpList_append_rd rfl (.tmp 62) (.tmp 64) _ rfl (w.heap.size + 1) ib Tryz.underlying41 hi' hz0 hz1 hz2 (.slice A' U c') U _ rfl HO.out _ _ PD n3 _ rfl HD.out.read HD.out.len (by omega) hle2 ?_; intro v4 w4 hown4 hg4 hat4; obtain ⟨A4, c4, rfl, ho4, hb4, hP4⟩ := app_two HO.out HB.out HP.out hown4 hg4; have hQ4 := HQ.out.apart hg4 (fun k hk => by have := HRB.out k hk; omega); clear hown4 hg4 hat4; have q3' := hQ4.c3; simp only at q3'; have HO4 := Lib.hid ho4; have HB4 := Lib.hid hb4; have HP4 := Lib.hid hP4; clear ho4 hb4 hP4 hQ4)
        refine ⟨⟨i + 1, U + n3, A4, c4, _, by go_num, rfl, hi2, by omega, Lib.hid ?_, HEZ, Lib.hid (.inr ⟨HH0.out, by rw [← HC3.out]; have := HLA.out; omega⟩), Lib.hid (fun _ => ⟨HFF.out.1, HFF.out.2⟩), HP4, HB4⟩, by simp [intOf]; omega⟩
        show Owns _ _ _ _ _ (datas ls i ++ dataAt ls i)
        rw [HDA.out]
        exact HO4.out
    · have ht : ((i : Int) == 0) = false := by rw [beq_eq_false_iff_ne]; omega
      have HH0 : Hid (headE ls = 0) := Lib.hid (by rcases HIC.out with h | h; omega; exact h.1)
      have HFF := Lib.hid (HFE.out hi0)
      clear HHD HFE HIC hi0
      obtain ⟨fE, fA, fI, fC, fad, fn, fc⟩ := f
      simp only at HFF
      have q0 := HQ.out.c0
      have q1 := HQ.out.c1
      have q2 := HQ.out.c2
      have q3 := HQ.out.c3
      have q4 := HQ.out.c4
      have p0 := HP.out.c0
      have p3 := HP.out.c3
      simp only at q0 q1 q2 q3 q4 p0 p3
      obtain ⟨b1, hb1, HB1⟩ : ∃ b1, (PA - (i : Int) != at_) = b1 ∧ Hid (b1 = false ↔ PA = at_ + i) := ⟨_, rfl, Lib.hid (by rw [bne_eq_false_iff_eq]; omega)⟩
      obtain ⟨b2, hb2, HB2⟩ : ∃ b2, (PI != (i : Int)) = b2 ∧ Hid (b2 = false ↔ PI = i) := ⟨_, rfl, Lib.hid bne_eq_false_iff_eq⟩
      cases b1 with
      | true =>
        have HN := Lib.hid (HN3.out (fun h => by have := HB1.out.2 h.1; cases this))
        go_wp2_with fail
        (try simp only [Exit.inBlock, Exit.then]); refine bodyPost_ret (results_tmp4 rfl _ _ _) rfl ?_
        exact HN.out _ HB.out
      | false =>
      cases b2 with
      | true =>
        have HN := Lib.hid (HN3.out (fun h => by have := HB2.out.2 h.2.1; cases this))
        go_wp2_with fail
        (try simp only [Exit.inBlock, Exit.then]); refine bodyPost_ret (results_tmp4 rfl _ _ _) rfl ?_
        exact HN.out _ HB.out
      | false =>
      obtain ⟨b3, hb3, HB3⟩ : ∃ b3, (PE != fE) = b3 ∧ Hid (b3 = false ↔ PE = (headP ls).E) := ⟨_, rfl, Lib.hid (by rw [bne_eq_false_iff_eq, HFF.out.1])⟩
      obtain ⟨b4, hb4, HB4⟩ : ∃ b4, (PC != fC) = b4 ∧ Hid (b4 = false ↔ PC = (headP ls).C) := ⟨_, rfl, Lib.hid (by rw [bne_eq_false_iff_eq, HFF.out.2])⟩
      cases b3 with
      | true =>
        have HN := Lib.hid (HN3.out (fun h => by have := HB3.out.2 h.2.2.1; cases this))
        go_wp2_with fail
        (try simp only [Exit.inBlock, Exit.then]); refine bodyPost_ret (results_tmp4 rfl _ _ _) rfl ?_
        exact HN.out _ HB.out
      | false =>
      cases b4 with
      | true =>
        have HN := Lib.hid (HN3.out (fun h => by have := HB4.out.2 h.2.2.2; cases this))
        go_wp2_with fail
        (try simp only [Exit.inBlock, Exit.then]); refine bodyPost_ret (results_tmp4 rfl _ _ _) rfl ?_
        exact HN.out _ HB.out
      | false =>
      have HE3 : Hid (PE = (headP ls).E) := Lib.hid (HB3.out.1 rfl)
      have HC3 : Hid (PC = (headP ls).C) := Lib.hid (HB4.out.1 rfl)
      clear HB3 HB4
      have HEZ : Hid (firstErr ls at_ (headP ls).E (headP ls).C (i + 1) = 0) := by show _ = _; rw [HST.out, HEB.out, if_pos ⟨HB1.out.1 rfl, HB2.out.1 rfl, HE3.out, HC3.out⟩]
      have hpi : PI = i := HB2.out.1 rfl
      have HXC : Hid (PC ≠ (i : Int) + 1 → ((i : Int) + 1 < PC)) := Lib.hid (fun h => by omega)
      obtain ⟨hi', hz0, hz1, hz2⟩ := HI.out
      have HPI := Lib.hid hpi
      clear hpi HN3 HEB HST HB1 HB2
      have hle2 : w.heap.size + 1 ≤ w2.heap.size := by have := HP.out.lt; omega
      by_cases hlast : (i : Int) = PC - 1
      · have hd : ((i : Int) == PC - 1) = true := beq_iff_eq.2 hlast
        have HLA : Hid (PC = (i : Int) + 1) := by show _ = _; omega
        clear hlast
        go_wp2_with (at_builtin; refine wpList_append_rd rfl (.tmp 62) (.tmp 64) _ rfl (w.heap.size + 1) ib Tryz.underlying41 hi' hz0 hz1 hz2 (.slice A' U c') U _ rfl HO.out _ _ PD n3 _ rfl HD.out.read HD.out.len (by omega) hle2 ?_; intro v4 w4 hown4 hg4 hat4; obtain ⟨A4, c4, rfl, ho4, hb4, hP4⟩ := app_two HO.out HB.out HP.out hown4 hg4; have hQ4 := HQ.out.apart hg4 (fun k hk => by have := HRB.out k hk; omega); clear hown4 hg4 hat4; have q3' := hQ4.c3; have p0' := hP4.c0; have p3' := hP4.c3; simp only at q3' p0' p3'; have HO4 := Lib.hid ho4; have HB4 := Lib.hid hb4; clear ho4 hb4 hP4 hQ4)
        go_quiet (fail)
        go_wp2_with fail
        (try simp only [Exit.inBlock, Exit.then]); refine bodyPost_ret (results_tmp4 rfl _ _ _) rfl ?_
        obtain ⟨h1, h2, h3, h4⟩ := HGD.out HH0.out HEZ.out (by rw [← HC3.out]; exact HLA.out)
        rw [h1, h2, h3, h4, ← HFF.out.1, ← HFF.out.2]
        refine ⟨A4, U + n3, c4, rfl, ?_, below_drewN HB4.out _⟩
        have h5 := (HO4.out.below (below_drewN (Below.refl _ _) nq)).base_le (Nat.le_succ _)
        rw [← HDA.out] at h5
        exact h5
      · have hd : ((i : Int) == PC - 1) = false := by rw [beq_eq_false_iff_ne]; exact hlast
        have HLA : Hid ((i : Int) + 1 < PC) := Lib.hid (HXC.out (by omega))
        have hi2 : i + 1 ≤ 1023 := by have := HLA.out; omega
        clear hlast
        go_wp2_with (at_builtin; refine wpList_append_rd rfl (.tmp 62) (.tmp 64) _ rfl (w.heap.size + 1) ib Tryz.underlying41 hi' hz0 hz1 hz2 (.slice A' U c') U _ rfl HO.out _ _ PD n3 _ rfl HD.out.read HD.out.len (by omega) hle2 ?_; intro v4 w4 hown4 hg4 hat4; obtain ⟨A4, c4, rfl, ho4, hb4, hP4⟩ := app_two HO.out HB.out HP.out hown4 hg4; have hQ4 := HQ.out.apart hg4 (fun k hk => by have := HRB.out k hk; omega); clear hown4 hg4 hat4; have q3' := hQ4.c3; simp only at q3'; have HO4 := Lib.hid ho4; have HB4 := Lib.hid hb4; have HP4 := Lib.hid hP4; clear ho4 hb4 hP4 hQ4)
        refine ⟨⟨i + 1, U + n3, A4, c4, _, by go_num, rfl, hi2, by omega, Lib.hid ?_, HEZ, Lib.hid (.inr ⟨HH0.out, by rw [← HC3.out]; have := HLA.out; omega⟩), Lib.hid (fun _ => ⟨HFF.out.1, HFF.out.2⟩), HP4, HB4⟩, by simp [intOf]; omega⟩
        show Owns _ _ _ _ _ (datas ls i ++ dataAt ls i)
        rw [HDA.out]
        exact HO4.out

end Go.Proofs.YtdjfahnnfhediaaGreat
