/-
  No two end at one time but the undone; a sound tree is told sound.
-/
import Derived.Test.YtohnfjneghbceaaSane
namespace Go.Proofs.Ytohnfjneghbceaa
set_option maxRecDepth 100000
set_option linter.unusedVariables false
open Go.RowKit Go.Shelf

/-- the map of what ended when, behind j of them -/
def EndD (T : Tr) (j : Nat) (D : DataW Unit) : Prop :=
  ∀ z : Int, Maps.has D (.int .i64 z) = true → ∃ y, y < j ∧ (T.tx y).s ≠ 1 ∧ (T.tx y).e = z ∧ D.atKey (.int .i64 z) (.lit (.int .i64 0)) = .lit (.int .i64 (T.tx y).s)
theorem isKey (z : Int) (h : (Lit.int .i64 z).wf = true) : WideAt.IsKeyLit (Lit.int .i64 z) := by
  first | exact h | trivial | simp [WideAt.IsKeyLit, h] | decide

open Go.Maps in
set_option maxHeartbeats 4000000 in
theorem apart_any (A : Option Addr) (T : Tr) (N cap : Nat) (c : Int) (hN : T.l.length = N) (hG : Good T) (hcb : T.c ≤ 1000) (w : World) (hT : TxAt w A T.l) :
    Calls Try.prog 42 #[.agg #[.slice A N cap, .int .i64 c]] w fun e w' => e = .returned (.bool true) ∧ Below w.heap.size w w' := by
  have hmm := @run_makeMap Try.prog
  have hb0 := below_new w (.cells #[.slice A N cap, .int .i64 c] 26)
  have ht0 := TB.new w A N cap c
  have hT0 := hT.below hb0
  have hn64 : N ≤ 64 := by have := hG.n; omega
  have c0 := ht0.c0
  have HTX := Lib.hid hT0
  have HB := Lib.hid hb0
  have HN := Lib.hid hN
  have HG := Lib.hid hG
  have HCB := Lib.hid hcb
  clear hT hT0 hN hG hb0 ht0 hcb
  go_enter Try.func42, Try.ntmps42
  go_upto_region 1 with fail
  generalize w.alloc (.cells #[.slice A N cap, .int .i64 c] 26) = w0 at *
  go_upto_region 2 with fail
  obtain ⟨B, hB⟩ : ∃ B, w0.heap.size = B := ⟨_, rfl⟩
  have hM0 := World.ownsMap_made w0 Try.prog 3 (plainElem (H := Unit) Try.prog 3)
  rw [hB] at hM0 ⊢
  have HM := Lib.hid hM0
  have HX1 := Lib.hid (HTX.out.below (below_new w0 (.map #[] 0)))
  have HAB := Lib.hid (show ∀ b o, A = some ⟨b, o, none⟩ → T.l = [] ∨ b < B from fun b o e => by rw [← hB]; exact HTX.out.lt b o e)
  have HB1 := Lib.hid (below_two HB.out (below_new w0 (.map #[] 0)))
  have HBw := Lib.hid (show w.heap.size ≤ B from by rw [← hB]; exact HB.out.size)
  have c1 := cell_al (.map #[] 0) c0
  have HL := Lib.hid (show B < (w0.alloc (.map #[] 0)).heap.size by simp; omega)
  clear c0 hM0 HTX HB hB
  generalize w0.alloc (.map #[] 0) = w1 at *
  go_wp2_with fail
  clear c1
  go_loopw [12] (fun iv wr => ∃ (j : Nat) (D : DataW Unit) (k : Nat), iv = .int .i64 (j : Int) ∧ j ≤ N ∧ k ≤ j ∧ Hid (wr.ownsMap Try.prog 3 (plainElem Try.prog 3) B k D) ∧ Hid (EndD T j D) ∧ Hid (TxAt wr A T.l) ∧ Hid (Below w.heap.size w wr) ∧ Hid (B < wr.heap.size)) (fun iv _ => N - (intOf iv).toNat)
  case atStart => exact ⟨0, .map [], 0, rfl, Nat.zero_le _, Nat.le_refl _, HM.out, fun z h => by simp [Maps.has] at h, HX1.out, HB1.out, HL.out⟩
  case round =>
    obtain ⟨j, D, k, rfl, hj, hk, hown, hD, htx, hbl, hsz⟩ := hrel
    clear HM HX1 HB1 HL
    rcases Nat.lt_or_ge j N with hlt | hge
    · have hjl : j < T.l.length := by rw [HN.out]; exact hlt
      obtain ⟨b, hAe, hb, p0, p1, p2, p3⟩ := htx.out.get hjl
      have hst := HG.out.state j hjl
      obtain ⟨xp, hxp⟩ : ∃ q, q = (T.tx j).p := ⟨_, rfl⟩
      obtain ⟨xs, hxs⟩ : ∃ q, q = (T.tx j).s := ⟨_, rfl⟩
      obtain ⟨xb, hxb⟩ : ∃ q, q = (T.tx j).b := ⟨_, rfl⟩
      obtain ⟨xe, hxe⟩ : ∃ q, q = (T.tx j).e := ⟨_, rfl⟩
      rw [← hxp] at p0
      rw [← hxs] at p1 hst
      rw [← hxb] at p2 hst
      rw [← hxe] at p3 hst
      subst hAe
      have HXS := Lib.hid hxs
      have HXE := Lib.hid hxe
      have hb0 := HG.out.b0 j hjl
      rw [← hxb] at hb0
      have hcb := HCB.out
      have HST := Lib.hid hst
      have hwfs : (Lit.int .i64 xs).wf = true := wfN (by rcases hst with h | h <;> omega) (by rcases hst with h | h <;> omega)
      have hwfe : (Lit.int .i64 xe).wf = true := wfN (by rcases hst with h | h <;> omega) (by rcases hst with h | h <;> omega)
      have hkey : keyOf Try.prog 3 (.int .i64 xe) = some (.int .i64 xe) := keyOf_int_mk Try.underlying3 hwfe
      have HB0 := Lib.hid hb0
      clear hxp hxs hxb hxe hst hcb hb0
      go_upto_region 5 with (first | (refine wpList_store_x rfl (.tmp 5) (.tmp 15) rfl rfl (y := ⟨xp, xs, xb, xe⟩) rfl (XB.new wr) ?_; intro w2 hx2 hg2; have HX2 := Lib.hid hx2; have HG2 := Lib.hid hg2; clear hx2 hg2) | fail)
      have hb2 : Below wr.heap.size wr w2 := (below_new wr _).grown HG2.out (by simp) (fun k e => by injection e with e; omega)
      have HBL2 := Lib.hid (hbl.out.trans (hb2.mono hbl.out.size))
      have HTX2 := Lib.hid (htx.out.below hb2)
      have HSZ2 := Lib.hid (Nat.lt_of_lt_of_le hsz.out hb2.size)
      have hown2 : w2.ownsMap Try.prog 3 (plainElem Try.prog 3) B k D := (hown.out.alloc _).kept HG2.out (by intro e; injection e with e; have := hsz.out; omega)
      have HNB := Lib.hid (show B < wr.heap.size from hsz.out)
      have x1 := HX2.out.c1
      have x3 := HX2.out.c3
      simp only at x1 x3
      have HO2 := Lib.hid hown2
      clear p0 p1 p2 p3 hb2 HG2 hbl htx hsz hown hb hown2
      by_cases hl : xs = 1
      · have hlb : (xs == 1) = true := by simpa using hl
        have HL := Lib.hid hl
        clear hl
        go_wp2
        go_roundw
        case rel => exact ⟨j + 1, D, k, by simp, by omega, by omega, HO2.out, fun z h => by obtain ⟨y, h1, h2⟩ := hD.out z h; exact ⟨y, by omega, h2⟩, HTX2.out, HBL2.out, HSZ2.out⟩
        case measure => simp [intOf]; omega
      · have hlb : (xs == 1) = false := by simpa using hl
        have HL := Lib.hid hl
        clear hl
        have hown3 := HO2.out
        obtain ⟨hs, hhs⟩ : ∃ hs, hs = Maps.has D (.int .i64 xe) := ⟨_, rfl⟩
        have key : hs = true → ∀ cc : Int, D.atKey (.int .i64 xe) (.lit (.int .i64 0)) = .lit (.int .i64 cc) → cc = 3 ∧ xs = 3 := by
          intro h cc hcc
          rw [hhs] at h
          obtain ⟨y, h1, h2, h3, h4⟩ := hD.out xe h
          have ha := HG.out.apart y j h1 hjl h2 (by rw [← HXS.out]; exact HL.out) (by rw [h3]; exact HXE.out)
          rw [h4] at hcc
          injection hcc with hcc
          injection hcc with _ hcc
          exact ⟨by rw [← hcc]; exact ha.1, by rw [HXS.out]; exact ha.2⟩
        have KEY := Lib.hid key
        have HHS := Lib.hid hhs
        clear key hhs
        have hfin : ∀ w4 : World, Hid (w4.ownsMap Try.prog 3 (plainElem Try.prog 3) B (k + 1) (D.put (.int .i64 xe) (.lit (.int .i64 xs)))) → Hid (w2.grownBy w4 (some B)) → ∃ (j' : Nat) (D' : DataW Unit) (k' : Nat), Value.int .i64 ((j + 1 : Nat) : Int) = .int .i64 (j' : Int) ∧ j' ≤ N ∧ k' ≤ j' ∧ Hid (w4.ownsMap Try.prog 3 (plainElem Try.prog 3) B k' D') ∧ Hid (EndD T j' D') ∧ Hid (TxAt w4 (some ⟨b, 0, none⟩) T.l) ∧ Hid (Below w.heap.size w w4) ∧ Hid (B < w4.heap.size) := by
          intro w4 ho4 hg4
          have hnb : T.l = [] ∨ b < B := HAB.out b 0 rfl
          refine ⟨j + 1, _, k + 1, rfl, by omega, by omega, ho4, ?_, HTX2.out.turn (S := fun k => k = B) ((Turn.refl _ w2).grown hg4.out (fun j e => by injection e with e; exact .inl e.symm)) (fun b' o' e => by injection e with e; injection e with e1; subst e1; exact hnb.imp id (fun h => by omega)), HBL2.out.grown hg4.out HBL2.out.size (fun j e => by injection e with e; have := HBw.out; omega), Nat.lt_of_lt_of_le HSZ2.out hg4.out.size⟩
          intro z hz
          by_cases ez : z = xe
          · subst ez
            refine ⟨j, by omega, by rw [← HXS.out]; exact HL.out, HXE.out.symm, ?_⟩
            rw [← HXS.out]
            have hD2 : IsMap D := by obtain ⟨es, cl, _, _, _, rfl⟩ := HO2.out; exact ⟨_, rfl⟩
            exact atKey_put_same hD2 (isKey _ hwfe) _ _
          · have hne : (Lit.int .i64 z) ≠ (Lit.int .i64 xe) := fun h => by injection h with _ h; exact ez h
            rw [has_put_other hne] at hz
            obtain ⟨y, h1, h2, h3, h4⟩ := hD.out z hz
            exact ⟨y, by omega, h2, h3, by rw [atKey_put_other hne]; exact h4⟩
        have HFIN := Lib.hid hfin
        clear hfin
        cases hs with
        | false =>
          go_wp2_with (first | (at_lookup; refine wpList_lookup_own_ok_int _ rfl _ _ 100 rfl 3 3 .i64 (int_keyed Try.underlying3) Try.underlying100 Try.underlying3 (Try.zeroValue3 _) B k D rfl hown3 _ _ rfl hkey ?_; intro cc hat hwc; rw [← HHS.out]; clear hat hwc) | (at_mapUpdate; refine wpList_mapUpdate_own _ rfl _ _ _ 100 rfl 3 3 (int_keyed Try.underlying3) Try.underlying100 _ B k D rfl hown3 (by unfold maxLen; omega) _ _ _ rfl rfl hkey _ [] (plainElem_int Try.underlying3 hwfs) ?_; intro w4 hown4 hg4; have HO4 := Lib.hid hown4; have HG4 := Lib.hid hg4; clear hown4 hg4 hown3) | fail)
          go_roundw
          case rel => simpa using HFIN.out w4 HO4 HG4
          case measure => simp [intOf]; omega
        | true =>
          go_wp2_with (first | (at_lookup; refine wpList_lookup_own_ok_int _ rfl _ _ 100 rfl 3 3 .i64 (int_keyed Try.underlying3) Try.underlying100 Try.underlying3 (Try.zeroValue3 _) B k D rfl hown3 _ _ rfl hkey ?_; intro cc hat hwc; rw [← HHS.out]; obtain ⟨e1, e2⟩ := KEY.out rfl cc hat; clear hat hwc; subst e1; subst e2) | (at_mapUpdate; refine wpList_mapUpdate_own _ rfl _ _ _ 100 rfl 3 3 (int_keyed Try.underlying3) Try.underlying100 _ B k D rfl hown3 (by unfold maxLen; omega) _ _ _ rfl rfl hkey _ [] (plainElem_int Try.underlying3 hwfs) ?_; intro w4 hown4 hg4; have HO4 := Lib.hid hown4; have HG4 := Lib.hid hg4; clear hown4 hg4 hown3) | fail)
          go_roundw
          case rel => simpa using HFIN.out w4 HO4 HG4
          case measure => simp [intOf]; omega
    · obtain rfl : j = N := by omega
      go_wp2
      go_ret
      exact ⟨rfl, hbl.out⟩

end Go.Proofs.Ytohnfjneghbceaa
