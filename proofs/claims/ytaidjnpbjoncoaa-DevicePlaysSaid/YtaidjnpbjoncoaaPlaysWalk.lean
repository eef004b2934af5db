/-
  DevicePlays: the walk: whatever is done, the program's device answers as the document's does.
-/
import Derived.Test.YtaidjnpbjoncoaaTwo
import Derived.Deep.CutBlock
namespace Go.Proofs.Ytaidjnpbjoncoaa
open Go.RowKit

theorem Two.start {w W1 W2 : World} {p L M q a b c : Nat} {D E : Dv} (h : Dr w W1 p L M D) (hr : IsRef W2 q a b c E) (hb : Below W1.heap.size W1 W2) (h1 : W1.heap.size ≤ q) (h2 : W1.heap.size ≤ a) (h3 : W1.heap.size ≤ b) : Two w W2 p L M q a b c D E := by
  have h4 := h.below hb
  have h5 := h.dev.lt
  have h6 := h.bel.size
  exact ⟨h4.dev, hr, h4.bel, h.lo, ⟨by omega, by omega, by omega⟩, ⟨by omega, by omega, by omega⟩, ⟨by omega, by omega, by omega⟩, by omega, by omega, by omega⟩

/-- what is done, in a block of its own -/
structure OAt (V : World) (g : Nat) (x : Deed) (A : Option Addr) (ca : Nat) (K : Option Addr) (ck : Nat) : Prop where
  c0 : V.cell? ⟨g, 0, none⟩ = some (.int .i64 x.what)
  c1 : V.cell? ⟨g, 1, none⟩ = some (.int .i64 x.at_)
  c2 : V.cell? ⟨g, 2, none⟩ = some (.slice A x.b.length ca)
  c3 : V.cell? ⟨g, 3, none⟩ = some (.slice K x.kn ck)
theorem OAt.turn {V V' : World} {g : Nat} {x : Deed} {A : Option Addr} {ca : Nat} {K : Option Addr} {ck : Nat} (h : OAt V g x A ca K ck) {S : Nat → Prop} (ht : Turn S V V') (hg : ¬ S g) : OAt V' g x A ca K ck :=
  ⟨ht.cell h.c0 hg, ht.cell h.c1 hg, ht.cell h.c2 hg, ht.cell h.c3 hg⟩

set_option maxHeartbeats 8000000 in
set_option maxRecDepth 100000 in
theorem plays_walk (n : Int) (A : Option Addr) (len cap : Nat) (X : Nat → Deed) (w : World) (hX : Deeds w A len X) :
    Calls Try.prog 3 #[.int .i64 n, .slice A len cap] w fun e w' => e = .returned (.bool true) ∧ Below w.heap.size w w' := by
  obtain ⟨k, hk16, hand⟩ := low15 n
  have HAWK := Lib.hid (awake_any w)
  have hsm := fun (W : World) (hX : Deeds W A len X) => small_any W A len cap X hX
  cases hsmall : (decide (len ≤ 100) && smallB X len)
  · rw [hsmall] at hsm
    have HSM := Lib.hid hsm
    clear hsm hsmall
    go_enter Try.func3, Try.ntmps3
    go_wp2_with (go_at_call 9; refine HAWK.out.mono ?_; rintro e w0 ⟨rfl, hb0⟩; have HB0 := Lib.hid hb0; clear hb0)
    refine (HSM.out w0 (hX.up HB0.out)).mono ?_
    rintro e w' ⟨rfl, hw⟩
    replace hw := hw.symm
    subst hw
    go_wp2_with fail
    go_ret
    exact ⟨rfl, HB0.out⟩
  · have hlen : len ≤ 100 := by
      rw [Bool.and_eq_true] at hsmall
      exact of_decide_eq_true hsmall.1
    rw [hsmall] at hsm
    have HSM := Lib.hid hsm
    clear hsm hsmall
    rcases Nat.eq_zero_or_pos k with h0 | h0
    · subst h0
      go_enter Try.func3, Try.ntmps3
      go_wp2_with (go_at_call 9; refine HAWK.out.mono ?_; rintro e w0 ⟨rfl, hb0⟩; have HB0 := Lib.hid hb0; clear hb0)
      refine (HSM.out w0 (hX.up HB0.out)).mono ?_
      rintro e w' ⟨rfl, hw⟩
      replace hw := hw.symm
      subst hw
      go_wp2_with fail
      refine (new_bad w0 0 (by omega)).mono ?_
      rintro e w1 ⟨rfl, hw⟩
      replace hw := hw.symm
      subst hw
      go_wp2_with fail
      refine (refnew_bad w0 0 (by omega)).mono ?_
      rintro e w2 ⟨rfl, hw⟩
      replace hw := hw.symm
      subst hw
      go_wp2_with fail
      refine (new_bad w0 4097 (by omega)).mono ?_
      rintro e w3 ⟨rfl, hw⟩
      replace hw := hw.symm
      subst hw
      go_wp2_with fail
      refine (new_bad w0 (-1) (by omega)).mono ?_
      rintro e w4 ⟨rfl, hw⟩
      replace hw := hw.symm
      subst hw
      go_wp2_with fail
      go_ret
      exact ⟨rfl, HB0.out⟩
    · go_enter Try.func3, Try.ntmps3
      go_wp2_with (go_at_call 9; refine HAWK.out.mono ?_; rintro e w0 ⟨rfl, hb0⟩; have HB0 := Lib.hid hb0; clear hb0)
      refine (HSM.out w0 (hX.up HB0.out)).mono ?_
      rintro e w' ⟨rfl, hw⟩
      replace hw := hw.symm
      subst hw
      go_wp2_with fail
      refine (newdr (w := w) HB0.out k h0 (by omega)).mono ?_
      rintro e w1 ⟨p, L, M, rfl, hd1, _, _, _, _⟩
      have HD1 := Lib.hid hd1
      clear hd1 HB0
      go_wp2_with fail
      refine (refnew_any w1 k h0 (by omega)).mono ?_
      rintro e w2 ⟨q, a, b, c, rfl, hr2, hb2, g1, g2, g3⟩
      have HD2 := Lib.hid (Two.start HD1.out hr2 hb2 g1 g2 g3)
      clear hr2 hb2 g1 g2 g3 HD1
      go_wp2_with fail
      refine (new_bad w2 4097 (by omega)).mono ?_
      rintro e w3 ⟨rfl, hw⟩
      replace hw := hw.symm
      subst hw
      go_wp2_with fail
      refine (new_bad w2 (-1) (by omega)).mono ?_
      rintro e w4 ⟨rfl, hw⟩
      replace hw := hw.symm
      subst hw
      go_wp2_with fail
      go_loopg [15] len (fun gn u wr => ∃ (D : Dv) (j : Nat), u = .int .i64 (j : Int) ∧ j + gn = len ∧ Hid (D.n = k ∧ D.spent ≤ j) ∧ Hid (Two w wr p L M q a b c D D))
      case atStart => exact ⟨_, 0, rfl, by omega, ⟨rfl, Nat.le_refl _⟩, HD2⟩
      case round =>
        obtain ⟨D, j, rfl, hj, HI, HD⟩ := hrel
        clear HD2
        rcases Nat.lt_or_ge j len with hlt | hge
        · rcases hX with h0 | ⟨bb, o, rfl, hb, hc⟩
          · omega
          obtain ⟨x, hx⟩ : ∃ x, X j = x := ⟨_, rfl⟩
          have hcj := hc j hlt
          rw [hx] at hcj
          obtain ⟨hc0, hc1, hab, ⟨A2, ca, hc2, hrb⟩, K, ck, hc3, hkb⟩ := hcj
          have k0 := (HD.out.bel.cell (p := ⟨bb, o + j * 4, none⟩) hb).trans hc0
          have k1 := (HD.out.bel.cell (p := ⟨bb, o + j * 4 + 1, none⟩) hb).trans hc1
          have k2 := (HD.out.bel.cell (p := ⟨bb, o + j * 4 + 2, none⟩) hb).trans hc2
          have k3 := (HD.out.bel.cell (p := ⟨bb, o + j * 4 + 3, none⟩) hb).trans hc3
          have hdj : decide ((j : Int) < (len : Int)) = true := decide_eq_true (by omega)
          have hdj2 : decide (j < len) = true := decide_eq_true (by omega)
          clear hc hc0 hc1 hc2 hc3 hx
          go_upto_region 17 with fail
          have hb1 : Below wr.heap.size wr (wr.alloc (.cells #[.int .i64 x.what, .int .i64 x.at_, .slice A2 x.b.length ca, .slice K x.kn ck] 35)) := (Below.refl _ _).alloc (Nat.le_refl _) _
          have HT0 := Lib.hid (HD.out.below hb1)
          have HO0 : Hid (OAt (wr.alloc (.cells #[.int .i64 x.what, .int .i64 x.at_, .slice A2 x.b.length ca, .slice K x.kn ck] 35)) wr.heap.size x A2 ca K ck) :=
            ⟨by rw [cell_of_row _ _ _ _ _ _ (heap_alloc_new _ _)]; rfl, by rw [cell_of_row _ _ _ _ _ _ (heap_alloc_new _ _)]; rfl, by rw [cell_of_row _ _ _ _ _ _ (heap_alloc_new _ _)]; rfl, by rw [cell_of_row _ _ _ _ _ _ (heap_alloc_new _ _)]; rfl⟩
          have HNG := Lib.hid HD.out.notNew
          have HB := Lib.hid hkb
          have HAB := Lib.hid hab
          have HRB := Lib.hid hrb
          have HSP : Hid (D.spent ≤ 1000000) := Lib.hid (by have := HI.out.2; omega)
          clear HD k0 k1 k2 k3 hb1 hkb hab hrb hb
          generalize wr.alloc (.cells #[.int .i64 x.what, .int .i64 x.at_, .slice A2 x.b.length ca, .slice K x.kn ck] 35) = W0 at *
          generalize wr.heap.size = g at *
          have o0 := HO0.out.c0
          go_upto_block 2 with fail
          go_cut [] from 64 to 174 (fun wc => ∃ E : Dv, Hid (E.n = k ∧ E.spent ≤ j + 1) ∧ Hid (Two w wc p L M q a b c E E) ∧ Hid (OAt wc g x A2 ca K ck))
          case first =>
            have o1 := HO0.out.c1
            have o3 := HO0.out.c3
            have hz : x.what = 1 ∨ x.what = 2 ∨ x.what = 3 ∨ x.what = 4 ∨ x.what = 5 ∨ ((x.what == 1) = false ∧ (x.what == 2) = false ∧ (x.what == 3) = false ∧ (x.what == 4) = false ∧ (x.what == 5) = false) := by
              simp only [beq_eq_false_iff_ne]
              omega
            generalize x.what = z at *
            rcases hz with rfl | rfl | rfl | rfl | rfl | ⟨e1, e2, e3, e4, e5⟩
            · have HT1 : Hid (Two w W0.drew p L M q a b c D D) := Lib.hid (HT0.out.below ((Below.refl _ _).drew))
              have HO1 : Hid (OAt W0.drew g x A2 ca K ck) := Lib.hid (HO0.out.turn (S := D2 p L M q a b) ((Turn.refl _ _).drew) HNG.out)
              have HFM := Lib.hid (HT1.out.firm HRB.out)
              have hat : ∀ V, Turn (D2 p L M q a b) W0 V → V.cell? ⟨g, 1, none⟩ = some (.int .i64 x.at_) := fun V hV => (HO0.out.turn hV HNG.out).c1
              have hbt : ∀ V, Turn (D2 p L M q a b) W0 V → V.cell? ⟨g, 2, none⟩ = some (.slice A2 x.b.length ca) := fun V hV => (HO0.out.turn hV HNG.out).c2
              clear o0 o1 o3
              go_wp2_with fail
              refine wp_region_turn (X := (D2 p L M q a b)) (by kernel_rfl) ?_
              have hS : Turn (D2 p L M q a b) W0 (World.drew W0) := (Turn.refl _ _).drew
              refine wpAnyH_take (i := 0) (oi := ⟨some 79, _, _, _, _, _⟩) (v := ?_) rfl (by kernel_rfl) (by kernel_rfl) (by kernel_rfl) (fun _ _ _ h => h) (Or.inl ⟨by rfl, ?_⟩) hS ?_
              rotate_left
              · intro W hW; go_simp; with_reducible rfl
              try simp only [Act.put, List.setIfInBounds_toArray, List.set_cons_zero, List.set_cons_succ]
              refine wpAnyH_take (i := 1) (oi := ⟨some 80, _, _, _, _, _⟩) (v := ?_) rfl (by kernel_rfl) (by kernel_rfl) (by kernel_rfl) (fun _ _ _ h => h) (Or.inl ⟨by rfl, ?_⟩) hS ?_
              rotate_left
              · intro W hW; go_simp; with_reducible rfl
              try simp only [Act.put, List.setIfInBounds_toArray, List.set_cons_zero, List.set_cons_succ]
              refine wpAnyH_take (i := 2) (oi := ⟨some 81, _, _, _, _, _⟩) (v := ?_) rfl (by kernel_rfl) (by kernel_rfl) (by kernel_rfl) (fun _ _ _ h => h) (Or.inl ⟨by rfl, ?_⟩) hS ?_
              rotate_left
              · intro W hW; go_simp; with_reducible rfl
              try simp only [Act.put, List.setIfInBounds_toArray, List.set_cons_zero, List.set_cons_succ]
              refine wpAnyH_take (i := 3) (oi := ⟨some 82, _, _, _, _, _⟩) (v := ?_) rfl (by kernel_rfl) (by kernel_rfl) (by kernel_rfl) (fun _ _ _ h => h) (Or.inl ⟨by rfl, ?_⟩) hS ?_
              rotate_left
              · intro W hW; go_simp; with_reducible rfl
              try simp only [Act.put, List.setIfInBounds_toArray, List.set_cons_zero, List.set_cons_succ]
              refine wpAnyH_take (i := 4) (oi := ⟨some 83, _, _, _, _, _⟩) (v := ?_) rfl (by kernel_rfl) (by kernel_rfl) (by kernel_rfl) (fun _ _ _ h => h) (Or.inl ⟨by rfl, ?_⟩) hS ?_
              rotate_left
              · intro W hW; go_simp; with_reducible rfl
              try simp only [Act.put, List.setIfInBounds_toArray, List.set_cons_zero, List.set_cons_succ]
              refine wpAnyH_take (i := 6) (oi := ⟨some 85, _, _, _, _, _⟩) (v := ?_) rfl (by kernel_rfl) (by kernel_rfl) (by kernel_rfl) (fun _ _ _ h => h) (Or.inl ⟨by rfl, ?_⟩) hS ?_
              rotate_left
              · intro W hW; go_simp; with_reducible rfl
              try simp only [Act.put, List.setIfInBounds_toArray, List.set_cons_zero, List.set_cons_succ]
              refine wpAnyH_take (i := 7) (oi := ⟨some 86, _, _, _, _, _⟩) (v := ?_) rfl (by kernel_rfl) (by kernel_rfl) (by kernel_rfl) (fun _ _ _ h => h) (Or.inl ⟨by rfl, ?_⟩) hS ?_
              rotate_left
              · intro W hW; go_simp; with_reducible rfl
              try simp only [Act.put, List.setIfInBounds_toArray, List.set_cons_zero, List.set_cons_succ]
              refine wpAnyH_take (i := 8) (oi := ⟨some 87, _, _, _, _, _⟩) (v := ?_) rfl (by kernel_rfl) (by kernel_rfl) (by kernel_rfl) (fun _ _ _ h => h) (Or.inl ⟨by rfl, ?_⟩) hS ?_
              rotate_left
              · intro W hW; go_simp; with_reducible rfl
              try simp only [Act.put, List.setIfInBounds_toArray, List.set_cons_zero, List.set_cons_succ]
              refine wpAnyH_take (i := 9) (oi := ⟨some 88, _, _, _, _, _⟩) (v := ?_) rfl (by kernel_rfl) (by kernel_rfl) (by kernel_rfl) (fun _ _ _ h => h) (Or.inl ⟨by rfl, ?_⟩) hS ?_
              rotate_left
              · intro W hW; go_simp; with_reducible rfl
              try simp only [Act.put, List.setIfInBounds_toArray, List.set_cons_zero, List.set_cons_succ]
              refine wpAnyH_take (i := 10) (oi := ⟨some 89, _, _, _, _, _⟩) (v := ?_) rfl (by kernel_rfl) (by kernel_rfl) (by kernel_rfl) (fun _ _ _ h => h) (Or.inl ⟨by rfl, ?_⟩) hS ?_
              rotate_left
              · intro W hW; go_simp; with_reducible rfl
              try simp only [Act.put, List.setIfInBounds_toArray, List.set_cons_zero, List.set_cons_succ]
              refine wpAnyH_ready (rs := [5]) (by kernel_rfl) (by simp) ?_
              refine AllReadyH.cons (o := ⟨some 84, _, _, _, _, _⟩) rfl (fun Kr hKr => ?_) AllReadyH.nil
              -- operation 5: a call
              go_simp
              refine (write_any HT1.out.dev HSP.out x.at_ (HFM.out.mono fun _ h => .inl h) x.b.length ca rfl).mono ?_
              rintro e w3 ⟨rfl, hd3, ht3⟩
              have HT3 := Lib.hid (HT1.out.d hd3 ht3)
              have HO3 := Lib.hid (HO1.out.turn ht3 (fun h => HNG.out (.inl h)))
              have HF3 := Lib.hid (HFM.out.turn (ht3.mono fun _ h => .inl h))
              clear hat hbt
              have hat : ∀ V, Turn (D2 p L M q a b) w3 V → V.cell? ⟨g, 1, none⟩ = some (.int .i64 x.at_) := fun V hV => (HO3.out.turn hV HNG.out).c1
              have hbt : ∀ V, Turn (D2 p L M q a b) w3 V → V.cell? ⟨g, 2, none⟩ = some (.slice A2 x.b.length ca) := fun V hV => (HO3.out.turn hV HNG.out).c2
              show Kr _ _
              refine hKr.out _ _ ?_ (fun _ => ?_)
              · exact Turn.trans hS (ht3.mono fun _ h => .inl h)
              clear hKr Kr
              refine wpAnyH_turn (Turn.trans hS (ht3.mono fun _ h => .inl h)) ?_
              clear hS
              have hS : Turn (D2 p L M q a b) w3 w3 := Turn.refl _ _
              try simp only [Act.put, List.setIfInBounds_toArray, List.set_cons_zero, List.set_cons_succ]
              refine wpAnyH_ready (rs := [11]) (by kernel_rfl) (by simp) ?_
              refine AllReadyH.cons (o := ⟨some 90, _, _, _, _, _⟩) rfl (fun Kr hKr => ?_) AllReadyH.nil
              -- operation 11: a call
              go_simp
              refine (refwrite_any HT3.out.ref HSP.out x.at_ (HF3.out.mono fun _ h => .inr h) x.b.length ca rfl).mono ?_
              rintro e w4 ⟨rfl, hd4, ht4⟩
              have HT4 := Lib.hid (HT3.out.r hd4 ht4)
              have HO4 := Lib.hid (HO3.out.turn ht4 (fun h => HNG.out (.inr h)))
              show Kr _ _
              refine hKr.out _ _ ?_ (fun _ => ?_)
              · exact Turn.trans hS (ht4.mono fun _ h => .inr h)
              clear hKr Kr
              refine wpAnyH_turn (Turn.trans hS (ht4.mono fun _ h => .inr h)) ?_
              clear hS
              have hS : Turn (D2 p L M q a b) w4 w4 := Turn.refl _ _
              try simp only [Act.put, List.setIfInBounds_toArray, List.set_cons_zero, List.set_cons_succ]
              refine wpAnyH_take (i := 12) (oi := ⟨some 91, _, _, _, _, _⟩) (v := ?_) rfl (by kernel_rfl) (by kernel_rfl) (by kernel_rfl) (fun _ _ _ h => h) (Or.inl ⟨by rfl, ?_⟩) hS ?_
              rotate_left
              · intro W hW; go_simp; with_reducible rfl
              try simp only [Act.put, List.setIfInBounds_toArray, List.set_cons_zero, List.set_cons_succ]
              refine wpAnyH_done (by kernel_rfl) ?_ _
              go_wp2_with fail
              go_meet
              case rel => exact ⟨_, ⟨by rw [Dv.write_n]; exact HI.out.1, by have h1 := Dv.write_spent (D := D) x.at_ x.b; have h2 := HI.out.2; omega⟩, HT4, HO4⟩
            · have HT1 : Hid (Two w W0.drew p L M q a b c D D) := Lib.hid (HT0.out.below ((Below.refl _ _).drew))
              have HO1 : Hid (OAt W0.drew g x A2 ca K ck) := Lib.hid (HO0.out.turn (S := D2 p L M q a b) ((Turn.refl _ _).drew) HNG.out)
              have HFM := Lib.hid (HT1.out.firm HRB.out)
              have hat : ∀ V, Turn (D2 p L M q a b) W0 V → V.cell? ⟨g, 1, none⟩ = some (.int .i64 x.at_) := fun V hV => (HO0.out.turn hV HNG.out).c1
              have hbt : ∀ V, Turn (D2 p L M q a b) W0 V → V.cell? ⟨g, 2, none⟩ = some (.slice A2 x.b.length ca) := fun V hV => (HO0.out.turn hV HNG.out).c2
              clear o0 o1 o3
              go_wp2_with fail
              refine wp_region_turn (X := (D2 p L M q a b)) (by kernel_rfl) ?_
              have hS : Turn (D2 p L M q a b) W0 (World.drew W0) := (Turn.refl _ _).drew
              refine wpAnyH_take (i := 0) (oi := ⟨some 79, _, _, _, _, _⟩) (v := ?_) rfl (by kernel_rfl) (by kernel_rfl) (by kernel_rfl) (fun _ _ _ h => h) (Or.inl ⟨by rfl, ?_⟩) hS ?_
              rotate_left
              · intro W hW; go_simp; with_reducible rfl
              try simp only [Act.put, List.setIfInBounds_toArray, List.set_cons_zero, List.set_cons_succ]
              refine wpAnyH_take (i := 1) (oi := ⟨some 80, _, _, _, _, _⟩) (v := ?_) rfl (by kernel_rfl) (by kernel_rfl) (by kernel_rfl) (fun _ _ _ h => h) (Or.inl ⟨by rfl, ?_⟩) hS ?_
              rotate_left
              · intro W hW; go_simp; with_reducible rfl
              try simp only [Act.put, List.setIfInBounds_toArray, List.set_cons_zero, List.set_cons_succ]
              refine wpAnyH_take (i := 2) (oi := ⟨some 81, _, _, _, _, _⟩) (v := ?_) rfl (by kernel_rfl) (by kernel_rfl) (by kernel_rfl) (fun _ _ _ h => h) (Or.inl ⟨by rfl, ?_⟩) hS ?_
              rotate_left
              · intro W hW; go_simp; with_reducible rfl
              try simp only [Act.put, List.setIfInBounds_toArray, List.set_cons_zero, List.set_cons_succ]
              refine wpAnyH_take (i := 3) (oi := ⟨some 82, _, _, _, _, _⟩) (v := ?_) rfl (by kernel_rfl) (by kernel_rfl) (by kernel_rfl) (fun _ _ _ h => h) (Or.inl ⟨by rfl, ?_⟩) hS ?_
              rotate_left
              · intro W hW; go_simp; with_reducible rfl
              try simp only [Act.put, List.setIfInBounds_toArray, List.set_cons_zero, List.set_cons_succ]
              refine wpAnyH_take (i := 4) (oi := ⟨some 83, _, _, _, _, _⟩) (v := ?_) rfl (by kernel_rfl) (by kernel_rfl) (by kernel_rfl) (fun _ _ _ h => h) (Or.inl ⟨by rfl, ?_⟩) hS ?_
              rotate_left
              · intro W hW; go_simp; with_reducible rfl
              try simp only [Act.put, List.setIfInBounds_toArray, List.set_cons_zero, List.set_cons_succ]
              refine wpAnyH_take (i := 6) (oi := ⟨some 85, _, _, _, _, _⟩) (v := ?_) rfl (by kernel_rfl) (by kernel_rfl) (by kernel_rfl) (fun _ _ _ h => h) (Or.inl ⟨by rfl, ?_⟩) hS ?_
              rotate_left
              · intro W hW; go_simp; with_reducible rfl
              try simp only [Act.put, List.setIfInBounds_toArray, List.set_cons_zero, List.set_cons_succ]
              refine wpAnyH_take (i := 7) (oi := ⟨some 86, _, _, _, _, _⟩) (v := ?_) rfl (by kernel_rfl) (by kernel_rfl) (by kernel_rfl) (fun _ _ _ h => h) (Or.inl ⟨by rfl, ?_⟩) hS ?_
              rotate_left
              · intro W hW; go_simp; with_reducible rfl
              try simp only [Act.put, List.setIfInBounds_toArray, List.set_cons_zero, List.set_cons_succ]
              refine wpAnyH_take (i := 8) (oi := ⟨some 87, _, _, _, _, _⟩) (v := ?_) rfl (by kernel_rfl) (by kernel_rfl) (by kernel_rfl) (fun _ _ _ h => h) (Or.inl ⟨by rfl, ?_⟩) hS ?_
              rotate_left
              · intro W hW; go_simp; with_reducible rfl
              try simp only [Act.put, List.setIfInBounds_toArray, List.set_cons_zero, List.set_cons_succ]
              refine wpAnyH_take (i := 9) (oi := ⟨some 88, _, _, _, _, _⟩) (v := ?_) rfl (by kernel_rfl) (by kernel_rfl) (by kernel_rfl) (fun _ _ _ h => h) (Or.inl ⟨by rfl, ?_⟩) hS ?_
              rotate_left
              · intro W hW; go_simp; with_reducible rfl
              try simp only [Act.put, List.setIfInBounds_toArray, List.set_cons_zero, List.set_cons_succ]
              refine wpAnyH_take (i := 10) (oi := ⟨some 89, _, _, _, _, _⟩) (v := ?_) rfl (by kernel_rfl) (by kernel_rfl) (by kernel_rfl) (fun _ _ _ h => h) (Or.inl ⟨by rfl, ?_⟩) hS ?_
              rotate_left
              · intro W hW; go_simp; with_reducible rfl
              try simp only [Act.put, List.setIfInBounds_toArray, List.set_cons_zero, List.set_cons_succ]
              refine wpAnyH_ready (rs := [5]) (by kernel_rfl) (by simp) ?_
              refine AllReadyH.cons (o := ⟨some 84, _, _, _, _, _⟩) rfl (fun Kr hKr => ?_) AllReadyH.nil
              -- operation 5: a call
              go_simp
              refine (write_any HT1.out.dev HSP.out x.at_ (HFM.out.mono fun _ h => .inl h) x.b.length ca rfl).mono ?_
              rintro e w3 ⟨rfl, hd3, ht3⟩
              have HT3 := Lib.hid (HT1.out.d hd3 ht3)
              have HO3 := Lib.hid (HO1.out.turn ht3 (fun h => HNG.out (.inl h)))
              have HF3 := Lib.hid (HFM.out.turn (ht3.mono fun _ h => .inl h))
              clear hat hbt
              have hat : ∀ V, Turn (D2 p L M q a b) w3 V → V.cell? ⟨g, 1, none⟩ = some (.int .i64 x.at_) := fun V hV => (HO3.out.turn hV HNG.out).c1
              have hbt : ∀ V, Turn (D2 p L M q a b) w3 V → V.cell? ⟨g, 2, none⟩ = some (.slice A2 x.b.length ca) := fun V hV => (HO3.out.turn hV HNG.out).c2
              show Kr _ _
              refine hKr.out _ _ ?_ (fun _ => ?_)
              · exact Turn.trans hS (ht3.mono fun _ h => .inl h)
              clear hKr Kr
              refine wpAnyH_turn (Turn.trans hS (ht3.mono fun _ h => .inl h)) ?_
              clear hS
              have hS : Turn (D2 p L M q a b) w3 w3 := Turn.refl _ _
              try simp only [Act.put, List.setIfInBounds_toArray, List.set_cons_zero, List.set_cons_succ]
              refine wpAnyH_ready (rs := [11]) (by kernel_rfl) (by simp) ?_
              refine AllReadyH.cons (o := ⟨some 90, _, _, _, _, _⟩) rfl (fun Kr hKr => ?_) AllReadyH.nil
              -- operation 11: a call
              go_simp
              refine (refwrite_any HT3.out.ref HSP.out x.at_ (HF3.out.mono fun _ h => .inr h) x.b.length ca rfl).mono ?_
              rintro e w4 ⟨rfl, hd4, ht4⟩
              have HT4 := Lib.hid (HT3.out.r hd4 ht4)
              have HO4 := Lib.hid (HO3.out.turn ht4 (fun h => HNG.out (.inr h)))
              show Kr _ _
              refine hKr.out _ _ ?_ (fun _ => ?_)
              · exact Turn.trans hS (ht4.mono fun _ h => .inr h)
              clear hKr Kr
              refine wpAnyH_turn (Turn.trans hS (ht4.mono fun _ h => .inr h)) ?_
              clear hS
              have hS : Turn (D2 p L M q a b) w4 w4 := Turn.refl _ _
              try simp only [Act.put, List.setIfInBounds_toArray, List.set_cons_zero, List.set_cons_succ]
              refine wpAnyH_take (i := 12) (oi := ⟨some 91, _, _, _, _, _⟩) (v := ?_) rfl (by kernel_rfl) (by kernel_rfl) (by kernel_rfl) (fun _ _ _ h => h) (Or.inl ⟨by rfl, ?_⟩) hS ?_
              rotate_left
              · intro W hW; go_simp; with_reducible rfl
              try simp only [Act.put, List.setIfInBounds_toArray, List.set_cons_zero, List.set_cons_succ]
              refine wpAnyH_done (by kernel_rfl) ?_ _
              go_wp2_with fail
              go_meet
              case rel => exact ⟨_, ⟨by rw [Dv.write_n]; exact HI.out.1, by have h1 := Dv.write_spent (D := D) x.at_ x.b; have h2 := HI.out.2; omega⟩, HT4, HO4⟩
            · go_wp2_with fail
              refine (flush_any HT0.out.dev HSP.out).mono ?_
              rintro e w3 ⟨rfl, hd3, ht3⟩
              have HT3 := Lib.hid (HT0.out.d hd3 ht3)
              have HO3 := Lib.hid (HO0.out.turn ht3 (fun h => HNG.out (.inl h)))
              clear hd3 ht3
              go_wp2_with fail
              refine (refflush_any HT3.out.ref HSP.out).mono ?_
              rintro e w4 ⟨rfl, hd4, ht4⟩
              have HT4 := Lib.hid (HT3.out.r hd4 ht4)
              have HO4 := Lib.hid (HO3.out.turn ht4 (fun h => HNG.out (.inr h)))
              clear hd4 ht4 o0 o1 o3
              go_wp2_with fail
              go_meet
              case rel => exact ⟨_, ⟨by rw [Dv.flush_n]; exact HI.out.1, by have h1 := Dv.flush_spent (D := D); have h2 := HI.out.2; omega⟩, HT4, HO4⟩
            · go_wp2_with fail
              refine (budget_any HT0.out.dev x.at_ HAB.out).mono ?_
              rintro e w3 ⟨rfl, hd3, ht3⟩
              have HT3 := Lib.hid (HT0.out.d hd3 ht3)
              have HO3 := Lib.hid (HO0.out.turn ht3 (fun h => HNG.out (.inl h)))
              have o31 := HO3.out.c1
              clear hd3 ht3 o0 o1 o3
              go_wp2_with fail
              refine (refbudget_any HT3.out.ref x.at_ HAB.out).mono ?_
              rintro e w4 ⟨rfl, hd4, ht4⟩
              have HT4 := Lib.hid (HT3.out.r hd4 ht4)
              have HO4 := Lib.hid (HO3.out.turn ht4 (fun h => HNG.out (.inr h)))
              clear hd4 ht4 o31
              go_wp2_with fail
              go_meet
              case rel => exact ⟨D.budget x.at_, ⟨HI.out.1, Nat.le_succ_of_le HI.out.2⟩, HT4, HO4⟩
            · go_wp2_with fail
              refine (crash_any HT0.out.dev (Nat.le_trans HSP.out (by omega)) ck (HB.out.bools HT0.out.bel HT0.out.loD)).mono ?_
              rintro e w3 ⟨rfl, hd3, ht3⟩
              have HT3 := Lib.hid (HT0.out.d hd3 ht3)
              have HO3 := Lib.hid (HO0.out.turn ht3 (fun h => HNG.out (.inl h)))
              have o33 := HO3.out.c3
              clear hd3 ht3 o0 o1 o3
              go_wp2_with fail
              refine (refcrash_any HT3.out.ref ck (HB.out.bools HT3.out.bel HT3.out.loR)).mono ?_
              rintro e w4 ⟨rfl, hd4, ht4⟩
              have HT4 := Lib.hid (HT3.out.r hd4 ht4)
              have HO4 := Lib.hid (HO3.out.turn ht4 (fun h => HNG.out (.inr h)))
              clear hd4 ht4 o33
              go_wp2_with fail
              go_meet
              case rel => exact ⟨D.crash (kp x.kn x.keep), ⟨HI.out.1, Nat.le_succ_of_le HI.out.2⟩, HT4, HO4⟩
            · go_wp2_with fail
              go_meet
              case rel => exact ⟨D, ⟨HI.out.1, Nat.le_succ_of_le HI.out.2⟩, HT0, HO0⟩
          case rest =>
            obtain ⟨E, HE, HT, HO⟩ := hcut
            clear HT0 HO0 HI HSP o0
            have HES : Hid (E.spent ≤ 1000001) := Lib.hid (by have := HE.out.2; omega)
            have o1 := HO.out.c1
            go_wp2_with fail
            refine (read_any HT.out.dev x.at_).mono ?_
            rintro e w5 ⟨A5, n5, c5, rfl, hg5, hb5⟩
            have HT5 := Lib.hid (HT.out.below hb5)
            have HO5 := Lib.hid (HO.out.turn (S := fun _ => False) (Turn.ofBelow hb5) (fun h => h))
            have HG5 := Lib.hid hg5
            have o15 := HO5.out.c1
            clear hg5 hb5 HT HO o1
            go_wp2_with fail
            refine (refread_any HT5.out.ref x.at_).mono ?_
            rintro e w6 ⟨A6, n6, c6, rfl, hl6, hr6, hb6⟩
            have HT6 := Lib.hid (HT5.out.below hb6)
            have hconv1 : ∀ V, Since w6 V → (convert 32 9 (.slice A5 n5 c5)).run Try.prog V = .ok (.string ⟨(E.read x.at_).toArray⟩) V := fun V hV => rd_conv (HG5.out.rd.up hb6) HG5.out.len hV
            have hconv2 : ∀ V, Since w6 V → (convert 32 9 (.slice A6 n6 c6)).run Try.prog V = .ok (.string ⟨(E.read x.at_).toArray⟩) V := fun V hV => rd_conv hr6 hl6 hV
            have hm3 : ∀ V, Since w6 V → V.cell? ⟨q, 3, none⟩ = some (.bool E.gone) := fun V hV => (Below.cell (p := ⟨q, 3, none⟩) hV HT6.out.ref.lt.1).trans HT6.out.ref.c3
            have hm4 : ∀ V, Since w6 V → V.cell? ⟨q, 4, none⟩ = some (.int .i64 (E.spent : Int)) := fun V hV => (Below.cell (p := ⟨q, 4, none⟩) hV HT6.out.ref.lt.1).trans HT6.out.ref.c4
            have HTD : Hid (Two w w6.drew p L M q a b c E E) := Lib.hid (HT6.out.below ((Below.refl _ _).drew))
            clear hl6 hr6 hb6 HT5 HO5 HG5 o15 HT6
            generalize E.read x.at_ = rl at *
            generalize E.readE x.at_ = er at *
            go_wp2_with fail
            refine wp_region_since (by kernel_rfl) ?_
            have hS : Since w6 (World.drew w6) := (Below.refl _ _).drew
            refine wpAnyH_take (i := 0) (oi := ⟨some 133, _, _, _, _, _⟩) (v := ?_) rfl (by kernel_rfl) (by kernel_rfl) (by kernel_rfl) (fun _ _ _ h => h) (Or.inl ⟨by rfl, ?_⟩) hS ?_
            rotate_left
            · intro W hW; go_simp; with_reducible rfl
            try simp only [Act.put, List.setIfInBounds_toArray, List.set_cons_zero, List.set_cons_succ]
            refine wpAnyH_take (i := 1) (oi := ⟨some 134, _, _, _, _, _⟩) (v := ?_) rfl (by kernel_rfl) (by kernel_rfl) (by kernel_rfl) (fun _ _ _ h => h) (Or.inl ⟨by rfl, ?_⟩) hS ?_
            rotate_left
            · intro W hW; go_simp; with_reducible rfl
            try simp only [Act.put, List.setIfInBounds_toArray, List.set_cons_zero, List.set_cons_succ]
            refine wpAnyH_take (i := 2) (oi := ⟨some 135, _, _, _, _, _⟩) (v := ?_) rfl (by kernel_rfl) (by kernel_rfl) (by kernel_rfl) (fun _ _ _ h => h) (Or.inl ⟨by rfl, ?_⟩) hS ?_
            rotate_left
            · intro W hW; go_simp; with_reducible rfl
            try simp only [Act.put, List.setIfInBounds_toArray, List.set_cons_zero, List.set_cons_succ]
            refine wpAnyH_take (i := 3) (oi := ⟨some 136, _, _, _, _, _⟩) (v := ?_) rfl (by kernel_rfl) (by kernel_rfl) (by kernel_rfl) (fun _ _ _ h => h) (Or.inl ⟨by rfl, ?_⟩) hS ?_
            rotate_left
            · intro W hW; go_simp; with_reducible rfl
            try simp only [Act.put, List.setIfInBounds_toArray, List.set_cons_zero, List.set_cons_succ]
            refine wpAnyH_take (i := 4) (oi := ⟨some 137, _, _, _, _, _⟩) (v := ?_) rfl (by kernel_rfl) (by kernel_rfl) (by kernel_rfl) (fun _ _ _ h => h) (Or.inl ⟨by rfl, ?_⟩) hS ?_
            rotate_left
            · intro W hW; go_simp; with_reducible rfl
            try simp only [Act.put, List.setIfInBounds_toArray, List.set_cons_zero, List.set_cons_succ]
            refine wpAnyH_take (i := 5) (oi := ⟨some 138, _, _, _, _, _⟩) (v := ?_) rfl (by kernel_rfl) (by kernel_rfl) (by kernel_rfl) (fun _ _ _ h => h) (Or.inl ⟨by rfl, ?_⟩) hS ?_
            rotate_left
            · intro W hW; go_simp; with_reducible rfl
            try simp only [Act.put, List.setIfInBounds_toArray, List.set_cons_zero, List.set_cons_succ]
            refine wpAnyH_take (i := 6) (oi := ⟨some 139, _, _, _, _, _⟩) (v := ?_) rfl (by kernel_rfl) (by kernel_rfl) (by kernel_rfl) (fun _ _ _ h => h) (Or.inl ⟨by rfl, ?_⟩) hS ?_
            rotate_left
            · intro W hW; go_simp; with_reducible rfl
            try simp only [Act.put, List.setIfInBounds_toArray, List.set_cons_zero, List.set_cons_succ]
            refine wpAnyH_take (i := 7) (oi := ⟨some 140, _, _, _, _, _⟩) (v := ?_) rfl (by kernel_rfl) (by kernel_rfl) (by kernel_rfl) (fun _ _ _ h => h) (Or.inl ⟨by rfl, ?_⟩) hS ?_
            rotate_left
            · intro W hW; go_simp; with_reducible rfl
            try simp only [Act.put, List.setIfInBounds_toArray, List.set_cons_zero, List.set_cons_succ]
            refine wpAnyH_take (i := 8) (oi := ⟨some 141, _, _, _, _, _⟩) (v := ?_) rfl (by kernel_rfl) (by kernel_rfl) (by kernel_rfl) (fun _ _ _ h => h) (Or.inl ⟨by rfl, ?_⟩) hS ?_
            rotate_left
            · intro W hW; go_simp; with_reducible rfl
            try simp only [Act.put, List.setIfInBounds_toArray, List.set_cons_zero, List.set_cons_succ]
            refine wpAnyH_take (i := 9) (oi := ⟨some 142, _, _, _, _, _⟩) (v := ?_) rfl (by kernel_rfl) (by kernel_rfl) (by kernel_rfl) (fun _ _ _ h => h) (Or.inl ⟨by rfl, ?_⟩) hS ?_
            rotate_left
            · intro W hW; go_simp; with_reducible rfl
            try simp only [Act.put, List.setIfInBounds_toArray, List.set_cons_zero, List.set_cons_succ]
            refine wpAnyH_take (i := 10) (oi := ⟨some 143, _, _, _, _, _⟩) (v := ?_) rfl (by kernel_rfl) (by kernel_rfl) (by kernel_rfl) (fun _ _ _ h => h) (Or.inl ⟨by rfl, ?_⟩) hS ?_
            rotate_left
            · intro W hW; go_simp; with_reducible rfl
            try simp only [Act.put, List.setIfInBounds_toArray, List.set_cons_zero, List.set_cons_succ]
            refine wpAnyH_take (i := 11) (oi := ⟨some 144, _, _, _, _, _⟩) (v := ?_) rfl (by kernel_rfl) (by kernel_rfl) (by kernel_rfl) (fun _ _ _ h => h) (Or.inl ⟨by rfl, ?_⟩) hS ?_
            rotate_left
            · intro W hW; go_simp; with_reducible rfl
            try simp only [Act.put, List.setIfInBounds_toArray, List.set_cons_zero, List.set_cons_succ]
            refine wpAnyH_take (i := 13) (oi := ⟨some 146, _, _, _, _, _⟩) (v := ?_) rfl (by kernel_rfl) (by kernel_rfl) (by kernel_rfl) (fun _ _ _ h => h) (Or.inl ⟨by rfl, ?_⟩) hS ?_
            rotate_left
            · intro W hW; go_simp; with_reducible rfl
            try simp only [Act.put, List.setIfInBounds_toArray, List.set_cons_zero, List.set_cons_succ]
            refine wpAnyH_take (i := 14) (oi := ⟨some 147, _, _, _, _, _⟩) (v := ?_) rfl (by kernel_rfl) (by kernel_rfl) (by kernel_rfl) (fun _ _ _ h => h) (Or.inl ⟨by rfl, ?_⟩) hS ?_
            rotate_left
            · intro W hW; go_simp; with_reducible rfl
            try simp only [Act.put, List.setIfInBounds_toArray, List.set_cons_zero, List.set_cons_succ]
            refine wpAnyH_take (i := 15) (oi := ⟨some 148, _, _, _, _, _⟩) (v := ?_) rfl (by kernel_rfl) (by kernel_rfl) (by kernel_rfl) (fun _ _ _ h => h) (Or.inl ⟨by rfl, ?_⟩) hS ?_
            rotate_left
            · intro W hW; go_simp; with_reducible rfl
            try simp only [Act.put, List.setIfInBounds_toArray, List.set_cons_zero, List.set_cons_succ]
            refine wpAnyH_take (i := 16) (oi := ⟨some 149, _, _, _, _, _⟩) (v := ?_) rfl (by kernel_rfl) (by kernel_rfl) (by kernel_rfl) (fun _ _ _ h => h) (Or.inl ⟨by rfl, ?_⟩) hS ?_
            rotate_left
            · intro W hW; go_simp; with_reducible rfl
            try simp only [Act.put, List.setIfInBounds_toArray, List.set_cons_zero, List.set_cons_succ]
            refine wpAnyH_ready (rs := [12]) (by kernel_rfl) (by simp) ?_
            refine AllReadyH.cons (o := ⟨some 145, _, _, _, _, _⟩) rfl (fun Kr hKr => ?_) AllReadyH.nil
            -- operation 12: a call
            go_simp
            refine (gone_any HTD.out.dev).mono ?_
            rintro e w7 ⟨rfl, hw⟩
            replace hw := hw.symm
            subst hw
            show Kr _ _
            refine hKr.out _ _ ?_ (fun _ => ?_)
            · exact hS
            clear hKr Kr
            try simp only [Act.put, List.setIfInBounds_toArray, List.set_cons_zero, List.set_cons_succ]
            refine wpAnyH_take (i := 17) (oi := ⟨some 150, _, _, _, _, _⟩) (v := ?_) rfl (by kernel_rfl) (by kernel_rfl) (by kernel_rfl) (fun _ _ _ h => h) (Or.inl ⟨by rfl, ?_⟩) hS ?_
            rotate_left
            · intro W hW; go_simp; with_reducible rfl
            try simp only [Act.put, List.setIfInBounds_toArray, List.set_cons_zero, List.set_cons_succ]
            refine wpAnyH_take (i := 18) (oi := ⟨some 151, _, _, _, _, _⟩) (v := ?_) rfl (by kernel_rfl) (by kernel_rfl) (by kernel_rfl) (fun _ _ _ h => h) (Or.inl ⟨by rfl, ?_⟩) hS ?_
            rotate_left
            · intro W hW; go_simp; with_reducible rfl
            try simp only [Act.put, List.setIfInBounds_toArray, List.set_cons_zero, List.set_cons_succ]
            refine wpAnyH_take (i := 19) (oi := ⟨some 152, _, _, _, _, _⟩) (v := ?_) rfl (by kernel_rfl) (by kernel_rfl) (by kernel_rfl) (fun _ _ _ h => h) (Or.inl ⟨by rfl, ?_⟩) hS ?_
            rotate_left
            · intro W hW; go_simp; with_reducible rfl
            try simp only [Act.put, List.setIfInBounds_toArray, List.set_cons_zero, List.set_cons_succ]
            refine wpAnyH_take (i := 20) (oi := ⟨some 153, _, _, _, _, _⟩) (v := ?_) rfl (by kernel_rfl) (by kernel_rfl) (by kernel_rfl) (fun _ _ _ h => h) (Or.inl ⟨by rfl, ?_⟩) hS ?_
            rotate_left
            · intro W hW; go_simp; with_reducible rfl
            try simp only [Act.put, List.setIfInBounds_toArray, List.set_cons_zero, List.set_cons_succ]
            refine wpAnyH_take (i := 22) (oi := ⟨some 155, _, _, _, _, _⟩) (v := ?_) rfl (by kernel_rfl) (by kernel_rfl) (by kernel_rfl) (fun _ _ _ h => h) (Or.inl ⟨by rfl, ?_⟩) hS ?_
            rotate_left
            · intro W hW; go_simp; with_reducible rfl
            try simp only [Act.put, List.setIfInBounds_toArray, List.set_cons_zero, List.set_cons_succ]
            refine wpAnyH_take (i := 23) (oi := ⟨some 156, _, _, _, _, _⟩) (v := ?_) rfl (by kernel_rfl) (by kernel_rfl) (by kernel_rfl) (fun _ _ _ h => h) (Or.inl ⟨by rfl, ?_⟩) hS ?_
            rotate_left
            · intro W hW; go_simp; with_reducible rfl
            try simp only [Act.put, List.setIfInBounds_toArray, List.set_cons_zero, List.set_cons_succ]
            refine wpAnyH_take (i := 24) (oi := ⟨some 157, _, _, _, _, _⟩) (v := ?_) rfl (by kernel_rfl) (by kernel_rfl) (by kernel_rfl) (fun _ _ _ h => h) (Or.inl ⟨by rfl, ?_⟩) hS ?_
            rotate_left
            · intro W hW; go_simp; with_reducible rfl
            try simp only [Act.put, List.setIfInBounds_toArray, List.set_cons_zero, List.set_cons_succ]
            refine wpAnyH_take (i := 25) (oi := ⟨some 158, _, _, _, _, _⟩) (v := ?_) rfl (by kernel_rfl) (by kernel_rfl) (by kernel_rfl) (fun _ _ _ h => h) (Or.inl ⟨by rfl, ?_⟩) hS ?_
            rotate_left
            · intro W hW; go_simp; with_reducible rfl
            try simp only [Act.put, List.setIfInBounds_toArray, List.set_cons_zero, List.set_cons_succ]
            refine wpAnyH_ready (rs := [21]) (by kernel_rfl) (by simp) ?_
            refine AllReadyH.cons (o := ⟨some 154, _, _, _, _, _⟩) rfl (fun Kr hKr => ?_) AllReadyH.nil
            -- operation 21: a call
            go_simp
            refine (spent_any HTD.out.dev).mono ?_
            rintro e w8 ⟨rfl, hw⟩
            replace hw := hw.symm
            subst hw
            show Kr _ _
            refine hKr.out _ _ ?_ (fun _ => ?_)
            · exact hS
            clear hKr Kr
            try simp only [Act.put, List.setIfInBounds_toArray, List.set_cons_zero, List.set_cons_succ]
            refine wpAnyH_take (i := 26) (oi := ⟨some 159, _, _, _, _, _⟩) (v := ?_) rfl (by kernel_rfl) (by kernel_rfl) (by kernel_rfl) (fun _ _ _ h => h) (Or.inl ⟨by rfl, ?_⟩) hS ?_
            rotate_left
            · intro W hW; go_simp; with_reducible rfl
            try simp only [Act.put, List.setIfInBounds_toArray, List.set_cons_zero, List.set_cons_succ]
            refine wpAnyH_take (i := 27) (oi := ⟨some 160, _, _, _, _, _⟩) (v := ?_) rfl (by kernel_rfl) (by kernel_rfl) (by kernel_rfl) (fun _ _ _ h => h) (Or.inl ⟨by rfl, ?_⟩) hS ?_
            rotate_left
            · intro W hW; go_simp; with_reducible rfl
            try simp only [Act.put, List.setIfInBounds_toArray, List.set_cons_zero, List.set_cons_succ]
            refine wpAnyH_take (i := 28) (oi := ⟨some 161, _, _, _, _, _⟩) (v := ?_) rfl (by kernel_rfl) (by kernel_rfl) (by kernel_rfl) (fun _ _ _ h => h) (Or.inl ⟨by rfl, ?_⟩) hS ?_
            rotate_left
            · intro W hW; go_simp; with_reducible rfl
            try simp only [Act.put, List.setIfInBounds_toArray, List.set_cons_zero, List.set_cons_succ]
            refine wpAnyH_take (i := 29) (oi := ⟨some 162, _, _, _, _, _⟩) (v := ?_) rfl (by kernel_rfl) (by kernel_rfl) (by kernel_rfl) (fun _ _ _ h => h) (Or.inl ⟨by rfl, ?_⟩) hS ?_
            rotate_left
            · intro W hW; go_simp; with_reducible rfl
            try simp only [Act.put, List.setIfInBounds_toArray, List.set_cons_zero, List.set_cons_succ]
            refine wpAnyH_take (i := 31) (oi := ⟨some 164, _, _, _, _, _⟩) (v := ?_) rfl (by kernel_rfl) (by kernel_rfl) (by kernel_rfl) (fun _ _ _ h => h) (Or.inl ⟨by rfl, ?_⟩) hS ?_
            rotate_left
            · intro W hW; go_simp; with_reducible rfl
            try simp only [Act.put, List.setIfInBounds_toArray, List.set_cons_zero, List.set_cons_succ]
            refine wpAnyH_ready (rs := [30]) (by kernel_rfl) (by simp) ?_
            refine AllReadyH.cons (o := ⟨some 163, _, _, _, _, _⟩) rfl (fun Kr hKr => ?_) AllReadyH.nil
            -- operation 30: a call
            go_simp
            refine (cached_any HTD.out.dev HES.out).mono ?_
            rintro e w9 ⟨A9, n9, c9, rfl, hn9, hrow9, hb9⟩
            have HT9 := HTD.out.below hb9
            have HN9 := Lib.hid hn9
            have HR9 := Lib.hid hrow9
            clear hn9 hrow9
            show Kr _ _
            refine hKr.out _ _ ?_ (fun _ => ?_)
            · exact since_trans hS hb9
            clear hKr Kr
            refine wpAnyH_since (since_trans hS hb9) ?_
            clear hS
            have hS : Since w9 w9 := Below.refl _ _
            try simp only [Act.put, List.setIfInBounds_toArray, List.set_cons_zero, List.set_cons_succ]
            refine wpAnyH_ready (rs := [32]) (by kernel_rfl) (by simp) ?_
            refine AllReadyH.cons (o := ⟨some 165, _, _, _, _, _⟩) rfl (fun Kr hKr => ?_) AllReadyH.nil
            -- operation 32: a call
            go_simp
            refine (refcached_any HT9.ref).mono ?_
            rintro e w10 ⟨A10, n10, c10, rfl, hn10, hrow10, hb10⟩
            have HT10 := HT9.below hb10
            have HN10 := Lib.hid hn10
            have HNA := Lib.hid ((NatsAt.of_row HR9.out HN9.out).below hb10)
            have HNB := Lib.hid (NatsAt.of_row hrow10 hn10)
            clear hn10 hrow10
            show Kr _ _
            refine hKr.out _ _ ?_ (fun _ => ?_)
            · exact since_trans hS hb10
            clear hKr Kr
            refine wpAnyH_since (since_trans hS hb10) ?_
            clear hS
            have hS : Since w10 w10 := Below.refl _ _
            try simp only [Act.put, List.setIfInBounds_toArray, List.set_cons_zero, List.set_cons_succ]
            refine wpAnyH_ready (rs := [33]) (by kernel_rfl) (by simp) ?_
            refine AllReadyH.cons (o := ⟨some 166, _, _, _, _, _⟩) rfl (fun Kr hKr => ?_) AllReadyH.nil
            -- operation 33: a call
            go_simp
            refine (ints_any w10 c9 c10 HN9.out HN10.out (by have h1 := Dv.keys_length E; have h2 := HE.out.1; have h3 := HN9.out; omega) HNA.out HNB.out).mono ?_
            rintro e w11 ⟨rfl, hb11⟩
            have HT11 := HT10.below hb11
            show Kr _ _
            refine hKr.out _ _ ?_ (fun _ => ?_)
            · exact since_trans hS hb11
            clear hKr Kr
            refine wpAnyH_since (since_trans hS hb11) ?_
            clear hS
            have hS : Since w11 w11 := Below.refl _ _
            try simp only [Act.put, List.setIfInBounds_toArray, List.set_cons_zero, List.set_cons_succ]
            refine wpAnyH_take (i := 34) (oi := ⟨some 167, _, _, _, _, _⟩) (v := ?_) rfl (by kernel_rfl) (by kernel_rfl) (by kernel_rfl) (fun _ _ _ h => h) (Or.inl ⟨by rfl, ?_⟩) hS ?_
            rotate_left
            · intro W hW; go_simp; with_reducible rfl
            try simp only [Act.put, List.setIfInBounds_toArray, List.set_cons_zero, List.set_cons_succ]
            refine wpAnyH_take (i := 35) (oi := ⟨some 168, _, _, _, _, _⟩) (v := ?_) rfl (by kernel_rfl) (by kernel_rfl) (by kernel_rfl) (fun _ _ _ h => h) (Or.inl ⟨by rfl, ?_⟩) hS ?_
            rotate_left
            · intro W hW; go_simp; with_reducible rfl
            try simp only [Act.put, List.setIfInBounds_toArray, List.set_cons_zero, List.set_cons_succ]
            refine wpAnyH_take (i := 36) (oi := ⟨some 169, _, _, _, _, _⟩) (v := ?_) rfl (by kernel_rfl) (by kernel_rfl) (by kernel_rfl) (fun _ _ _ h => h) (Or.inl ⟨by rfl, ?_⟩) hS ?_
            rotate_left
            · intro W hW; go_simp; with_reducible rfl
            try simp only [Act.put, List.setIfInBounds_toArray, List.set_cons_zero, List.set_cons_succ]
            refine wpAnyH_take (i := 37) (oi := ⟨some 170, _, _, _, _, _⟩) (v := ?_) rfl (by kernel_rfl) (by kernel_rfl) (by kernel_rfl) (fun _ _ _ h => h) (Or.inl ⟨by rfl, ?_⟩) hS ?_
            rotate_left
            · intro W hW; go_simp; with_reducible rfl
            try simp only [Act.put, List.setIfInBounds_toArray, List.set_cons_zero, List.set_cons_succ]
            refine wpAnyH_take (i := 39) (oi := ⟨some 172, _, _, _, _, _⟩) (v := ?_) rfl (by kernel_rfl) (by kernel_rfl) (by kernel_rfl) (fun _ _ _ h => h) (Or.inl ⟨by rfl, ?_⟩) hS ?_
            rotate_left
            · intro W hW; go_simp; with_reducible rfl
            try simp only [Act.put, List.setIfInBounds_toArray, List.set_cons_zero, List.set_cons_succ]
            refine wpAnyH_ready (rs := [38]) (by kernel_rfl) (by simp) ?_
            refine AllReadyH.cons (o := ⟨some 171, _, _, _, _, _⟩) rfl (fun Kr hKr => ?_) AllReadyH.nil
            -- operation 38: a call
            go_simp
            refine (size_any HT11.dev).mono ?_
            rintro e w12 ⟨rfl, hw⟩
            replace hw := hw.symm
            subst hw
            rw [HE.out.1]
            show Kr _ _
            refine hKr.out _ _ ?_ (fun _ => ?_)
            · exact hS
            clear hKr Kr
            try simp only [Act.put, List.setIfInBounds_toArray, List.set_cons_zero, List.set_cons_succ]
            refine wpAnyH_take (i := 40) (oi := ⟨some 173, _, _, _, _, _⟩) (v := ?_) rfl (by kernel_rfl) (by kernel_rfl) (by kernel_rfl) (fun _ _ _ h => h) (Or.inl ⟨by rfl, ?_⟩) hS ?_
            rotate_left
            · intro W hW; go_simp; with_reducible rfl
            try simp only [Act.put, List.setIfInBounds_toArray, List.set_cons_zero, List.set_cons_succ]
            refine wpAnyH_take (i := 41) (oi := ⟨some 174, _, _, _, _, _⟩) (v := ?_) rfl (by kernel_rfl) (by kernel_rfl) (by kernel_rfl) (fun _ _ _ h => h) (Or.inl ⟨by rfl, ?_⟩) hS ?_
            rotate_left
            · intro W hW; go_simp; with_reducible rfl
            try simp only [Act.put, List.setIfInBounds_toArray, List.set_cons_zero, List.set_cons_succ]
            refine wpAnyH_done (by kernel_rfl) ?_ _
            go_wp2_with fail
            go_roundg (gk - 1)
            case measure => omega
            case rel => exact ⟨E, j + 1, by go_num, by omega, HE, Lib.hid HT11⟩
        · obtain rfl : j = len := by omega
          have hdj : decide ((j : Int) < (j : Int)) = false := decide_eq_false (by omega)
          have hdj2 : decide (j < j) = false := decide_eq_false (by omega)
          go_wp2_with fail
          go_ret
          exact ⟨rfl, HD.out.bel⟩

end Go.Proofs.Ytaidjnpbjoncoaa
