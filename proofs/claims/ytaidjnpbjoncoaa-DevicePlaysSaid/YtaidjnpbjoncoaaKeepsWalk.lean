/-
  DeviceKeeps: the walk: sectors that were flushed are there behind any crash, but those that were written behind it and are kept.
-/
import Derived.Test.YtaidjnpbjoncoaaActs
import Derived.Test.YtaidjnpbjoncoaaApartWalk
namespace Go.Proofs.Ytaidjnpbjoncoaa
open Go.RowKit

/-- is one of the first m of the keys kept, and k? -/
def hitB (keep : Nat → Bool) (keys : List Nat) (k : Nat) : Nat → Bool
  | 0 => false
  | m + 1 => hitB keep keys k m || (keep m && keys.getD m 0 == k)
theorem hitB_stop {keep : Nat → Bool} {keys : List Nat} {k : Nat} (j : Nat) : ∀ m, (∀ i, j ≤ i → keep i = false) → hitB keep keys k (j + m) = hitB keep keys k j
  | 0, _ => rfl
  | m + 1, h => by
    show (hitB keep keys k (j + m) || (keep (j + m) && keys.getD (j + m) 0 == k)) = _
    rw [hitB_stop j m h, h (j + m) (by omega), Bool.false_and, Bool.or_false]
theorem hitB_no {keep : Nat → Bool} {keys : List Nat} {k : Nat} : ∀ m, hitB keep keys k m = false → ∀ i, i < m → keep i = true → keys.getD i 0 ≠ k
  | 0, _, i, hi, _ => by omega
  | m + 1, h, i, hi, hk => by
    have h1 : hitB keep keys k m = false ∧ (keep m && keys.getD m 0 == k) = false := by
      have h2 : (hitB keep keys k m || (keep m && keys.getD m 0 == k)) = false := h
      exact Bool.or_eq_false_iff.1 h2
    by_cases e : i = m
    · subst e
      intro e2
      have h3 := h1.2
      rw [hk, e2] at h3
      simp at h3
    · exact hitB_no m h1.1 i (by omega) hk

/-- behind j writes -/
structure EInv (D : Dv) (k j : Nat) (a : List UInt8) : Prop where
  free : D.Free
  n8 : D.n = 8
  spent : D.spent ≤ 2 + j
  laid : D.laid k = Dv.pad a
theorem EInv.start {k : Nat} (a : List UInt8) : EInv ((Dv.fresh 8).more.put k (Dv.pad a)).more.settle k 0 a := by
  refine ⟨⟨rfl, rfl⟩, rfl, Nat.le_refl _, ?_⟩
  show ((if k = k then some (Dv.pad a) else none : Option (List UInt8))).getD _ = _
  rw [if_pos rfl]; rfl
theorem EInv.step {D : Dv} {k j : Nat} {a : List UInt8} (h : EInv D k j a) (at_ : Int) (b : List UInt8) : EInv (D.write at_ b) k (j + 1) a := by
  refine ⟨h.free.wrote _ _, by rw [Dv.write_n]; exact h.n8, ?_, ?_⟩
  · have := Dv.write_spent (D := D) at_ b
    have := h.spent
    omega
  · have h1 := h.laid
    unfold Dv.write
    split
    · exact h1
    · split
      · split
        · exact h1
        · exact h1
      · exact h1
theorem EInv.kept {D : Dv} {k j : Nat} {a : List UInt8} (h : EInv D k j a) (hk : k < 8) (keep : Nat → Bool) (hh : hitB keep D.keys k D.keys.length = false) : (D.crash keep).read (k : Int) = Dv.pad a := by
  rw [Dv.Free.read (Dv.free_crash _ _) (show k < D.n by rw [h.n8]; exact hk)]
  show Dv.lay D.late D.laid keep D.keys D.keys.length k = _
  rw [Dv.lay_other _ (fun i hi hki => hitB_no _ hh i hi hki)]
  exact h.laid
theorem EInv.len {D : Dv} {k j : Nat} {a : List UInt8} (h : EInv D k j a) (ok : D.Ok) (hk : k < 8) (keep : Nat → Bool) : ((D.crash keep).read (k : Int)).length = 64 := by
  have h1 : k < (D.crash keep).n := by show k < D.n; rw [h.n8]; exact hk
  rw [Dv.Free.read (Dv.free_crash _ _) h1]
  exact (ok.crash keep).sector h1

theorem Deeds.below {w : World} {a : Option Addr} {len : Nat} {X : Nat → Deed} (h : Deeds w a len X) {i : Nat} (hi : i < len) : ∃ b o, a = some ⟨b, o, none⟩ ∧ ∀ V, Below w.heap.size w V →
    V.cell? ⟨b, o + i * 4, none⟩ = some (.int .i64 (X i).what) ∧ V.cell? ⟨b, o + i * 4 + 1, none⟩ = some (.int .i64 (X i).at_) := by
  rcases h with h0 | ⟨b, o, e, hl, hc⟩
  · omega
  · exact ⟨b, o, e, fun V hV => ⟨(hV.cell (p := ⟨b, o + i * 4, none⟩) hl).trans (hc i hi).1, (hV.cell (p := ⟨b, o + i * 4 + 1, none⟩) hl).trans (hc i hi).2.1⟩⟩

theorem Deeds.up {w W : World} {a : Option Addr} {len : Nat} {X : Nat → Deed} (h : Deeds w a len X) (hb : Below w.heap.size w W) : Deeds W a len X := by
  rcases h with h0 | ⟨b, o, e, hl, hc⟩
  · exact .inl h0
  · refine .inr ⟨b, o, e, Nat.lt_of_lt_of_le hl hb.size, fun i hi => ?_⟩
    obtain ⟨c0, c1, bd, ⟨A, c, c2, hr⟩, K, c', c3, hk⟩ := hc i hi
    exact ⟨(hb.cell (p := ⟨b, o + i * 4, none⟩) hl).trans c0, (hb.cell (p := ⟨b, o + i * 4 + 1, none⟩) hl).trans c1, bd, ⟨A, c, (hb.cell (p := ⟨b, o + i * 4 + 2, none⟩) hl).trans c2, hr.up hb⟩, K, c', (hb.cell (p := ⟨b, o + i * 4 + 3, none⟩) hl).trans c3, hk.below hb⟩
/-- a cell of an argument, while the device turns -/
theorem Dr.arg {w W V : World} {p L M : Nat} {D : Dv} (h : Dr w W p L M D) (ht : Turn (DS p L M) W V) {b i : Nat} (hb : b < w.heap.size) : V.cell? ⟨b, i, none⟩ = w.cell? ⟨b, i, none⟩ :=
  (h.bel.trans (ht.below (fun k hk => by rcases hk with rfl | rfl | rfl; exact h.lo.1; exact h.lo.2.1; exact h.lo.2.2) h.bel.size)).cell (p := ⟨b, i, none⟩) hb

/-- 'small', of things that came in: an upper bound, whatever it answers -/
def smallB (X : Nat → Deed) : Nat → Bool
  | 0 => true
  | m + 1 => smallB X m && (decide ((X m).b.length ≤ 200) && decide ((X m).kn ≤ 100))

set_option maxRecDepth 100000 in
set_option maxHeartbeats 1000000 in
theorem small_any (w : World) (a : Option Addr) (len cap : Nat) (X : Nat → Deed) (hX : Deeds w a len X) : Calls Try.prog 10 #[.slice a len cap] w fun e w' => e = .returned (.bool (decide (len ≤ 100) && smallB X len)) ∧ w' = w := by
  by_cases hl : len ≤ 100
  · have d1 : decide ((100 : Int) < (len : Int)) = false := decide_eq_false (by omega)
    rw [decide_eq_true hl, Bool.true_and]
    go_enter Try.func10, Try.ntmps10
    go_wp2_with fail
    go_loopw [3] (fun u wr => ∃ j : Nat, u = .int .i64 (j : Int) ∧ j ≤ len ∧ Hid (smallB X j = true) ∧ w = wr) (fun u _ => len - (intOf u).toNat)
    case atStart => exact ⟨0, rfl, by omega, rfl, rfl⟩
    case round =>
      obtain ⟨j, rfl, hj, HS, hw⟩ := hrel
      subst hw
      rcases Nat.lt_or_ge j len with hlt | hge
      · rcases hX with h0 | ⟨b, o, rfl, hb, hc⟩
        · omega
        obtain ⟨_, _, _, ⟨A, c, hcb, _⟩, K, ck, hck, _⟩ := hc j hlt
        have hdj : decide ((j : Int) < (len : Int)) = true := decide_eq_true (by omega)
        obtain ⟨bl, hbl⟩ : ∃ bl, bl = (X j).b.length := ⟨_, rfl⟩
        obtain ⟨kl, hkl⟩ : ∃ kl, kl = (X j).kn := ⟨_, rfl⟩
        have HBL := Lib.hid hbl
        have HKL := Lib.hid hkl
        rw [← hbl] at hcb
        rw [← hkl] at hck
        clear hbl hkl hc
        have hno : (200 < bl ∨ 100 < kl) → smallB X len = false := fun h => by
          have h1 : smallB X (j + 1) = false := by
            show (smallB X j && (decide ((X j).b.length ≤ 200) && decide ((X j).kn ≤ 100))) = false
            rw [← HBL.out, ← HKL.out]
            rcases h with h | h
            · rw [decide_eq_false (by omega), Bool.false_and, Bool.and_false]
            · rw [decide_eq_false (show ¬ kl ≤ 100 by omega), Bool.and_false, Bool.and_false]
          have h2 : ∀ m, smallB X (j + 1 + m) = false := fun m => by
            induction m with
            | zero => exact h1
            | succ m ih => show (smallB X (j + 1 + m) && _) = false; rw [ih, Bool.false_and]
          have := h2 (len - (j + 1))
          rw [show j + 1 + (len - (j + 1)) = len from by omega] at this
          exact this
        have HNO := Lib.hid hno
        clear hno
        by_cases h1 : 200 < bl
        · have d2 : decide ((200 : Int) < (bl : Int)) = true := decide_eq_true (by omega)
          go_wp2_with fail
          go_ret
          exact ⟨by rw [HNO.out (.inl h1)]; rfl, rfl⟩
        · have d2 : decide ((200 : Int) < (bl : Int)) = false := decide_eq_false (by omega)
          by_cases h2 : 100 < kl
          · have d3 : decide ((100 : Int) < (kl : Int)) = true := decide_eq_true (by omega)
            go_wp2_with fail
            go_ret
            exact ⟨by rw [HNO.out (.inr h2)]; rfl, rfl⟩
          · have d3 : decide ((100 : Int) < (kl : Int)) = false := decide_eq_false (by omega)
            have HS2 : Hid (smallB X (j + 1) = true) := Lib.hid (by
              show (smallB X j && (decide ((X j).b.length ≤ 200) && decide ((X j).kn ≤ 100))) = true
              rw [← HBL.out, ← HKL.out, HS.out, decide_eq_true (show bl ≤ 200 by omega), decide_eq_true (show kl ≤ 100 by omega)]
              rfl)
            clear HNO h1 h2
            go_wp2_with fail
            refine ⟨⟨j + 1, by go_num, by omega, HS2, by trivial⟩, by simp [intOf]; omega⟩
      · obtain rfl : j = len := by omega
        have hdj : decide ((j : Int) < (j : Int)) = false := decide_eq_false (by omega)
        go_wp2_with fail
        go_ret
        exact ⟨by rw [HS.out]; rfl, rfl⟩
  · have d1 : decide ((100 : Int) < (len : Int)) = true := decide_eq_true (by omega)
    rw [decide_eq_false hl, Bool.false_and]
    go_enter Try.func10, Try.ntmps10
    go_wp2_with fail
    go_ret
    exact ⟨rfl, rfl⟩

set_option maxHeartbeats 8000000 in
set_option maxRecDepth 100000 in
theorem keeps_walk (A B K : Option Addr) (ca cb0 ck la ll lk : Nat) (a : List UInt8) (Y : Nat → Deed) (f : Nat → Bool) (at_ : Int) (w : World) (HL : Hid (a.length = la)) (hr : Rd w w.heap.size A a) (hY : Deeds w B ll Y) (hk : BoolsAt w K lk f) :
    Calls Try.prog 4 #[.slice A la ca, .int .i64 at_, .slice B ll cb0, .slice K lk ck] w fun e w' => e = .returned (.bool true) ∧ Below w.heap.size w w' := by
  obtain ⟨k, hk8, hand⟩ := low7 at_
  have HAWK := Lib.hid (awake_any w)
  by_cases hcond : la ≤ 64 ∧ (decide (ll ≤ 100) && smallB Y ll) = true ∧ lk ≤ 100
  · obtain ⟨h1, h2, h3⟩ := hcond
    have hll : ll ≤ 100 := by
      rw [Bool.and_eq_true] at h2
      exact of_decide_eq_true h2.1
    have hsm := fun (W : World) (hX : Deeds W B ll Y) => small_any W B ll cb0 Y hX
    rw [h2] at hsm
    have HSM := Lib.hid hsm
    have d1 : decide (64 < (la : Int)) = false := decide_eq_false (by omega)
    have d3 : decide (100 < (lk : Int)) = false := decide_eq_false (by omega)
    have HLA := Lib.hid h1
    clear hsm h2 h3
    go_enter Try.func4, Try.ntmps4
    go_wp2_with (go_at_call 9; refine HAWK.out.mono ?_; rintro e w0 ⟨rfl, hb0⟩; have HB0 := Lib.hid hb0; clear hb0)
    refine (HSM.out w0 (hY.up HB0.out)).mono ?_
    rintro e w' ⟨rfl, hw⟩
    replace hw := hw.symm
    subst hw
    go_wp2_with fail
    refine (newdr (w := w) HB0.out 8 (by omega) (by omega)).mono ?_
    rintro e w1 ⟨p, L, M, rfl, hd1, _, _, _, _⟩
    have HD1 := Lib.hid hd1
    clear hd1 HB0
    go_wp2_with fail
    refine (write_any HD1.out.dev (by show (0 : Nat) ≤ _; omega) (k : Int) (HD1.out.firm hr) la ca HL.out).mono ?_
    rintro e w2 ⟨rfl, hd2, ht2⟩
    rw [(Dv.free_fresh 8).writeE (show k < 8 from hk8) (by rw [HL.out]; exact HLA.out)]
    rw [(Dv.free_fresh 8).write (show k < 8 from hk8) (by rw [HL.out]; exact HLA.out)] at hd2
    have HD2 := Lib.hid (HD1.out.turn hd2 ht2)
    clear hd2 ht2 HD1
    go_wp2_with fail
    refine (flush_any HD2.out.dev (by show (0 : Nat) + 1 ≤ _; omega)).mono ?_
    rintro e w3 ⟨rfl, hd3, ht3⟩
    have hF : ((Dv.fresh 8).more.put k (Dv.pad a)).Free := ⟨rfl, rfl⟩
    rw [hF.flush] at hd3
    rw [hF.flushE]
    have HD3 := Lib.hid (HD2.out.turn hd3 ht3)
    have HI3 : Hid (EInv ((Dv.fresh 8).more.put k (Dv.pad a)).more.settle k 0 a) := Lib.hid (EInv.start a)
    clear hd3 ht3 HD2 hF
    go_wp2_with fail
    go_loopw [15] (fun u wr => ∃ (D : Dv) (j : Nat), u = .int .i64 (j : Int) ∧ j ≤ ll ∧ Hid (EInv D k j a) ∧ Hid (Dr w wr p L M D)) (fun u _ => ll - (intOf u).toNat)
    case atStart => exact ⟨_, 0, rfl, by omega, HI3, HD3⟩
    case round =>
      obtain ⟨D, j, rfl, hj, HI, HD⟩ := hrel
      clear HD3 HI3
      rcases Nat.lt_or_ge j ll with hlt | hge
      · rcases hY with h0 | ⟨b, o, rfl, hb, hc⟩
        · omega
        obtain ⟨X, hX⟩ : ∃ X, Y j = X := ⟨_, rfl⟩
        have hcj := hc j hlt
        rw [hX] at hcj
        obtain ⟨_, hat, _, ⟨A2, cb, hbb, hrb⟩, _⟩ := hcj
        have hAT : ∀ V, Turn (DS p L M) wr V → V.cell? ⟨b, o + j * 4 + 1, none⟩ = some (.int .i64 X.at_) := fun V hV => (HD.out.arg hV hb).trans hat
        have hBB : ∀ V, Turn (DS p L M) wr V → V.cell? ⟨b, o + j * 4 + 2, none⟩ = some (.slice A2 X.b.length cb) := fun V hV => (HD.out.arg hV hb).trans hbb
        have hdj : decide ((j : Int) < (ll : Int)) = true := decide_eq_true (by omega)
        have HSP : Hid (D.spent ≤ 1000000) := Lib.hid (by have := HI.out.spent; omega)
        have HDD : Hid (Dr w wr.drew p L M D) := Lib.hid (HD.out.below ((Below.refl _ _).drew))
        have HFM := Lib.hid (HDD.out.firm hrb)
        have HIJ := Lib.hid (HI.out.step X.at_ X.b)
        clear hc hat hbb hrb hX
        go_wp2_with fail
        refine wp_region_turn (X := (DS p L M)) (by kernel_rfl) ?_
        have hS : Turn (DS p L M) wr (World.drew wr) := (Turn.refl _ _).drew
        refine wpAnyH_take (i := 0) (oi := ⟨some 54, _, _, _, _, _⟩) (v := ?_) rfl (by kernel_rfl) (by kernel_rfl) (by kernel_rfl) (fun _ _ _ h => h) (Or.inl ⟨by rfl, ?_⟩) hS ?_
        rotate_left
        · intro W hW; go_simp; with_reducible rfl
        try simp only [Act.put, List.setIfInBounds_toArray, List.set_cons_zero, List.set_cons_succ]
        refine wpAnyH_take (i := 1) (oi := ⟨some 55, _, _, _, _, _⟩) (v := ?_) rfl (by kernel_rfl) (by kernel_rfl) (by kernel_rfl) (fun _ _ _ h => h) (Or.inl ⟨by rfl, ?_⟩) hS ?_
        rotate_left
        · intro W hW; go_simp; with_reducible rfl
        try simp only [Act.put, List.setIfInBounds_toArray, List.set_cons_zero, List.set_cons_succ]
        refine wpAnyH_take (i := 2) (oi := ⟨some 56, _, _, _, _, _⟩) (v := ?_) rfl (by kernel_rfl) (by kernel_rfl) (by kernel_rfl) (fun _ _ _ h => h) (Or.inl ⟨by rfl, ?_⟩) hS ?_
        rotate_left
        · intro W hW; go_simp; with_reducible rfl
        try simp only [Act.put, List.setIfInBounds_toArray, List.set_cons_zero, List.set_cons_succ]
        refine wpAnyH_take (i := 3) (oi := ⟨some 57, _, _, _, _, _⟩) (v := ?_) rfl (by kernel_rfl) (by kernel_rfl) (by kernel_rfl) (fun _ _ _ h => h) (Or.inl ⟨by rfl, ?_⟩) hS ?_
        rotate_left
        · intro W hW; go_simp; with_reducible rfl
        try simp only [Act.put, List.setIfInBounds_toArray, List.set_cons_zero, List.set_cons_succ]
        refine wpAnyH_take (i := 4) (oi := ⟨some 58, _, _, _, _, _⟩) (v := ?_) rfl (by kernel_rfl) (by kernel_rfl) (by kernel_rfl) (fun _ _ _ h => h) (Or.inl ⟨by rfl, ?_⟩) hS ?_
        rotate_left
        · intro W hW; go_simp; with_reducible rfl
        try simp only [Act.put, List.setIfInBounds_toArray, List.set_cons_zero, List.set_cons_succ]
        refine wpAnyH_take (i := 5) (oi := ⟨some 59, _, _, _, _, _⟩) (v := ?_) rfl (by kernel_rfl) (by kernel_rfl) (by kernel_rfl) (fun _ _ _ h => h) (Or.inl ⟨by rfl, ?_⟩) hS ?_
        rotate_left
        · intro W hW; go_simp; with_reducible rfl
        try simp only [Act.put, List.setIfInBounds_toArray, List.set_cons_zero, List.set_cons_succ]
        refine wpAnyH_take (i := 6) (oi := ⟨some 60, _, _, _, _, _⟩) (v := ?_) rfl (by kernel_rfl) (by kernel_rfl) (by kernel_rfl) (fun _ _ _ h => h) (Or.inl ⟨by rfl, ?_⟩) hS ?_
        rotate_left
        · intro W hW; go_simp; with_reducible rfl
        try simp only [Act.put, List.setIfInBounds_toArray, List.set_cons_zero, List.set_cons_succ]
        refine wpAnyH_take (i := 7) (oi := ⟨some 61, _, _, _, _, _⟩) (v := ?_) rfl (by kernel_rfl) (by kernel_rfl) (by kernel_rfl) (fun _ _ _ h => h) (Or.inl ⟨by rfl, ?_⟩) hS ?_
        rotate_left
        · intro W hW; go_simp; with_reducible rfl
        try simp only [Act.put, List.setIfInBounds_toArray, List.set_cons_zero, List.set_cons_succ]
        refine wpAnyH_take (i := 8) (oi := ⟨some 62, _, _, _, _, _⟩) (v := ?_) rfl (by kernel_rfl) (by kernel_rfl) (by kernel_rfl) (fun _ _ _ h => h) (Or.inl ⟨by rfl, ?_⟩) hS ?_
        rotate_left
        · intro W hW; go_simp; with_reducible rfl
        try simp only [Act.put, List.setIfInBounds_toArray, List.set_cons_zero, List.set_cons_succ]
        refine wpAnyH_take (i := 9) (oi := ⟨some 63, _, _, _, _, _⟩) (v := ?_) rfl (by kernel_rfl) (by kernel_rfl) (by kernel_rfl) (fun _ _ _ h => h) (Or.inl ⟨by rfl, ?_⟩) hS ?_
        rotate_left
        · intro W hW; go_simp; with_reducible rfl
        try simp only [Act.put, List.setIfInBounds_toArray, List.set_cons_zero, List.set_cons_succ]
        refine wpAnyH_take (i := 10) (oi := ⟨some 64, _, _, _, _, _⟩) (v := ?_) rfl (by kernel_rfl) (by kernel_rfl) (by kernel_rfl) (fun _ _ _ h => h) (Or.inl ⟨by rfl, ?_⟩) hS ?_
        rotate_left
        · intro W hW; go_simp; with_reducible rfl
        try simp only [Act.put, List.setIfInBounds_toArray, List.set_cons_zero, List.set_cons_succ]
        -- operation 11: a call
        refine wpAnyH_ready (rs := [11]) (by kernel_rfl) (by simp) ?_
        refine AllReadyH.cons (o := ⟨some 65, _, _, _, _, _⟩) rfl (fun Kr hKr => ?_) AllReadyH.nil
        go_simp
        refine (write_any HDD.out.dev HSP.out X.at_ HFM.out X.b.length cb rfl).mono ?_
        rintro e w3 ⟨rfl, hd3, ht3⟩
        have HD3 := Lib.hid (HDD.out.turn hd3 ht3)
        show Kr _ _
        refine hKr.out _ _ ?_ (fun _ => ?_)
        · exact Turn.trans hS ht3
        clear hKr Kr
        refine wpAnyH_turn (Turn.trans hS ht3) ?_
        clear hS
        have hS : Turn (DS p L M) w3 w3 := Turn.refl _ _
        try simp only [Act.put, List.setIfInBounds_toArray, List.set_cons_zero, List.set_cons_succ]
        refine wpAnyH_done (by kernel_rfl) ?_ _
        go_wp2_with fail
        refine ⟨⟨_, j + 1, by go_num, by omega, HIJ, HD3⟩, by simp [intOf]; omega⟩
      · obtain rfl : j = ll := by omega
        have hdj : decide ((j : Int) < (j : Int)) = false := decide_eq_false (by omega)
        have HSP : Hid (D.spent ≤ 1000000) := Lib.hid (by have := HI.out.spent; omega)
        go_wp2_with fail
        refine (cached_any HD.out.dev (Nat.le_trans HSP.out (by omega))).mono ?_
        rintro e w5 ⟨C, N, cc, rfl, hN, hrow, hb5⟩
        have HD5 := Lib.hid (HD.out.below hb5)
        have HROW := Lib.hid hrow
        have HN := Lib.hid hN
        have hN8 : N ≤ 8 := by rw [hN]; have h1 := Dv.keys_length D; rw [HI.out.n8] at h1; exact h1
        clear hN hrow hb5 HD hj hge hdj
        go_wp2_with fail
        go_loopw [17, 18] (fun v u wq => ∃ (m : Nat) (hb : Bool), v = .bool hb ∧ u = .int .i64 (m : Int) ∧ m ≤ N ∧ Hid (hb = hitB (kp lk f) D.keys k m) ∧ Hid (w5 = wq)) (fun _ u _ => N - (intOf u).toNat)
        case atStart => exact ⟨0, false, rfl, rfl, by omega, rfl, rfl⟩
        case round =>
          obtain ⟨m, hb, rfl, rfl, hm, HB, hw⟩ := hrel
          obtain rfl := hw.out
          clear hw
          have hcases : (m < N ∧ m < lk) ∨ (hb = hitB (kp lk f) D.keys k D.keys.length ∧ (decide (m < N) = false ∨ (decide (m < N) = true ∧ decide (m < lk) = false))) := by
            by_cases e1 : m < N
            · by_cases e2 : m < lk
              · exact .inl ⟨e1, e2⟩
              · refine .inr ⟨?_, .inr ⟨decide_eq_true (by omega), decide_eq_false (by omega)⟩⟩
                have h1 := hitB_stop (keep := kp lk f) (keys := D.keys) (k := k) m (N - m) (fun i hi => by unfold kp; rw [decide_eq_false (by omega)]; rfl)
                rw [show m + (N - m) = D.keys.length from by rw [← HN.out]; omega] at h1
                rw [h1, HB.out]
            · refine .inr ⟨?_, .inl (decide_eq_false (by omega))⟩
              rw [HB.out, ← HN.out, show m = N from by omega]
          rcases hcases with ⟨e1, e2⟩ | ⟨hhit, hexit⟩
          · obtain ⟨g, rfl, _, _, hcell⟩ := ints_cells HROW.out (by omega)
            have hcm := hcell m (by rw [← HN.out]; exact e1)
            obtain ⟨q, hq⟩ : ∃ q, D.keys.getD m 0 = q := ⟨_, rfl⟩
            rw [hq] at hcm
            rcases hk.below HD5.out.bel with h0 | ⟨b, o, rfl, _, hkc⟩
            · omega
            have hkm := hkc m e2
            have hnext : hitB (kp lk f) D.keys k (m + 1) = (hb || (f m && q == k)) := by
              show (hitB (kp lk f) D.keys k m || (kp lk f m && D.keys.getD m 0 == k)) = _
              rw [← HB.out, hq]
              unfold kp
              rw [decide_eq_true e2, Bool.true_and]
            have HNX := Lib.hid hnext
            have hdm : decide (m < N) = true := decide_eq_true (by omega)
            have hdk : decide (m < lk) = true := decide_eq_true (by omega)
            clear hcell hkc hq hnext
            cases hb
            · cases hf : f m
              · rw [hf] at hkm HNX
                go_wp2_with fail
                refine ⟨⟨m + 1, false, rfl, by go_num, by omega, Lib.hid (by rw [HNX.out]; rfl), by trivial⟩, by simp [intOf]; omega⟩
              · rw [hf] at hkm HNX
                by_cases e3 : q = k
                · subst e3
                  go_wp2_with fail
                  refine ⟨⟨m + 1, true, rfl, by go_num, by omega, Lib.hid (by rw [HNX.out]; simp), by trivial⟩, by simp [intOf]; omega⟩
                · have e4 : ((q : Int) == (k : Int)) = false := by simp; omega
                  have e5 : (q == k) = false := by simp; exact e3
                  go_wp2_with fail
                  refine ⟨⟨m + 1, false, rfl, by go_num, by omega, Lib.hid (by rw [HNX.out, e5]; rfl), by trivial⟩, by simp [intOf]; omega⟩
            · go_wp2_with fail
              refine ⟨⟨m + 1, true, rfl, by go_num, by omega, Lib.hid (by rw [HNX.out]; rfl), by trivial⟩, by simp [intOf]; omega⟩
          · have HH := Lib.hid hhit
            have HKB := Lib.hid (HD5.out.bools hk)
            obtain ⟨E, hE⟩ : ∃ E, E = D.crash (kp lk f) := ⟨_, rfl⟩
            have HE := Lib.hid hE
            have hEk : E.keys = [] := Dv.keys_none fun i => by rw [hE]; rfl
            have hEs : E.spent ≤ 1000000 := by rw [hE]; exact HSP.out
            have HEK := Lib.hid hEk
            have HES := Lib.hid hEs
            have hread : ∃ l : List UInt8, l.length = 64 ∧ E.read (k : Int) = l ∧ (hb = true ∨ (hb = false ∧ l = Dv.pad a)) := by
              refine ⟨E.read (k : Int), by rw [hE]; exact HI.out.len HD5.out.dev.ok hk8 _, rfl, ?_⟩
              cases hb
              · exact .inr ⟨rfl, by rw [hE]; exact HI.out.kept hk8 _ HH.out.symm⟩
              · exact .inl rfl
            obtain ⟨l, hl64, hlr, hhb⟩ := hread
            have HR := Lib.hid (show _ ∧ _ from ⟨hl64, hlr⟩)
            clear hhit hE hEk hEs hl64 hlr HB hm
            have hlz : (la : Int) ≤ 64 := by have := HLA.out; omega
            rcases hhb with rfl | ⟨rfl, rfl⟩ <;> rcases hexit with hdm | ⟨hdm, hdk⟩
            all_goals
              go_wp2_with fail
              refine (crash_any HD5.out.dev (Nat.le_trans HSP.out (by omega)) ck HKB.out).mono ?_
              rintro e w7 ⟨rfl, hd7, ht7⟩
              rw [← HE.out] at hd7
              have HD7 := Lib.hid (HD5.out.turn hd7 ht7)
              clear hd7 ht7
              go_wp2_with fail
              refine (read_sec HD7.out.dev (k : Int) HR.out.2 HR.out.1).mono ?_
              rintro e w8 ⟨g8, rfl, hg8, hb8, hw8⟩
              have HD8 := Lib.hid (HD7.out.below hw8)
              have HB8 := Lib.hid hb8
              clear hg8 hb8 hw8 HD7
              go_wp2_with fail
              refine (cached_any HD8.out.dev (Nat.le_trans HES.out (by omega))).mono ?_
              rintro e w9 ⟨C9, N9, c9, rfl, hn9, _, hb9⟩
              rw [HEK.out] at hn9
              obtain rfl : N9 = 0 := hn9
              have HD9 := Lib.hid (HD8.out.below hb9)
              have HG9 := Lib.hid ((hb9.block g8 (lt_of_block HB8.out)).trans HB8.out)
              clear hb9 HB8 HD8
              have hconv2 : ∀ V, Since w9 V → (convert 32 9 (.slice A la ca)).run Try.prog V = .ok (.string ⟨a.toArray⟩) V := fun V hV => rd_conv (hr.up HD9.out.bel) HL.out hV
              go_wp2_with fail
            iterate 2
              · skip
                refine wp_region_since (by kernel_rfl) ?_
                have hS : Since w9 (World.drew w9) := (Below.refl _ _).drew
                refine wpAnyH_take (i := 0) (oi := ⟨some 129, _, _, _, _, _⟩) (v := ?_) rfl (by kernel_rfl) (by kernel_rfl) (by kernel_rfl) (fun _ _ _ h => h) (Or.inl ⟨by rfl, ?_⟩) hS ?_
                rotate_left
                · intro W hW; go_simp; with_reducible rfl
                try simp only [Act.put, List.setIfInBounds_toArray, List.set_cons_zero, List.set_cons_succ]
                refine wpAnyH_take (i := 1) (oi := ⟨some 130, _, _, _, _, _⟩) (v := ?_) rfl (by kernel_rfl) (by kernel_rfl) (by kernel_rfl) (fun _ _ _ h => h) (Or.inl ⟨by rfl, ?_⟩) hS ?_
                rotate_left
                · intro W hW; go_simp; with_reducible rfl
                try simp only [Act.put, List.setIfInBounds_toArray, List.set_cons_zero, List.set_cons_succ]
                refine wpAnyH_take (i := 2) (oi := ⟨some 131, _, _, _, _, _⟩) (v := ?_) rfl (by kernel_rfl) (by kernel_rfl) (by kernel_rfl) (fun _ _ _ h => h) (Or.inl ⟨by rfl, ?_⟩) hS ?_
                rotate_left
                · intro W hW; go_simp; with_reducible rfl
                try simp only [Act.put, List.setIfInBounds_toArray, List.set_cons_zero, List.set_cons_succ]
                refine wpAnyH_take (i := 3) (oi := ⟨some 132, _, _, _, _, _⟩) (v := ?_) rfl (by kernel_rfl) (by kernel_rfl) (by kernel_rfl) (fun _ _ _ h => h) (Or.inl ⟨by rfl, ?_⟩) hS ?_
                rotate_left
                · intro W hW; go_simp; with_reducible rfl
                try simp only [Act.put, List.setIfInBounds_toArray, List.set_cons_zero, List.set_cons_succ]
                refine wpAnyH_take (i := 4) (oi := ⟨some 133, _, _, _, _, _⟩) (v := undef) rfl (by kernel_rfl) (by kernel_rfl) (by kernel_rfl) (fun _ _ _ h => h) (Or.inr ⟨by rfl, rfl⟩) hS ?_
                try simp only [Act.put, List.setIfInBounds_toArray, List.set_cons_zero, List.set_cons_succ]
                refine wpAnyH_take (i := 5) (oi := ⟨some 134, _, _, _, _, _⟩) (v := undef) rfl (by kernel_rfl) (by kernel_rfl) (by kernel_rfl) (fun _ _ _ h => h) (Or.inr ⟨by rfl, rfl⟩) hS ?_
                try simp only [Act.put, List.setIfInBounds_toArray, List.set_cons_zero, List.set_cons_succ]
                refine wpAnyH_take (i := 6) (oi := ⟨some 135, _, _, _, _, _⟩) (v := undef) rfl (by kernel_rfl) (by kernel_rfl) (by kernel_rfl) (fun _ _ _ h => h) (Or.inr ⟨by rfl, rfl⟩) hS ?_
                try simp only [Act.put, List.setIfInBounds_toArray, List.set_cons_zero, List.set_cons_succ]
                refine wpAnyH_take (i := 7) (oi := ⟨some 136, _, _, _, _, _⟩) (v := undef) rfl (by kernel_rfl) (by kernel_rfl) (by kernel_rfl) (fun _ _ _ h => h) (Or.inr ⟨by rfl, rfl⟩) hS ?_
                try simp only [Act.put, List.setIfInBounds_toArray, List.set_cons_zero, List.set_cons_succ]
                refine wpAnyH_take (i := 8) (oi := ⟨some 137, _, _, _, _, _⟩) (v := undef) rfl (by kernel_rfl) (by kernel_rfl) (by kernel_rfl) (fun _ _ _ h => h) (Or.inr ⟨by rfl, rfl⟩) hS ?_
                try simp only [Act.put, List.setIfInBounds_toArray, List.set_cons_zero, List.set_cons_succ]
                refine wpAnyH_take (i := 9) (oi := ⟨some 138, _, _, _, _, _⟩) (v := undef) rfl (by kernel_rfl) (by kernel_rfl) (by kernel_rfl) (fun _ _ _ h => h) (Or.inr ⟨by rfl, rfl⟩) hS ?_
                try simp only [Act.put, List.setIfInBounds_toArray, List.set_cons_zero, List.set_cons_succ]
                refine wpAnyH_take (i := 10) (oi := ⟨some 139, _, _, _, _, _⟩) (v := undef) rfl (by kernel_rfl) (by kernel_rfl) (by kernel_rfl) (fun _ _ _ h => h) (Or.inr ⟨by rfl, rfl⟩) hS ?_
                try simp only [Act.put, List.setIfInBounds_toArray, List.set_cons_zero, List.set_cons_succ]
                refine wpAnyH_take (i := 11) (oi := ⟨some 140, _, _, _, _, _⟩) (v := undef) rfl (by kernel_rfl) (by kernel_rfl) (by kernel_rfl) (fun _ _ _ h => h) (Or.inr ⟨by rfl, rfl⟩) hS ?_
                try simp only [Act.put, List.setIfInBounds_toArray, List.set_cons_zero, List.set_cons_succ]
                refine wpAnyH_take (i := 12) (oi := ⟨some 141, _, _, _, _, _⟩) (v := ?_) rfl (by kernel_rfl) (by kernel_rfl) (by kernel_rfl) (fun _ _ _ h => h) (Or.inl ⟨by rfl, ?_⟩) hS ?_
                rotate_left
                · intro W hW; go_simp; with_reducible rfl
                try simp only [Act.put, List.setIfInBounds_toArray, List.set_cons_zero, List.set_cons_succ]
                refine wpAnyH_take (i := 13) (oi := ⟨some 142, _, _, _, _, _⟩) (v := ?_) rfl (by kernel_rfl) (by kernel_rfl) (by kernel_rfl) (fun _ _ _ h => h) (Or.inl ⟨by rfl, ?_⟩) hS ?_
                rotate_left
                · intro W hW; go_simp; with_reducible rfl
                try simp only [Act.put, List.setIfInBounds_toArray, List.set_cons_zero, List.set_cons_succ]
                refine wpAnyH_take (i := 14) (oi := ⟨some 8, _, _, _, _, _⟩) (v := ?_) rfl (by kernel_rfl) (by kernel_rfl) (by kernel_rfl) (fun _ _ _ h => h) (Or.inl ⟨by rfl, ?_⟩) hS ?_
                rotate_left
                · intro W hW; go_simp; with_reducible rfl
                try simp only [Act.put, List.setIfInBounds_toArray, List.set_cons_zero, List.set_cons_succ]
                refine wpAnyH_done (by kernel_rfl) ?_ _
                go_wp2_with fail
                go_ret
                exact ⟨rfl, below_drewN HD9.out.bel 1⟩
            all_goals
              have hconv1 : ∀ V, Since w9 V → (convert 32 9 (.slice (some ⟨g8, 0, none⟩) la 64)).run Try.prog V = .ok (.string ⟨a.toArray⟩) V := fun V hV => rd_conv (sec_head HG9.out) HL.out hV
              go_wp2_with fail
              refine wp_region_since (by kernel_rfl) ?_
              have hS : Since w9 (World.drew w9) := (Below.refl _ _).drew
              refine wpAnyH_take (i := 0) (oi := ⟨some 129, _, _, _, _, _⟩) (v := ?_) rfl (by kernel_rfl) (by kernel_rfl) (by kernel_rfl) (fun _ _ _ h => h) (Or.inl ⟨by rfl, ?_⟩) hS ?_
              rotate_left
              · intro W hW; go_simp; with_reducible rfl
              try simp only [Act.put, List.setIfInBounds_toArray, List.set_cons_zero, List.set_cons_succ]
              refine wpAnyH_take (i := 1) (oi := ⟨some 130, _, _, _, _, _⟩) (v := ?_) rfl (by kernel_rfl) (by kernel_rfl) (by kernel_rfl) (fun _ _ _ h => h) (Or.inl ⟨by rfl, ?_⟩) hS ?_
              rotate_left
              · intro W hW; go_simp; with_reducible rfl
              try simp only [Act.put, List.setIfInBounds_toArray, List.set_cons_zero, List.set_cons_succ]
              refine wpAnyH_take (i := 2) (oi := ⟨some 131, _, _, _, _, _⟩) (v := ?_) rfl (by kernel_rfl) (by kernel_rfl) (by kernel_rfl) (fun _ _ _ h => h) (Or.inl ⟨by rfl, ?_⟩) hS ?_
              rotate_left
              · intro W hW; go_simp; with_reducible rfl
              try simp only [Act.put, List.setIfInBounds_toArray, List.set_cons_zero, List.set_cons_succ]
              refine wpAnyH_take (i := 3) (oi := ⟨some 132, _, _, _, _, _⟩) (v := ?_) rfl (by kernel_rfl) (by kernel_rfl) (by kernel_rfl) (fun _ _ _ h => h) (Or.inl ⟨by rfl, ?_⟩) hS ?_
              rotate_left
              · intro W hW; go_simp; with_reducible rfl
              try simp only [Act.put, List.setIfInBounds_toArray, List.set_cons_zero, List.set_cons_succ]
              refine wpAnyH_take (i := 4) (oi := ⟨some 133, _, _, _, _, _⟩) (v := ?_) rfl (by kernel_rfl) (by kernel_rfl) (by kernel_rfl) (fun _ _ _ h => h) (Or.inl ⟨by rfl, ?_⟩) hS ?_
              rotate_left
              · intro W hW; go_simp; with_reducible rfl
              try simp only [Act.put, List.setIfInBounds_toArray, List.set_cons_zero, List.set_cons_succ]
              refine wpAnyH_take (i := 5) (oi := ⟨some 134, _, _, _, _, _⟩) (v := ?_) rfl (by kernel_rfl) (by kernel_rfl) (by kernel_rfl) (fun _ _ _ h => h) (Or.inl ⟨by rfl, ?_⟩) hS ?_
              rotate_left
              · intro W hW; go_simp; with_reducible rfl
              try simp only [Act.put, List.setIfInBounds_toArray, List.set_cons_zero, List.set_cons_succ]
              refine wpAnyH_take (i := 6) (oi := ⟨some 135, _, _, _, _, _⟩) (v := ?_) rfl (by kernel_rfl) (by kernel_rfl) (by kernel_rfl) (fun _ _ _ h => h) (Or.inl ⟨by rfl, ?_⟩) hS ?_
              rotate_left
              · intro W hW; go_simp; with_reducible rfl
              try simp only [Act.put, List.setIfInBounds_toArray, List.set_cons_zero, List.set_cons_succ]
              refine wpAnyH_take (i := 7) (oi := ⟨some 136, _, _, _, _, _⟩) (v := ?_) rfl (by kernel_rfl) (by kernel_rfl) (by kernel_rfl) (fun _ _ _ h => h) (Or.inl ⟨by rfl, ?_⟩) hS ?_
              rotate_left
              · intro W hW; go_simp; with_reducible rfl
              try simp only [Act.put, List.setIfInBounds_toArray, List.set_cons_zero, List.set_cons_succ]
              refine wpAnyH_take (i := 8) (oi := ⟨some 137, _, _, _, _, _⟩) (v := ?_) rfl (by kernel_rfl) (by kernel_rfl) (by kernel_rfl) (fun _ _ _ h => h) (Or.inl ⟨by rfl, ?_⟩) hS ?_
              rotate_left
              · intro W hW; go_simp; with_reducible rfl
              try simp only [Act.put, List.setIfInBounds_toArray, List.set_cons_zero, List.set_cons_succ]
              refine wpAnyH_take (i := 9) (oi := ⟨some 138, _, _, _, _, _⟩) (v := ?_) rfl (by kernel_rfl) (by kernel_rfl) (by kernel_rfl) (fun _ _ _ h => h) (Or.inl ⟨by rfl, ?_⟩) hS ?_
              rotate_left
              · intro W hW; go_simp; with_reducible rfl
              try simp only [Act.put, List.setIfInBounds_toArray, List.set_cons_zero, List.set_cons_succ]
              refine wpAnyH_take (i := 10) (oi := ⟨some 139, _, _, _, _, _⟩) (v := ?_) rfl (by kernel_rfl) (by kernel_rfl) (by kernel_rfl) (fun _ _ _ h => h) (Or.inl ⟨by rfl, ?_⟩) hS ?_
              rotate_left
              · intro W hW; go_simp; with_reducible rfl
              try simp only [Act.put, List.setIfInBounds_toArray, List.set_cons_zero, List.set_cons_succ]
              refine wpAnyH_take (i := 11) (oi := ⟨some 140, _, _, _, _, _⟩) (v := ?_) rfl (by kernel_rfl) (by kernel_rfl) (by kernel_rfl) (fun _ _ _ h => h) (Or.inl ⟨by rfl, ?_⟩) hS ?_
              rotate_left
              · intro W hW; go_simp; with_reducible rfl
              try simp only [Act.put, List.setIfInBounds_toArray, List.set_cons_zero, List.set_cons_succ]
              refine wpAnyH_take (i := 12) (oi := ⟨some 141, _, _, _, _, _⟩) (v := ?_) rfl (by kernel_rfl) (by kernel_rfl) (by kernel_rfl) (fun _ _ _ h => h) (Or.inl ⟨by rfl, ?_⟩) hS ?_
              rotate_left
              · intro W hW; go_simp; with_reducible rfl
              try simp only [Act.put, List.setIfInBounds_toArray, List.set_cons_zero, List.set_cons_succ]
              refine wpAnyH_take (i := 13) (oi := ⟨some 142, _, _, _, _, _⟩) (v := ?_) rfl (by kernel_rfl) (by kernel_rfl) (by kernel_rfl) (fun _ _ _ h => h) (Or.inl ⟨by rfl, ?_⟩) hS ?_
              rotate_left
              · intro W hW; go_simp; with_reducible rfl
              try simp only [Act.put, List.setIfInBounds_toArray, List.set_cons_zero, List.set_cons_succ]
              refine wpAnyH_take (i := 14) (oi := ⟨some 8, _, _, _, _, _⟩) (v := ?_) rfl (by kernel_rfl) (by kernel_rfl) (by kernel_rfl) (fun _ _ _ h => h) (Or.inl ⟨by rfl, ?_⟩) hS ?_
              rotate_left
              · intro W hW; go_simp; with_reducible rfl
              try simp only [Act.put, List.setIfInBounds_toArray, List.set_cons_zero, List.set_cons_succ]
              refine wpAnyH_done (by kernel_rfl) ?_ _
              go_wp2_with fail
              go_ret
              exact ⟨rfl, below_drewN HD9.out.bel 1⟩
  · by_cases h1 : la ≤ 64
    · have d1 : decide (64 < (la : Int)) = false := decide_eq_false (by omega)
      cases h2 : (decide (ll ≤ 100) && smallB Y ll)
      · have hsm := fun (W : World) (hX : Deeds W B ll Y) => small_any W B ll cb0 Y hX
        rw [h2] at hsm
        have HSM := Lib.hid hsm
        clear hsm h2 hcond
        go_enter Try.func4, Try.ntmps4
        go_wp2_with (go_at_call 9; refine HAWK.out.mono ?_; rintro e w0 ⟨rfl, hb0⟩; have HB0 := Lib.hid hb0; clear hb0)
        refine (HSM.out w0 (hY.up HB0.out)).mono ?_
        rintro e w' ⟨rfl, hw⟩
        replace hw := hw.symm
        subst hw
        go_wp2_with fail
        go_ret
        exact ⟨rfl, HB0.out⟩
      · have d3 : decide (100 < (lk : Int)) = true := decide_eq_true (by
          have : ¬ lk ≤ 100 := fun h3 => hcond ⟨h1, h2, h3⟩
          omega)
        have hsm := fun (W : World) (hX : Deeds W B ll Y) => small_any W B ll cb0 Y hX
        rw [h2] at hsm
        have HSM := Lib.hid hsm
        clear hsm h2 hcond
        go_enter Try.func4, Try.ntmps4
        go_wp2_with (go_at_call 9; refine HAWK.out.mono ?_; rintro e w0 ⟨rfl, hb0⟩; have HB0 := Lib.hid hb0; clear hb0)
        refine (HSM.out w0 (hY.up HB0.out)).mono ?_
        rintro e w' ⟨rfl, hw⟩
        replace hw := hw.symm
        subst hw
        go_wp2_with fail
        go_ret
        exact ⟨rfl, HB0.out⟩
    · have d1 : decide (64 < (la : Int)) = true := decide_eq_true (by omega)
      clear hcond
      go_enter Try.func4, Try.ntmps4
      go_wp2_with (go_at_call 9; refine HAWK.out.mono ?_; rintro e w0 ⟨rfl, hb0⟩; have HB0 := Lib.hid hb0; clear hb0)
      go_ret
      exact ⟨rfl, HB0.out⟩

end Go.Proofs.Ytaidjnpbjoncoaa
