/-
  WireLists: the walk: lists one behind the other are read as they were; one that is longer than may be stays.
-/
import Derived.Test.YtgmnhaohbpclkaaOrderWalk
namespace Go.Proofs.Ytgmnhaohbpclkaa
open Go.RowKit Wm

/-- lists laid one behind the other -/
def catL (X : Nat → List UInt8) : Nat → List UInt8
  | 0 => []
  | j + 1 => catL X j ++ listB (X j)

theorem catL_split (X : Nat → List UInt8) (i m : Nat) (h : i < m) : ∃ rest, catL X m = catL X i ++ (listB (X i) ++ rest) := by
  induction m with
  | zero => omega
  | succ m ih =>
    rcases Nat.lt_or_ge i m with h1 | h1
    · obtain ⟨rest, e⟩ := ih h1
      exact ⟨rest ++ listB (X m), by rw [catL, e]; simp⟩
    · obtain rfl : i = m := by omega
      exact ⟨[], by rw [catL, List.append_nil]⟩

theorem catL_at (X : Nat → List UInt8) (i m P N : Nat) (h : i < m) (hP : (catL X i).length = P) (hN : (X i).length = N) (hs : N ≤ 300) :
    cntB (catL X m) P = N ∧ ((catL X m).drop (P + 2)).take N = X i ∧ P + 2 + N ≤ (catL X m).length := by
  obtain ⟨rest, e⟩ := catL_split X i m h
  have hl : listB (X i) = putB 2 N ++ X i := by unfold listB; rw [hN, if_pos (by omega)]
  have e2 : (256 : Nat) ^ 2 = 65536 := by decide
  have hp := length_putB 2 N
  have e1 : catL X m = catL X i ++ (putB 2 N ++ (X i ++ rest)) := by rw [e, hl, List.append_assoc]
  refine ⟨?_, ?_, ?_⟩
  · unfold cntB
    rw [e1, piece2 _ _ _ P 2 hP hp, val_putB, e2, Nat.mod_eq_of_lt (by omega)]
  · rw [e1, piece3 _ _ _ (P + 2) N (by rw [hP, hp]), List.take_append_of_le_length (by omega), List.take_of_length_le (by omega)]
  · rw [e1, List.length_append, List.length_append, List.length_append, hP, hp, hN]
    omega

theorem length_listB (x : List UInt8) (N : Nat) (h : x.length = N) (hs : N ≤ 300) : (listB x).length = 2 + N := by
  unfold listB
  rw [if_pos (by omega), List.length_append, length_putB, h]

/-- slices of bytes that came in -/
def Ls (w : World) (a : Option Addr) (len : Nat) (X : Nat → List UInt8) : Prop :=
  len = 0 ∨ ∃ b o, a = some ⟨b, o, none⟩ ∧ b < w.heap.size ∧ ∀ i, i < len → ∃ A N C, w.cell? ⟨b, o + i, none⟩ = some (.slice A N C) ∧ (X i).length = N ∧ N ≤ 9223372036854775807 ∧ Rd w w.heap.size A (X i)

set_option maxRecDepth 100000 in
set_option maxHeartbeats 4000000 in
theorem lists_walk (a : Option Addr) (len cap : Nat) (X : Nat → List UInt8) (most : Int) (w : World) (hst : Ls w a len X) :
    Calls Try.prog 8 #[.slice a len cap, .int .i64 most] w fun e w' => e = .returned (.bool true) ∧ Below w.heap.size w w' := by
  by_cases hlen : len ≤ 20
  · obtain ⟨z, hz, hz1, hz2⟩ : ∃ z : Int, z = most % 256 ∧ 0 ≤ z ∧ z ≤ 255 := ⟨_, rfl, by omega, by omega⟩
    have hand : bits .and .i64 most 255 = z := by rw [and255, hz]
    clear hz
    go_enter Try.func8, Try.ntmps8
    go_wp2_with fail
    refine (awake_any w).mono ?_
    rintro e w0 ⟨rfl, hb0⟩
    go_wp2_with fail
    go_loopw [6, 7] (fun o i wr => ∃ (j T : Nat) (A' : Option Addr) (c' : Nat), j ≤ len ∧ i = .int .i64 (j : Int) ∧ o = .slice A' T c' ∧ T ≤ 302 * j ∧ Owns wr w.heap.size A' c' T (catL X j) ∧ Hid (∀ i, i < j → (X i).length ≤ 300) ∧ Below w.heap.size w wr) (fun _ i _ => len - (intOf i).toNat)
    case atStart => exact ⟨0, 0, none, 0, Nat.zero_le _, rfl, rfl, by omega, World.ownsRow_nil _ _ _ _, fun i hi => by omega, hb0⟩
    case round =>
      clear hb0
      obtain ⟨j, T, A', c', hj, rfl, rfl, hT, ho, hsm, hb⟩ := hrel
      by_cases hlt : j < len
      · rcases hst with h0 | ⟨b, o, rfl, hbB, hcs⟩
        · omega
        obtain ⟨An, N, C, hcell, hXN, hN47, hrd⟩ := hcs j hlt
        have hF : wr.cell? ⟨b, o + j, none⟩ = some (.slice An N C) := (hb.cell (p := ⟨b, o + j, none⟩) hbB).trans hcell
        have hO := hide2 ho
        have hB := hide2 hb
        have HC := hide2 hcs
        have HX := hide2 hXN
        clear ho hb hcs hcell hXN
        by_cases hN : N ≤ 300
        · go_wp2_with fail
          refine (list_any A' c' T (catL X j) hO.out.len An C N (X j) HX wr hO.out.read (hrd.up hB.out) (by omega) (by omega)).mono ?_
          rw [if_pos (by omega)]
          rintro e V ⟨A2, c2, rfl, ho2, hb2⟩
          have hO2 := hide2 (ho2.base_le hB.out.size)
          have hB2 := hide2 (hB.out.trans (hb2.mono hB.out.size))
          have hsm2 : Hid (∀ i, i < j + 1 → (X i).length ≤ 300) := fun i hi => by
            rcases Nat.lt_or_ge i j with h | h
            · exact hsm.out i h
            · obtain rfl : i = j := by omega
              rw [HX.out]; exact hN
          clear ho2 hb2
          go_wp2_with fail
          go_roundw
          case rel => exact ⟨j + 1, T + (2 + N), A2, c2, by omega, by go_num, rfl, by omega, hO2.out, hsm2, hB2.out⟩
          case measure => simp [intOf]; omega
        · go_wp2_with fail
          go_ret
          exact ⟨rfl, hB.out⟩
      · obtain rfl : len = j := by omega
        clear hlt hj
        have hO := hide2 ho
        have hB := hide2 hb
        clear ho hb
        go_wp2_with fail
        refine (new_any hO.out.len hO.out.cap_le (by omega) hO.out.read).mono ?_
        rintro e w1 ⟨r, rfl, hcur, hb1, hr1⟩
        have hBr : w.heap.size ≤ r := Nat.le_trans hB.out.size hr1
        have hTT : Hid ((catL X len).length = T) := hO.out.len
        have hB1 := hide2 (hB.out.trans (hb1.mono hB.out.size))
        have HCur := hide2 hcur
        clear hb1 hcur hr1 hB hO hand
        go_wp2_with fail
        go_loopw [10] (fun i wr => ∃ (j P : Nat), j ≤ len ∧ i = .int .i64 (j : Int) ∧ Hid ((catL X j).length = P) ∧ P ≤ T ∧ Cur wr r 57 A' c' T P (catL X len) ∧ Below w.heap.size w wr) (fun i _ => len - (intOf i).toNat)
        case atStart => exact ⟨0, 0, Nat.zero_le _, rfl, rfl, Nat.zero_le _, HCur.out, hB1.out⟩
        case round =>
          obtain ⟨j, P, hj, rfl, hP, hPT, hcur, hb⟩ := hrel
          have HC2 := hide2 hcur
          have HB2 := hide2 hb
          clear hcur hb
          by_cases hlt : j < len
          · rcases hst with h0 | ⟨b, o, rfl, hbB, hcs⟩
            · omega
            obtain ⟨An, N, C, hcell, hXN, hN47, hrd⟩ := hcs j hlt
            have HX := hide2 hXN
            have HR := hide2 hrd
            have hN3 : N ≤ 300 := by rw [← hXN]; exact hsm.out j hlt
            have HA := hide2 (catL_at X j len P N hlt hP.out hXN hN3)
            have hQT : P + 2 + N ≤ T := by have := HA.out.2.2; rw [hTT.out] at this; exact this
            have hF : ∀ V, Below w.heap.size w V → V.cell? ⟨b, o + j, none⟩ = some (.slice An N C) := fun V hV => (hV.cell (p := ⟨b, o + j, none⟩) hbB).trans hcell
            clear hcs hcell hXN hrd
            go_wp2_with fail
            refine (rleft_any HC2.out).mono ?_
            rintro e V1 ⟨rfl, hx1⟩
            have HC3 := hide2 (HC2.out.below hx1)
            have HB3 := hide2 (HB2.out.trans (hx1.mono HB2.out.size))
            have hbV1 : Below w.heap.size w V1 := HB3.out
            clear hx1
            go_wp2_with fail
            by_cases hNz : (N : Int) ≤ z
            · refine (list_val HC3.out z (by omega) N HA.out.1 hNz (by omega) (X j) HA.out.2.1 (P + 2 + N) rfl).mono ?_
              rintro e V2 ⟨Av, cv, rfl, hov, hc4, hg4⟩
              have HC4 := hide2 hc4
              have HB4 := hide2 (belowMore HB3.out (Nat.le_refl _) hBr hg4)
              have HV4 := hide2 hov
              have hbV2 : Below w.heap.size w V2 := HB4.out
              clear hov hc4 hg4
              go_wp2_with fail
              obtain ⟨Q, hQ⟩ : ∃ Q, Q = P + 2 + N := ⟨_, rfl⟩
              have HCq : Hid (Cur V2 r 57 A' c' T Q (catL X len)) := hQ ▸ HC4.out
              have HQ : Hid ((catL X (j + 1)).length = Q) := by
                show _ = _
                rw [catL, List.length_append, hP.out, length_listB (X j) N HX.out hN3, hQ]
                omega
              have hTn : T ≤ 6040 := by omega
              have e1 : IntKind.i64.wrap ((T : Int) - (P : Int) - 2) = (T : Int) - (P : Int) - 2 := IntWalk.i64_in _ ⟨by omega, by omega⟩
              have e2 : IntKind.i64.wrap ((T : Int) - (P : Int) - 2 - (N : Int)) = (T : Int) - (Q : Int) := by
                have h1 : (T : Int) - (P : Int) - 2 - (N : Int) = (T : Int) - (Q : Int) := by omega
                rw [h1]; exact IntWalk.i64_in _ ⟨by omega, by omega⟩
              have hji : (j : Int) < (len : Int) := by omega
              have hQT2 : Q ≤ T := by omega
              clear hQ
              have hcv1 : ∀ W, Since V2 W → (convert 22 9 (.slice Av N cv)).run Try.prog W = .ok (.string ⟨(X j).toArray⟩) W := fun W hW => run_string_rd (HV4.out.read.up hW) _ _ Try.underlying22 Try.underlying5 Try.underlying9 N cv HX.out
              have hcv2 : ∀ W, Since V2 W → (convert 22 9 (.slice An N C)).run Try.prog W = .ok (.string ⟨(X j).toArray⟩) W := fun W hW => run_string_rd (HR.out.up (HB4.out.trans (Below.mono hW HB4.out.size))) _ _ Try.underlying22 Try.underlying5 Try.underlying9 N C HX.out
              have hF2 : ∀ W, Since V2 W → W.cell? ⟨b, o + j, none⟩ = some (.slice An N C) := fun W hW => hF W (HB4.out.trans (Below.mono hW HB4.out.size))
              refine wp_region_since (by kernel_rfl) ?_
              have hS : Since V2 (World.drew V2) := (Below.refl _ _).drew
              refine wpAnyH_take (i := 0) (oi := ⟨some 81, _, _, _, _, _⟩) (v := ?_) rfl (by kernel_rfl) (by kernel_rfl) (by kernel_rfl) (fun _ _ _ h => h) (Or.inl ⟨by rfl, ?_⟩) hS ?_
              rotate_left
              · intro W hW; go_simp; with_reducible rfl
              try simp only [Act.put, List.setIfInBounds_toArray, List.set_cons_zero, List.set_cons_succ]
              refine wpAnyH_take (i := 1) (oi := ⟨some 82, _, _, _, _, _⟩) (v := ?_) rfl (by kernel_rfl) (by kernel_rfl) (by kernel_rfl) (fun _ _ _ h => h) (Or.inl ⟨by rfl, ?_⟩) hS ?_
              rotate_left
              · intro W hW; go_simp; with_reducible rfl
              try simp only [Act.put, List.setIfInBounds_toArray, List.set_cons_zero, List.set_cons_succ]
              refine wpAnyH_take (i := 2) (oi := ⟨some 83, _, _, _, _, _⟩) (v := ?_) rfl (by kernel_rfl) (by kernel_rfl) (by kernel_rfl) (fun _ _ _ h => h) (Or.inl ⟨by rfl, ?_⟩) hS ?_
              rotate_left
              · intro W hW; go_simp; with_reducible rfl
              try simp only [Act.put, List.setIfInBounds_toArray, List.set_cons_zero, List.set_cons_succ]
              refine wpAnyH_take (i := 3) (oi := ⟨some 84, _, _, _, _, _⟩) (v := ?_) rfl (by kernel_rfl) (by kernel_rfl) (by kernel_rfl) (fun _ _ _ h => h) (Or.inl ⟨by rfl, ?_⟩) hS ?_
              rotate_left
              · intro W hW; go_simp; with_reducible rfl
              try simp only [Act.put, List.setIfInBounds_toArray, List.set_cons_zero, List.set_cons_succ]
              refine wpAnyH_take (i := 4) (oi := ⟨some 85, _, _, _, _, _⟩) (v := ?_) rfl (by kernel_rfl) (by kernel_rfl) (by kernel_rfl) (fun _ _ _ h => h) (Or.inl ⟨by rfl, ?_⟩) hS ?_
              rotate_left
              · intro W hW; go_simp; with_reducible rfl
              try simp only [Act.put, List.setIfInBounds_toArray, List.set_cons_zero, List.set_cons_succ]
              refine wpAnyH_take (i := 5) (oi := ⟨some 86, _, _, _, _, _⟩) (v := ?_) rfl (by kernel_rfl) (by kernel_rfl) (by kernel_rfl) (fun _ _ _ h => h) (Or.inl ⟨by rfl, ?_⟩) hS ?_
              rotate_left
              · intro W hW; go_simp; with_reducible rfl
              try simp only [Act.put, List.setIfInBounds_toArray, List.set_cons_zero, List.set_cons_succ]
              refine wpAnyH_take (i := 6) (oi := ⟨some 87, _, _, _, _, _⟩) (v := ?_) rfl (by kernel_rfl) (by kernel_rfl) (by kernel_rfl) (fun _ _ _ h => h) (Or.inl ⟨by rfl, ?_⟩) hS ?_
              rotate_left
              · intro W hW; go_simp; with_reducible rfl
              try simp only [Act.put, List.setIfInBounds_toArray, List.set_cons_zero, List.set_cons_succ]
              refine wpAnyH_take (i := 7) (oi := ⟨some 88, _, _, _, _, _⟩) (v := ?_) rfl (by kernel_rfl) (by kernel_rfl) (by kernel_rfl) (fun _ _ _ h => h) (Or.inl ⟨by rfl, ?_⟩) hS ?_
              rotate_left
              · intro W hW; go_simp; with_reducible rfl
              try simp only [Act.put, List.setIfInBounds_toArray, List.set_cons_zero, List.set_cons_succ]
              refine wpAnyH_take (i := 8) (oi := ⟨some 89, _, _, _, _, _⟩) (v := ?_) rfl (by kernel_rfl) (by kernel_rfl) (by kernel_rfl) (fun _ _ _ h => h) (Or.inl ⟨by rfl, ?_⟩) hS ?_
              rotate_left
              · intro W hW; go_simp; with_reducible rfl
              try simp only [Act.put, List.setIfInBounds_toArray, List.set_cons_zero, List.set_cons_succ]
              refine wpAnyH_take (i := 9) (oi := ⟨some 90, _, _, _, _, _⟩) (v := ?_) rfl (by kernel_rfl) (by kernel_rfl) (by kernel_rfl) (fun _ _ _ h => h) (Or.inl ⟨by rfl, ?_⟩) hS ?_
              rotate_left
              · intro W hW; go_simp; with_reducible rfl
              try simp only [Act.put, List.setIfInBounds_toArray, List.set_cons_zero, List.set_cons_succ]
              refine wpAnyH_take (i := 10) (oi := ⟨some 91, _, _, _, _, _⟩) (v := ?_) rfl (by kernel_rfl) (by kernel_rfl) (by kernel_rfl) (fun _ _ _ h => h) (Or.inl ⟨by rfl, ?_⟩) hS ?_
              rotate_left
              · intro W hW; go_simp; with_reducible rfl
              try simp only [Act.put, List.setIfInBounds_toArray, List.set_cons_zero, List.set_cons_succ]
              refine wpAnyH_take (i := 11) (oi := ⟨some 92, _, _, _, _, _⟩) (v := ?_) rfl (by kernel_rfl) (by kernel_rfl) (by kernel_rfl) (fun _ _ _ h => h) (Or.inl ⟨by rfl, ?_⟩) hS ?_
              rotate_left
              · intro W hW; go_simp; with_reducible rfl
              try simp only [Act.put, List.setIfInBounds_toArray, List.set_cons_zero, List.set_cons_succ]
              refine wpAnyH_take (i := 12) (oi := ⟨some 93, _, _, _, _, _⟩) (v := ?_) rfl (by kernel_rfl) (by kernel_rfl) (by kernel_rfl) (fun _ _ _ h => h) (Or.inl ⟨by rfl, ?_⟩) hS ?_
              rotate_left
              · intro W hW; go_simp; with_reducible rfl
              try simp only [Act.put, List.setIfInBounds_toArray, List.set_cons_zero, List.set_cons_succ]
              refine wpAnyH_take (i := 13) (oi := ⟨some 94, _, _, _, _, _⟩) (v := ?_) rfl (by kernel_rfl) (by kernel_rfl) (by kernel_rfl) (fun _ _ _ h => h) (Or.inl ⟨by rfl, ?_⟩) hS ?_
              rotate_left
              · intro W hW; go_simp; with_reducible rfl
              try simp only [Act.put, List.setIfInBounds_toArray, List.set_cons_zero, List.set_cons_succ]
              refine wpAnyH_take (i := 15) (oi := ⟨some 96, _, _, _, _, _⟩) (v := ?_) rfl (by kernel_rfl) (by kernel_rfl) (by kernel_rfl) (fun _ _ _ h => h) (Or.inl ⟨by rfl, ?_⟩) hS ?_
              rotate_left
              · intro W hW; go_simp; with_reducible rfl
              try simp only [Act.put, List.setIfInBounds_toArray, List.set_cons_zero, List.set_cons_succ]
              refine wpAnyH_take (i := 16) (oi := ⟨some 97, _, _, _, _, _⟩) (v := ?_) rfl (by kernel_rfl) (by kernel_rfl) (by kernel_rfl) (fun _ _ _ h => h) (Or.inl ⟨by rfl, ?_⟩) hS ?_
              rotate_left
              · intro W hW; go_simp; with_reducible rfl
              try simp only [Act.put, List.setIfInBounds_toArray, List.set_cons_zero, List.set_cons_succ]
              refine wpAnyH_take (i := 17) (oi := ⟨some 98, _, _, _, _, _⟩) (v := ?_) rfl (by kernel_rfl) (by kernel_rfl) (by kernel_rfl) (fun _ _ _ h => h) (Or.inl ⟨by rfl, ?_⟩) hS ?_
              rotate_left
              · intro W hW; go_simp; with_reducible rfl
              try simp only [Act.put, List.setIfInBounds_toArray, List.set_cons_zero, List.set_cons_succ]
              refine wpAnyH_take (i := 18) (oi := ⟨some 99, _, _, _, _, _⟩) (v := ?_) rfl (by kernel_rfl) (by kernel_rfl) (by kernel_rfl) (fun _ _ _ h => h) (Or.inl ⟨by rfl, ?_⟩) hS ?_
              rotate_left
              · intro W hW; go_simp; with_reducible rfl
              try simp only [Act.put, List.setIfInBounds_toArray, List.set_cons_zero, List.set_cons_succ]
              refine wpAnyH_take (i := 19) (oi := ⟨some 100, _, _, _, _, _⟩) (v := ?_) rfl (by kernel_rfl) (by kernel_rfl) (by kernel_rfl) (fun _ _ _ h => h) (Or.inl ⟨by rfl, ?_⟩) hS ?_
              rotate_left
              · intro W hW; go_simp; with_reducible rfl
              try simp only [Act.put, List.setIfInBounds_toArray, List.set_cons_zero, List.set_cons_succ]
              refine wpAnyH_take (i := 20) (oi := ⟨some 101, _, _, _, _, _⟩) (v := ?_) rfl (by kernel_rfl) (by kernel_rfl) (by kernel_rfl) (fun _ _ _ h => h) (Or.inl ⟨by rfl, ?_⟩) hS ?_
              rotate_left
              · intro W hW; go_simp; with_reducible rfl
              try simp only [Act.put, List.setIfInBounds_toArray, List.set_cons_zero, List.set_cons_succ]
              refine wpAnyH_take (i := 21) (oi := ⟨some 102, _, _, _, _, _⟩) (v := ?_) rfl (by kernel_rfl) (by kernel_rfl) (by kernel_rfl) (fun _ _ _ h => h) (Or.inl ⟨by rfl, ?_⟩) hS ?_
              rotate_left
              · intro W hW; go_simp; with_reducible rfl
              try simp only [Act.put, List.setIfInBounds_toArray, List.set_cons_zero, List.set_cons_succ]
              refine wpAnyH_take (i := 22) (oi := ⟨some 103, _, _, _, _, _⟩) (v := ?_) rfl (by kernel_rfl) (by kernel_rfl) (by kernel_rfl) (fun _ _ _ h => h) (Or.inl ⟨by rfl, ?_⟩) hS ?_
              rotate_left
              · intro W hW; go_simp; with_reducible rfl
              try simp only [Act.put, List.setIfInBounds_toArray, List.set_cons_zero, List.set_cons_succ]
              -- operation 14: a call
              refine wpAnyH_ready (rs := [14]) (by kernel_rfl) (by simp) ?_
              refine AllReadyH.cons (o := ⟨some 95, _, _, _, _, _⟩) rfl (fun Kr hKr => ?_) AllReadyH.nil
              go_simp
              refine (rleft_any (show Cur V2.drew r 57 A' c' T Q (catL X len) from HCq.out.drewN 1)).mono ?_
              rintro e U1 ⟨rfl, hu1⟩
              show Kr _ _
              refine hKr.out _ _ ?_ (fun _ => ?_)
              · exact (since_trans hS hu1)
              clear hKr Kr
              replace hS : Since V2 U1 := (since_trans hS hu1)
              try simp only [Act.put, List.setIfInBounds_toArray, List.set_cons_zero, List.set_cons_succ]
              refine wpAnyH_take (i := 23) (oi := ⟨some 104, _, _, _, _, _⟩) (v := ?_) rfl (by kernel_rfl) (by kernel_rfl) (by kernel_rfl) (fun _ _ _ h => h) (Or.inl ⟨by rfl, ?_⟩) hS ?_
              rotate_left
              · intro W hW; go_simp; with_reducible rfl
              try simp only [Act.put, List.setIfInBounds_toArray, List.set_cons_zero, List.set_cons_succ]
              refine wpAnyH_take (i := 24) (oi := ⟨some 105, _, _, _, _, _⟩) (v := ?_) rfl (by kernel_rfl) (by kernel_rfl) (by kernel_rfl) (fun _ _ _ h => h) (Or.inl ⟨by rfl, ?_⟩) hS ?_
              rotate_left
              · intro W hW; go_simp; with_reducible rfl
              try simp only [Act.put, List.setIfInBounds_toArray, List.set_cons_zero, List.set_cons_succ]
              refine wpAnyH_done (by kernel_rfl) ?_ _
              clear e1 e2 hcv1 hcv2 hF2 hF
              go_wp2_with fail
              go_roundw
              case rel => exact ⟨j + 1, Q, by omega, by go_num, HQ.out, hQT2, HCq.out.below hS, HB4.out.trans (Below.mono hS HB4.out.size)⟩
              case measure => simp [intOf]; omega
            · refine (rlist_most HC3.out z (by omega) (by rw [HA.out.1]; omega)).mono ?_
              rintro e V2 ⟨rfl, hx2⟩
              have HC4 := hide2 (HC3.out.below hx2)
              have HB4 := hide2 (HB3.out.trans (hx2.mono HB3.out.size))
              have hbV2 : Below w.heap.size w V2 := HB4.out
              clear hx2
              go_wp2_with fail
              refine (rleft_any HC4.out).mono ?_
              rintro e V3 ⟨rfl, hx3⟩
              have HC5 := hide2 (HC4.out.below hx3)
              have HB5 := hide2 (HB4.out.trans (hx3.mono HB4.out.size))
              have hbV3 : Below w.heap.size w V3 := HB5.out
              clear hx3
              go_wp2_with fail
              refine (list_val HC5.out N (by omega) N HA.out.1 (by omega) (by omega) (X j) HA.out.2.1 (P + 2 + N) rfl).mono ?_
              rintro e V4 ⟨Av, cv, rfl, hov, hc4, hg4⟩
              have HC6 := hide2 hc4
              have HB6 := hide2 (belowMore HB5.out (Nat.le_refl _) hBr hg4)
              have HV6 := hide2 hov
              have hbV4 : Below w.heap.size w V4 := HB6.out
              clear hov hc4 hg4
              go_wp2_with fail
              obtain ⟨Q, hQ⟩ : ∃ Q, Q = P + 2 + N := ⟨_, rfl⟩
              have HCq : Hid (Cur V4 r 57 A' c' T Q (catL X len)) := hQ ▸ HC6.out
              have HQ : Hid ((catL X (j + 1)).length = Q) := by
                show _ = _
                rw [catL, List.length_append, hP.out, length_listB (X j) N HX.out hN3, hQ]
                omega
              have hTn : T ≤ 6040 := by omega
              have e1 : IntKind.i64.wrap ((T : Int) - (P : Int) - 2) = (T : Int) - (P : Int) - 2 := IntWalk.i64_in _ ⟨by omega, by omega⟩
              have e2 : IntKind.i64.wrap ((T : Int) - (P : Int) - 2 - (N : Int)) = (T : Int) - (Q : Int) := by
                have h1 : (T : Int) - (P : Int) - 2 - (N : Int) = (T : Int) - (Q : Int) := by omega
                rw [h1]; exact IntWalk.i64_in _ ⟨by omega, by omega⟩
              have hji : (j : Int) < (len : Int) := by omega
              have hQT2 : Q ≤ T := by omega
              clear hQ
              have hcv1 : ∀ W, Since V4 W → (convert 22 9 (.slice Av N cv)).run Try.prog W = .ok (.string ⟨(X j).toArray⟩) W := fun W hW => run_string_rd (HV6.out.read.up hW) _ _ Try.underlying22 Try.underlying5 Try.underlying9 N cv HX.out
              have hcv2 : ∀ W, Since V4 W → (convert 22 9 (.slice An N C)).run Try.prog W = .ok (.string ⟨(X j).toArray⟩) W := fun W hW => run_string_rd (HR.out.up (HB6.out.trans (Below.mono hW HB6.out.size))) _ _ Try.underlying22 Try.underlying5 Try.underlying9 N C HX.out
              have hF2 : ∀ W, Since V4 W → W.cell? ⟨b, o + j, none⟩ = some (.slice An N C) := fun W hW => hF W (HB6.out.trans (Below.mono hW HB6.out.size))
              refine wp_region_since (by kernel_rfl) ?_
              have hS : Since V4 (World.drew V4) := (Below.refl _ _).drew
              refine wpAnyH_take (i := 0) (oi := ⟨some 81, _, _, _, _, _⟩) (v := ?_) rfl (by kernel_rfl) (by kernel_rfl) (by kernel_rfl) (fun _ _ _ h => h) (Or.inl ⟨by rfl, ?_⟩) hS ?_
              rotate_left
              · intro W hW; go_simp; with_reducible rfl
              try simp only [Act.put, List.setIfInBounds_toArray, List.set_cons_zero, List.set_cons_succ]
              refine wpAnyH_take (i := 1) (oi := ⟨some 82, _, _, _, _, _⟩) (v := ?_) rfl (by kernel_rfl) (by kernel_rfl) (by kernel_rfl) (fun _ _ _ h => h) (Or.inl ⟨by rfl, ?_⟩) hS ?_
              rotate_left
              · intro W hW; go_simp; with_reducible rfl
              try simp only [Act.put, List.setIfInBounds_toArray, List.set_cons_zero, List.set_cons_succ]
              refine wpAnyH_take (i := 2) (oi := ⟨some 83, _, _, _, _, _⟩) (v := ?_) rfl (by kernel_rfl) (by kernel_rfl) (by kernel_rfl) (fun _ _ _ h => h) (Or.inl ⟨by rfl, ?_⟩) hS ?_
              rotate_left
              · intro W hW; go_simp; with_reducible rfl
              try simp only [Act.put, List.setIfInBounds_toArray, List.set_cons_zero, List.set_cons_succ]
              refine wpAnyH_take (i := 3) (oi := ⟨some 84, _, _, _, _, _⟩) (v := ?_) rfl (by kernel_rfl) (by kernel_rfl) (by kernel_rfl) (fun _ _ _ h => h) (Or.inl ⟨by rfl, ?_⟩) hS ?_
              rotate_left
              · intro W hW; go_simp; with_reducible rfl
              try simp only [Act.put, List.setIfInBounds_toArray, List.set_cons_zero, List.set_cons_succ]
              refine wpAnyH_take (i := 4) (oi := ⟨some 85, _, _, _, _, _⟩) (v := ?_) rfl (by kernel_rfl) (by kernel_rfl) (by kernel_rfl) (fun _ _ _ h => h) (Or.inl ⟨by rfl, ?_⟩) hS ?_
              rotate_left
              · intro W hW; go_simp; with_reducible rfl
              try simp only [Act.put, List.setIfInBounds_toArray, List.set_cons_zero, List.set_cons_succ]
              refine wpAnyH_take (i := 5) (oi := ⟨some 86, _, _, _, _, _⟩) (v := ?_) rfl (by kernel_rfl) (by kernel_rfl) (by kernel_rfl) (fun _ _ _ h => h) (Or.inl ⟨by rfl, ?_⟩) hS ?_
              rotate_left
              · intro W hW; go_simp; with_reducible rfl
              try simp only [Act.put, List.setIfInBounds_toArray, List.set_cons_zero, List.set_cons_succ]
              refine wpAnyH_take (i := 6) (oi := ⟨some 87, _, _, _, _, _⟩) (v := ?_) rfl (by kernel_rfl) (by kernel_rfl) (by kernel_rfl) (fun _ _ _ h => h) (Or.inl ⟨by rfl, ?_⟩) hS ?_
              rotate_left
              · intro W hW; go_simp; with_reducible rfl
              try simp only [Act.put, List.setIfInBounds_toArray, List.set_cons_zero, List.set_cons_succ]
              refine wpAnyH_take (i := 7) (oi := ⟨some 88, _, _, _, _, _⟩) (v := ?_) rfl (by kernel_rfl) (by kernel_rfl) (by kernel_rfl) (fun _ _ _ h => h) (Or.inl ⟨by rfl, ?_⟩) hS ?_
              rotate_left
              · intro W hW; go_simp; with_reducible rfl
              try simp only [Act.put, List.setIfInBounds_toArray, List.set_cons_zero, List.set_cons_succ]
              refine wpAnyH_take (i := 8) (oi := ⟨some 89, _, _, _, _, _⟩) (v := ?_) rfl (by kernel_rfl) (by kernel_rfl) (by kernel_rfl) (fun _ _ _ h => h) (Or.inl ⟨by rfl, ?_⟩) hS ?_
              rotate_left
              · intro W hW; go_simp; with_reducible rfl
              try simp only [Act.put, List.setIfInBounds_toArray, List.set_cons_zero, List.set_cons_succ]
              refine wpAnyH_take (i := 9) (oi := ⟨some 90, _, _, _, _, _⟩) (v := ?_) rfl (by kernel_rfl) (by kernel_rfl) (by kernel_rfl) (fun _ _ _ h => h) (Or.inl ⟨by rfl, ?_⟩) hS ?_
              rotate_left
              · intro W hW; go_simp; with_reducible rfl
              try simp only [Act.put, List.setIfInBounds_toArray, List.set_cons_zero, List.set_cons_succ]
              refine wpAnyH_take (i := 10) (oi := ⟨some 91, _, _, _, _, _⟩) (v := ?_) rfl (by kernel_rfl) (by kernel_rfl) (by kernel_rfl) (fun _ _ _ h => h) (Or.inl ⟨by rfl, ?_⟩) hS ?_
              rotate_left
              · intro W hW; go_simp; with_reducible rfl
              try simp only [Act.put, List.setIfInBounds_toArray, List.set_cons_zero, List.set_cons_succ]
              refine wpAnyH_take (i := 11) (oi := ⟨some 92, _, _, _, _, _⟩) (v := ?_) rfl (by kernel_rfl) (by kernel_rfl) (by kernel_rfl) (fun _ _ _ h => h) (Or.inl ⟨by rfl, ?_⟩) hS ?_
              rotate_left
              · intro W hW; go_simp; with_reducible rfl
              try simp only [Act.put, List.setIfInBounds_toArray, List.set_cons_zero, List.set_cons_succ]
              refine wpAnyH_take (i := 12) (oi := ⟨some 93, _, _, _, _, _⟩) (v := ?_) rfl (by kernel_rfl) (by kernel_rfl) (by kernel_rfl) (fun _ _ _ h => h) (Or.inl ⟨by rfl, ?_⟩) hS ?_
              rotate_left
              · intro W hW; go_simp; with_reducible rfl
              try simp only [Act.put, List.setIfInBounds_toArray, List.set_cons_zero, List.set_cons_succ]
              refine wpAnyH_take (i := 13) (oi := ⟨some 94, _, _, _, _, _⟩) (v := ?_) rfl (by kernel_rfl) (by kernel_rfl) (by kernel_rfl) (fun _ _ _ h => h) (Or.inl ⟨by rfl, ?_⟩) hS ?_
              rotate_left
              · intro W hW; go_simp; with_reducible rfl
              try simp only [Act.put, List.setIfInBounds_toArray, List.set_cons_zero, List.set_cons_succ]
              refine wpAnyH_take (i := 15) (oi := ⟨some 96, _, _, _, _, _⟩) (v := ?_) rfl (by kernel_rfl) (by kernel_rfl) (by kernel_rfl) (fun _ _ _ h => h) (Or.inl ⟨by rfl, ?_⟩) hS ?_
              rotate_left
              · intro W hW; go_simp; with_reducible rfl
              try simp only [Act.put, List.setIfInBounds_toArray, List.set_cons_zero, List.set_cons_succ]
              refine wpAnyH_take (i := 16) (oi := ⟨some 97, _, _, _, _, _⟩) (v := ?_) rfl (by kernel_rfl) (by kernel_rfl) (by kernel_rfl) (fun _ _ _ h => h) (Or.inl ⟨by rfl, ?_⟩) hS ?_
              rotate_left
              · intro W hW; go_simp; with_reducible rfl
              try simp only [Act.put, List.setIfInBounds_toArray, List.set_cons_zero, List.set_cons_succ]
              refine wpAnyH_take (i := 17) (oi := ⟨some 98, _, _, _, _, _⟩) (v := ?_) rfl (by kernel_rfl) (by kernel_rfl) (by kernel_rfl) (fun _ _ _ h => h) (Or.inl ⟨by rfl, ?_⟩) hS ?_
              rotate_left
              · intro W hW; go_simp; with_reducible rfl
              try simp only [Act.put, List.setIfInBounds_toArray, List.set_cons_zero, List.set_cons_succ]
              refine wpAnyH_take (i := 18) (oi := ⟨some 99, _, _, _, _, _⟩) (v := ?_) rfl (by kernel_rfl) (by kernel_rfl) (by kernel_rfl) (fun _ _ _ h => h) (Or.inl ⟨by rfl, ?_⟩) hS ?_
              rotate_left
              · intro W hW; go_simp; with_reducible rfl
              try simp only [Act.put, List.setIfInBounds_toArray, List.set_cons_zero, List.set_cons_succ]
              refine wpAnyH_take (i := 19) (oi := ⟨some 100, _, _, _, _, _⟩) (v := ?_) rfl (by kernel_rfl) (by kernel_rfl) (by kernel_rfl) (fun _ _ _ h => h) (Or.inl ⟨by rfl, ?_⟩) hS ?_
              rotate_left
              · intro W hW; go_simp; with_reducible rfl
              try simp only [Act.put, List.setIfInBounds_toArray, List.set_cons_zero, List.set_cons_succ]
              refine wpAnyH_take (i := 20) (oi := ⟨some 101, _, _, _, _, _⟩) (v := ?_) rfl (by kernel_rfl) (by kernel_rfl) (by kernel_rfl) (fun _ _ _ h => h) (Or.inl ⟨by rfl, ?_⟩) hS ?_
              rotate_left
              · intro W hW; go_simp; with_reducible rfl
              try simp only [Act.put, List.setIfInBounds_toArray, List.set_cons_zero, List.set_cons_succ]
              refine wpAnyH_take (i := 21) (oi := ⟨some 102, _, _, _, _, _⟩) (v := ?_) rfl (by kernel_rfl) (by kernel_rfl) (by kernel_rfl) (fun _ _ _ h => h) (Or.inl ⟨by rfl, ?_⟩) hS ?_
              rotate_left
              · intro W hW; go_simp; with_reducible rfl
              try simp only [Act.put, List.setIfInBounds_toArray, List.set_cons_zero, List.set_cons_succ]
              refine wpAnyH_take (i := 22) (oi := ⟨some 103, _, _, _, _, _⟩) (v := ?_) rfl (by kernel_rfl) (by kernel_rfl) (by kernel_rfl) (fun _ _ _ h => h) (Or.inl ⟨by rfl, ?_⟩) hS ?_
              rotate_left
              · intro W hW; go_simp; with_reducible rfl
              try simp only [Act.put, List.setIfInBounds_toArray, List.set_cons_zero, List.set_cons_succ]
              -- operation 14: a call
              refine wpAnyH_ready (rs := [14]) (by kernel_rfl) (by simp) ?_
              refine AllReadyH.cons (o := ⟨some 95, _, _, _, _, _⟩) rfl (fun Kr hKr => ?_) AllReadyH.nil
              go_simp
              refine (rleft_any (show Cur V4.drew r 57 A' c' T Q (catL X len) from HCq.out.drewN 1)).mono ?_
              rintro e U1 ⟨rfl, hu1⟩
              show Kr _ _
              refine hKr.out _ _ ?_ (fun _ => ?_)
              · exact (since_trans hS hu1)
              clear hKr Kr
              replace hS : Since V4 U1 := (since_trans hS hu1)
              try simp only [Act.put, List.setIfInBounds_toArray, List.set_cons_zero, List.set_cons_succ]
              refine wpAnyH_take (i := 23) (oi := ⟨some 104, _, _, _, _, _⟩) (v := ?_) rfl (by kernel_rfl) (by kernel_rfl) (by kernel_rfl) (fun _ _ _ h => h) (Or.inl ⟨by rfl, ?_⟩) hS ?_
              rotate_left
              · intro W hW; go_simp; with_reducible rfl
              try simp only [Act.put, List.setIfInBounds_toArray, List.set_cons_zero, List.set_cons_succ]
              refine wpAnyH_take (i := 24) (oi := ⟨some 105, _, _, _, _, _⟩) (v := ?_) rfl (by kernel_rfl) (by kernel_rfl) (by kernel_rfl) (fun _ _ _ h => h) (Or.inl ⟨by rfl, ?_⟩) hS ?_
              rotate_left
              · intro W hW; go_simp; with_reducible rfl
              try simp only [Act.put, List.setIfInBounds_toArray, List.set_cons_zero, List.set_cons_succ]
              refine wpAnyH_done (by kernel_rfl) ?_ _
              clear e1 e2 hcv1 hcv2 hF2 hF
              go_wp2_with fail
              go_roundw
              case rel => exact ⟨j + 1, Q, by omega, by go_num, HQ.out, hQT2, HCq.out.below hS, HB6.out.trans (Below.mono hS HB6.out.size)⟩
              case measure => simp [intOf]; omega
          · have hPT2 : P = T := by
              obtain rfl : j = len := by omega
              exact hP.out.symm.trans hTT.out
            subst hPT2
            go_wp2_with fail
            refine (rleft_any HC2.out).mono ?_
            rintro e V3 ⟨rfl, hb3⟩
            have HB3 := hide2 (HB2.out.trans (hb3.mono HB2.out.size))
            clear hb3
            go_wp2_with fail
            go_ret
            exact ⟨rfl, HB3.out⟩
  · go_enter Try.func8, Try.ntmps8
    go_wp2_with fail
    refine (awake_any w).mono ?_
    rintro e w0 ⟨rfl, hb0⟩
    go_wp2_with fail
    go_ret
    exact ⟨rfl, hb0⟩

end Go.Proofs.Ytgmnhaohbpclkaa
