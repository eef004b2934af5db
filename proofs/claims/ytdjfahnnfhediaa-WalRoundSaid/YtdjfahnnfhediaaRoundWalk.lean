/-
  WalRound: the walk: a log goes round.
-/
import Derived.Test.YtdjfahnnfhediaaRefusesWalk
import Derived.Test.YtdjfahnnfhediaaRound7
import Derived.Test.YtdjfahnnfhediaaTheirs
namespace Go.Proofs.Ytdjfahnnfhediaa
set_option maxRecDepth 100000
open Go.RowKit Crc Wm

/-- the places, as ints -/
def psV (i : Nat) : List Value := (List.range i).map fun (j : Nat) => Value.int .i64 (2 * (j : Int))
theorem psV_succ (i : Nat) : psV (i + 1) = psV i ++ [Value.int .i64 (2 * (i : Int))] := by
  unfold psV
  rw [List.range_succ, List.map_append]
  rfl
theorem psV_get (i j : Nat) (h : j < i) : (psV i)[j]? = some (Value.int .i64 (2 * (j : Int))) := by
  unfold psV
  rw [List.getElem?_map, List.getElem?_range h]
  rfl
def Ps (w : World) (B : Nat) (v : Value) (i : Nat) : Prop := w.ownsRow B 3 1 v i (psV i)
theorem Ps.turn {w w' : World} {B i : Nat} {v : Value} (h : Ps w B v i) {X : Nat → Prop} (ht : Turn X w w') (hX : ∀ k, X k → k < B) : Ps w' B v i := by
  refine ⟨h.1, ?_⟩
  rcases h.2 with h2 | ⟨g, c, cur, e, hg, hh, rest⟩
  · exact .inl h2
  · exact .inr ⟨g, c, cur, e, hg, (ht.block g (lt_of_block hh) (fun hx => by have := hX g hx; omega)).trans hh, rest⟩
theorem Ps.below {w w' : World} {B i : Nat} {v : Value} (h : Ps w B v i) (hb : Below w.heap.size w w') : Ps w' B v i :=
  h.turn (X := fun _ => False) ⟨hb.os, hb.tape, hb.output, hb.size, fun k hk _ => hb.block k hk⟩ (fun _ h => h.elim)
theorem Ps.form {w : World} {B i : Nat} {v : Value} (h : Ps w B v i) : ∃ A c, v = .slice A i c ∧ ∀ j, j < i → ∃ g, A = some ⟨g, 0, none⟩ ∧ g < w.heap.size ∧ w.cell? ⟨g, j, none⟩ = some (.int .i64 (2 * (j : Int))) := by
  rcases h.2 with ⟨rfl, hn⟩ | ⟨g, cap, cur, rfl, hg, _, hnc, _⟩
  · exact ⟨none, 0, by rw [hn], fun j hj => by omega⟩
  · refine ⟨_, cap, rfl, fun j hj => ⟨g, rfl, (World.ownsRow.lt h g rfl).2, ?_⟩⟩
    exact (World.ownsRow.cellAt h j (by omega)).trans (psV_get i j hj)

theorem Lw.grown {w W V : World} {q p L M B : Nat} {G : Lg} {D : Dv} (h : Lw w W q p L M G D) {row : Option Nat} (hg : W.grownBy V row) (hr : ∀ j, row = some j → B ≤ j) (hlt : ∀ k, LS q p L M k → k < B) (hwB : w.heap.size ≤ B) : Lw w V q p L M G D := by
  have ht : Turn (fun k => row = some k) W V := (Turn.refl _ _).grown hg (fun j hj => .inl hj)
  have hn : ∀ k, LS q p L M k → ¬ (row = some k) := fun k hk e => by have h1 := hlt k hk; have h2 := hr k e; omega
  exact ⟨h.log.turn ht (hn q (.inr rfl)), h.dev.turn ht (hn p (.inl (.inl rfl))) (hn L (.inl (.inr (.inl rfl)))) (hn M (.inl (.inr (.inr rfl)))), h.bel.trans (ht.below (fun k hk => Nat.le_trans hwB (hr k hk)) h.bel.size), h.lo, h.on⟩


theorem drop_in {F S H T E safe to_ : Int} (hs : (Rg.mk F S H T).Ok) (h : H ≤ to_ ∧ to_ ≤ T) : Lg.dropE ⟨⟨F, S, H, T⟩, E, safe, false⟩ to_ = 0 ∧ Lg.dropG ⟨⟨F, S, H, T⟩, E, safe, false⟩ to_ = ⟨⟨F, S, to_, T⟩, E, safe, false⟩ := by
  have e : Lg.dropE ⟨⟨F, S, H, T⟩, E, safe, false⟩ to_ = 0 := by
    unfold Lg.dropE
    rw [if_neg (by exact Bool.false_ne_true)]
    unfold Rg.dropE
    rw [Rg.sane_iff.2 hs, decide_eq_true h.1, decide_eq_true h.2]
    rfl
  exact ⟨e, by unfold Lg.dropG; rw [e, if_pos rfl]⟩

theorem Rnd.crash {k : Nat} {D : Dv} {fr i : Nat} (h : Rnd k D fr i) (f : Nat → Bool) : Rnd k (D.crash (kp 0 f)) fr i := by
  have hl : ∀ s, (D.crash (kp 0 f)).laid s = D.laid s := fun s => by
    rw [kp_zero]
    exact lay_none s _
  exact ⟨h.n16, fun _ => rfl, h.le, fun a h1 h2 => by rw [hl]; exact h.live a h1 h2, fun s => by rw [hl]; exact h.any s⟩

/-- an append of record i, by its numbers -/
theorem rd_step {k i fr : Nat} {safe : Int} {D : Dv} (on : (Lg.mk ⟨1, k, 2 * (fr : Int), 2 * (i : Int)⟩ 1 safe false).On D) (hf : D.Free) (hi : i ≤ 64) :
    (k < 2 * (i + 1 - fr) ∧ Lg.appE ⟨⟨1, k, 2 * (fr : Int), 2 * (i : Int)⟩, 1, safe, false⟩ D (rdB i) = 5 ∧ Lg.appG ⟨⟨1, k, 2 * (fr : Int), 2 * (i : Int)⟩, 1, safe, false⟩ D (rdB i) = ⟨⟨1, k, 2 * (fr : Int), 2 * (i : Int)⟩, 1, safe, false⟩ ∧ Lg.appD ⟨⟨1, k, 2 * (fr : Int), 2 * (i : Int)⟩, 1, safe, false⟩ D (rdB i) = D) ∨
    (2 * (i + 1 - fr) ≤ k ∧ Lg.appE ⟨⟨1, k, 2 * (fr : Int), 2 * (i : Int)⟩, 1, safe, false⟩ D (rdB i) = 0 ∧ Lg.appAt ⟨⟨1, k, 2 * (fr : Int), 2 * (i : Int)⟩, 1, safe, false⟩ D (rdB i) = 2 * (i : Int) ∧ Lg.appG ⟨⟨1, k, 2 * (fr : Int), 2 * (i : Int)⟩, 1, safe, false⟩ D (rdB i) = ⟨⟨1, k, 2 * (fr : Int), 2 * ((i + 1 : Nat) : Int)⟩, 1, safe, false⟩ ∧ (Lg.appD ⟨⟨1, k, 2 * (fr : Int), 2 * (i : Int)⟩, 1, safe, false⟩ D (rdB i)).Free ∧
      Lg.appD ⟨⟨1, k, 2 * (fr : Int), 2 * (i : Int)⟩, 1, safe, false⟩ D (rdB i) = putTo ⟨1, k, 0, 0⟩ (2 * (i : Int)) (cutAll 1 (2 * (i : Int)) (rdB i)) D 2) := by
  have hn := need_rd i
  have hht : 2 * (fr : Int) ≤ 2 * (i : Int) := on.ok.ht
  rcases Lg.step on hf (b := rdB i) (by rw [hn]; decide) (by omega) with ⟨h1, h2, h3, h4⟩ | ⟨h1, h0, h2, h3, h4, h5⟩
  · rw [hn] at h1
    exact .inl ⟨by omega, h2, h3, h4⟩
  · rw [hn] at h1 h4
    refine .inr ⟨by omega, h2, h3, ?_, h5, ?_⟩
    · rw [h4]
      congr 2
    · unfold Lg.appD
      rw [if_pos h0, hn]
      exact Lg.putTo_ring rfl rfl _ _ _ _

set_option maxHeartbeats 700000 in
theorem round_walk (n size : Int) (w : World) : Calls Try.prog 5 #[.int .i64 n, .int .i64 size] w fun e w' => e = .returned (.bool true) ∧ Below w.heap.size w w' := by
  obtain ⟨N, hN, hNb⟩ := low n 63 6 (by decide) (by omega)
  obtain ⟨kk, hkk, hkb⟩ := low size 7 3 (by decide) (by omega)
  have hN' : N < 64 := hN
  have hkk' : kk < 8 := hkk
  obtain ⟨k, hk⟩ : ∃ k, 4 + kk = k := ⟨_, rfl⟩
  have hk4 : 4 + (kk : Int) = (k : Int) := by omega
  have hkr : 4 ≤ k ∧ k ≤ 11 := by omega
  obtain ⟨i0, hi, hz0, hz1, hz2⟩ := info_parts int_facts
  have HSL := Lib.hid (show _ ∧ _ ∧ _ ∧ _ from ⟨hi, hz0, hz1, hz2⟩)
  clear hi hz0 hz1 hz2 hN hkk hk
  go_enter Try.func5, Try.ntmps5
  go_wp2_with fail
  refine (awake_any w).mono ?_
  rintro e w0 ⟨rfl, hb⟩
  have HB := Lib.hid hb
  clear hb
  go_wp2_with fail
  refine (newdr (w := w) HB.out 16 (by omega) (by omega)).mono ?_
  rintro e w1 ⟨p, L, M, rfl, hd1, _, _, _, _⟩
  have HD1 := Lib.hid hd1
  clear hd1
  go_wp2_with fail
  refine (open_dr HD1.out 1 k 0 1 (fresh_open 16 (by omega))).mono ?_
  rintro e w2 ⟨q, rs, t, A1, n1, c1, rfl, _, _, _, _, hfd, hlw, _, _⟩
  obtain ⟨_, ht⟩ := found_none (fun _ => rfl) (fun _ => rfl) (by decide) (by omega) (by show (1 : Int) + k ≤ 16; omega) rfl (by decide) hfd
  subst ht
  have HL2 : Hid (Lw w w2 q p L M ⟨⟨1, k, 2 * ((0 : Nat) : Int), 2 * ((0 : Nat) : Int)⟩, 1, 2 * ((0 : Nat) : Int), false⟩ (.fresh 16)) := hlw
  have HLT := Lib.hid hlw.lt
  obtain ⟨B, hB⟩ : ∃ B, w2.heap.size = B := ⟨_, rfl⟩
  rw [hB] at HLT
  have HBB := Lib.hid hB
  have HWB : Hid (w.heap.size ≤ B) := by rw [← hB]; exact hlw.bel.size
  clear hfd hlw HD1 HB hB hk4 hkb
  go_wp2_with fail
  go_loopw [12, 13, 14] (fun s v u wr => ∃ (i fr : Nat) (A : Option Addr) (c : Nat) (D : Dv), u = .int .i64 (i : Int) ∧ s = .int .i64 (fr : Int) ∧ v = .slice A i c ∧ i ≤ N ∧ fr ≤ i ∧ Hid (Lw w wr q p L M ⟨⟨1, k, 2 * (fr : Int), 2 * (i : Int)⟩, 1, 2 * (i : Int), false⟩ D) ∧ Hid D.Free ∧ Hid (D.spent ≤ 3 * i) ∧ Hid (Rnd k D fr i) ∧ Hid (Ps wr B (.slice A i c) i) ∧ Hid (B ≤ wr.heap.size)) (fun _ _ u _ => N - (intOf u).toNat)
  case atStart => exact ⟨0, 0, none, 0, .fresh 16, rfl, rfl, rfl, Nat.zero_le _, Nat.le_refl _, HL2, Dv.free_fresh 16, Nat.le_refl _, Rnd.start k, Lib.hid (World.ownsRow_nil _ _ _ _), by rw [HBB.out]; exact Nat.le_refl _⟩
  case round =>
    obtain ⟨i, fr, A, c, D, rfl, rfl, rfl, hi, hfi, HL, HF, HS, HR, HP, HBW⟩ := hrel
    rcases Nat.lt_or_ge i N with hlt | hge
    · obtain ⟨cc, hcw, hcc⟩ := byte_of i (by omega)
      have HCW := Lib.hid hcw
      have HRB : Hid (someB 60 cc = rdB i) := by show _ = _; rw [hcc]; rfl
      have hdj : decide ((i : Int) < (N : Int)) = true := decide_eq_true (by omega)
      have hdj2 : decide (i < N) = true := decide_eq_true hlt
      have HST := Lib.hid (rd_step HL.out.on HF.out (by omega))
      clear hcw hcc
      go_wp2_with fail
      refine (some_at 60 (by omega) cc _ HCW.out _).mono ?_
      rintro e w3 ⟨A3, n3, rfl, ho3, hb3⟩
      have HL3 := Lib.hid (HL.out.below hb3)
      have HO3 : Hid (Lies w3 A3 n3 60 (rdB i)) := by rw [← HRB.out]; exact ho3.lies
      have HP3 := Lib.hid (HP.out.below hb3)
      have HB3 : Hid (B ≤ w3.heap.size) := Nat.le_trans HBW.out hb3.size
      clear ho3 hb3 HL HP
      go_wp2_with fail
      refine (HL3.out.append (Nat.le_trans HS.out (by omega)) A3 60 n3 (rdB i) HO3.out (by omega)).mono ?_
      rintro e w4 ⟨rfl, hl4, ht4⟩
      have HL4 := Lib.hid hl4
      have HP4 := Lib.hid (HP3.out.turn ht4 HLT.out)
      have HB4 : Hid (B ≤ w4.heap.size) := Nat.le_trans HB3.out ht4.size
      clear hl4 ht4 HL3 HO3 HP3 HB3
      rcases HST.out with ⟨h1, h2, h3, h4⟩ | ⟨h1, h2, h2', h3, h5, h6⟩
      focus
        have hl := HL4.out
        rw [h3, h4] at hl
        rw [h2]
        have HL5 := Lib.hid hl
        have hfr1 : fr + 1 ≤ i := by have := HR.out.le; omega
        obtain ⟨z, hz⟩ : ∃ z, fr + 1 = z := ⟨_, rfl⟩
        have hz4 : (fr : Int) + 1 = (z : Int) := by omega
        have hrd := HR.out.drop (by omega)
        rw [hz] at hrd hfr1
        have HRD := Lib.hid hrd
        have HZR : Hid (z = fr + 1) := hz.symm
        have HDI := Lib.hid (drop_in (E := 1) (safe := 2 * (i : Int)) HL5.out.on.ok (to_ := 2 * (z : Int)) (by show 2 * (fr : Int) ≤ _ ∧ _ ≤ 2 * (i : Int); omega))
        have hd5 : ((5 : Int) == 5) = true := rfl
        have hdf : decide ((fr : Int) < (i : Int)) = true := decide_eq_true (by omega)
        have hdf2 : decide (fr < i) = true := decide_eq_true (by omega)
        have HTL : Hid (Calls Try.prog 19 #[ptr q] w4 fun e V => e = .returned (.int .i64 (2 * (i : Int))) ∧ V = w4) := HL5.out.tail
        have HDR := Lib.hid (HL5.out.drop (2 * (z : Int)))
        obtain ⟨A', c', hv', hcells⟩ := HP4.out.form
        injection hv' with e1 e2 e3
        subst e1 e3
        have HCE := Lib.hid hcells
        have HS5 := Lib.hid HS.out
        clear hl h1 h2 h3 h4 HST HL4 hcells hrd hz
        generalize Lg.appAt ⟨⟨1, k, 2 * (fr : Int), 2 * (i : Int)⟩, 1, 2 * (i : Int), false⟩ D (rdB i) = ap
        by_cases hzi : z < i
        focus
          obtain ⟨g, hA, _, kc⟩ := HCE.out z hzi
          subst hA
          have hdz : decide ((z : Int) < (i : Int)) = true := decide_eq_true (by omega)
          have hdz2 : decide (z < i) = true := decide_eq_true hzi
          have hzi2 : (z : Int) < (i : Int) := by omega
          go_wp2_with fail
          refine HTL.out.mono ?_
          rintro e w' ⟨rfl, hw⟩
          replace hw := hw.symm
          subst hw
          go_wp2_with fail
          refine HDR.out.mono ?_
          clear kc hdz hdz2 hzi2 hzi
        rotate_left
        focus
          have hdz : decide ((z : Int) < (i : Int)) = false := decide_eq_false (by omega)
          have hdz2 : decide (z < i) = false := decide_eq_false (by omega)
          go_wp2_with fail
          refine HTL.out.mono ?_
          rintro e w' ⟨rfl, hw⟩
          replace hw := hw.symm
          subst hw
          have HDR2 : Hid (Calls Try.prog 20 #[ptr q, .int .i64 (2 * (i : Int))] w4 fun e V => e = .returned (.int .i64 (Lg.dropE ⟨⟨1, k, 2 * (fr : Int), 2 * (i : Int)⟩, 1, 2 * (i : Int), false⟩ (2 * (z : Int)))) ∧ Lw w V q p L M (Lg.dropG ⟨⟨1, k, 2 * (fr : Int), 2 * (i : Int)⟩, 1, 2 * (i : Int), false⟩ (2 * (z : Int))) D ∧ Turn (LS q p L M) w4 V) := by have := HDR.out; rwa [show (2 * (z : Int)) = 2 * (i : Int) by omega] at this ⊢
          go_wp2_with fail
          refine HDR2.out.mono ?_
          clear hdz hdz2 hzi HDR2
        all_goals
          rintro e w5 ⟨rfl, hl5, ht5⟩
          rw [HDI.out.1]
          rw [HDI.out.2] at hl5
          have HL6 := Lib.hid hl5
          have HP6 := Lib.hid (HP4.out.turn ht5 HLT.out)
          have HB6 : Hid (B ≤ w5.heap.size) := Nat.le_trans HB4.out ht5.size
          have hd0 : ((0 : Int) != 0) = false := rfl
          clear hl5 ht5 HTL HDR HDI HL5 HCE HP4 hd5 hdf hdf2 hdj hdj2 hz4
          go_wp2_with fail
          refine (some_at 60 (by omega) cc _ HCW.out _).mono ?_
          rintro e w6 ⟨A8, n8, rfl, ho8, hb8⟩
          have HL8 := Lib.hid (HL6.out.below hb8)
          have HO8 : Hid (Lies w6 A8 n8 60 (rdB i)) := by rw [← HRB.out]; exact ho8.lies
          have HP8 := Lib.hid (HP6.out.below hb8)
          have HB8 : Hid (B ≤ w6.heap.size) := Nat.le_trans HB6.out hb8.size
          have HST2 := Lib.hid (rd_step HL8.out.on HF.out (by omega))
          clear ho8 hb8 HL6 HP6 HB6
          go_wp2_with fail
          refine (HL8.out.append (Nat.le_trans HS5.out (by omega)) A8 60 n8 (rdB i) HO8.out (by omega)).mono ?_
          rintro e w7 ⟨rfl, hl7, ht7⟩
          have hle := HR.out.le
          have hle2 := HRD.out.le
          have hzr := HZR.out
          rcases HST2.out with ⟨h1, _⟩ | ⟨h1, h2, h2', h3, h5, h6⟩
          · exfalso; omega
          rw [h2, h2']
          rw [h3] at hl7
          have HLz := Lib.hid hl7
          have HPz := Lib.hid (HP8.out.turn ht7 HLT.out)
          have HBz : Hid (B ≤ w7.heap.size) := Nat.le_trans HB8.out ht7.size
          have HFz := Lib.hid h5
          have HSz : Hid ((Lg.appD ⟨⟨1, k, 2 * (z : Int), 2 * (i : Int)⟩, 1, 2 * (i : Int), false⟩ D (rdB i)).spent ≤ 3 * i + 2) := by have g1 := Lg.appD_spent ⟨⟨1, k, 2 * (z : Int), 2 * (i : Int)⟩, 1, 2 * (i : Int), false⟩ D (rdB i); rw [need_rd] at g1; have g2 := HS.out; show _ ≤ _; omega
          have HRz : Hid (Rnd k (Lg.appD ⟨⟨1, k, 2 * (z : Int), 2 * (i : Int)⟩, 1, 2 * (i : Int), false⟩ D (rdB i)).flush z (i + 1)) := by rw [h6]; exact HRD.out.lay hkr HF.out (by omega) h1
          have hfz : z ≤ i + 1 := by omega
          clear hl7 ht7 h1 h2 h2' h3 h5 h6 HST2 HL8 HO8 HP8 HB8 HRD hle hle2 hfr1 hzr
          generalize Lg.appD ⟨⟨1, k, 2 * (z : Int), 2 * (i : Int)⟩, 1, 2 * (i : Int), false⟩ D (rdB i) = Dz at *
      rotate_right
      focus
        have hl := HL4.out
        rw [h3] at hl
        rw [h2, h2']
        have HLz := Lib.hid hl
        have HPz := Lib.hid HP4.out
        have HBz := Lib.hid HB4.out
        have HFz := Lib.hid h5
        have HSz : Hid ((Lg.appD ⟨⟨1, k, 2 * (fr : Int), 2 * (i : Int)⟩, 1, 2 * (i : Int), false⟩ D (rdB i)).spent ≤ 3 * i + 2) := by have g1 := Lg.appD_spent ⟨⟨1, k, 2 * (fr : Int), 2 * (i : Int)⟩, 1, 2 * (i : Int), false⟩ D (rdB i); rw [need_rd] at g1; have g2 := HS.out; show _ ≤ _; omega
        have HRz : Hid (Rnd k (Lg.appD ⟨⟨1, k, 2 * (fr : Int), 2 * (i : Int)⟩, 1, 2 * (i : Int), false⟩ D (rdB i)).flush fr (i + 1)) := by rw [h6]; exact HR.out.lay hkr HF.out (by omega) h1
        have hfz : fr ≤ i + 1 := by omega
        have hd05 : ((0 : Int) == 5) = false := rfl
        clear hl h1 h2 h2' h3 h5 h6 HST HL4 HP4 HB4
        generalize Lg.appD ⟨⟨1, k, 2 * (fr : Int), 2 * (i : Int)⟩, 1, 2 * (i : Int), false⟩ D (rdB i) = Dz at *
        obtain ⟨z, hz⟩ : ∃ z, z = fr := ⟨_, rfl⟩
        subst hz
        obtain ⟨w7, hw7⟩ : ∃ w7, w7 = w4 := ⟨_, rfl⟩
        subst hw7
        go_upto_region 21 with fail
      all_goals
        try go_upto_region 21 with fail
        obtain ⟨q1, q2, q3⟩ := Lg.for_free (G := ⟨⟨1, k, 2 * (z : Int), 2 * ((i + 1 : Nat) : Int)⟩, 1, 2 * (i : Int), false⟩) rfl HFz.out
        have hfo := HLz.out.force (Nat.le_trans HSz.out (by omega))
        rw [q1, q2, q3] at hfo
        have HFO : Hid (Calls Try.prog 15 #[ptr q] w7 fun e V => e = .returned (.int .i64 0) ∧ Lw w V q p L M ⟨⟨1, k, 2 * (z : Int), 2 * ((i + 1 : Nat) : Int)⟩, 1, 2 * ((i + 1 : Nat) : Int), false⟩ Dz.flush ∧ Turn (LS q p L M) w7 V) := hfo
        have HFF := Lib.hid HFz.out.flushed
        have HSF : Hid (Dz.flush.spent ≤ 3 * (i + 1)) := by have h1 := Dv.flush_spent (D := Dz); have h2 := HSz.out; show _ ≤ _; omega
        clear hfo q1 q2 q3 HFz HSz HLz
        generalize Dz.flush = DF at *
        have hd00 : ((0 : Int) != 0) = false := rfl
        go_wp2_with fail
        refine HFO.out.mono ?_
        rintro e w9 ⟨rfl, hl9, ht9⟩
        have HL9 := Lib.hid hl9
        have HP9 := Lib.hid (HPz.out.turn ht9 HLT.out)
        have HB9 : Hid (B ≤ w9.heap.size) := Nat.le_trans HBz.out ht9.size
        have HBN := Lib.hid (below_new w9 (.cells #[.int .i64 (2 * (i : Int))] 3))
        have HP10 := Lib.hid (HP9.out.below HBN.out)
        obtain ⟨hi', hz0, hz1, hz2⟩ := HSL.out
        clear hl9 ht9 HFO HPz HBz HP9
        go_wp2_with (at_builtin; go_loud (refine wpList_append_own _ rfl (.tmp 96) (.tmp 98) 22 rfl B 3 i0 (.int .i64 0) 1 8 Try.underlying22 hi' hz0 hz1 hz2 rfl (by decide) _ i (psV i) rfl HP10.out ⟨w9.heap.size, 0, none⟩ 1 1 [.int .i64 (2 * (i : Int))] rfl rfl (cell_one_new _ _ _) (ints_oneCell .i64 [(2 * (i : Int))]) (by unfold maxLen; omega) (by omega) (by have h1 := HB9.out; have h2 := HBN.out.size; omega) ?_; intro v10 w10 hown10 hg10 _; have HPN : Hid (Ps w10 B v10 (i + 1)) := (by show Ps _ _ _ _; unfold Ps; rw [psV_succ]; exact hown10); have HLN := Lib.hid ((HL9.out.below HBN.out).grown hg10 (fun j hj => (World.ownsRow.lt HP10.out j hj).1) HLT.out HWB.out); have HBM : Hid (B ≤ w10.heap.size) := (Nat.le_trans (Nat.le_trans HB9.out HBN.out.size) hg10.size); clear hown10 hg10; obtain ⟨A10, c10, hv10, _⟩ := HPN.out.form; subst hv10))
        exact ⟨⟨i + 1, z, A10, c10, DF, by go_num, rfl, rfl, by omega, hfz, HLN, HFF, HSF, HRz, HPN, HBM⟩, by simp [intOf]; omega⟩
    · have hiN : i = N := by omega
      have hdj : decide ((i : Int) < (N : Int)) = false := decide_eq_false (by omega)
      have hdj2 : decide (i < N) = false := decide_eq_false (by omega)
      have HHD : Hid (Calls Try.prog 21 #[ptr q] wr fun e V => e = .returned (.int .i64 (2 * (fr : Int))) ∧ V = wr) := HL.out.head
      have HCR := Lib.hid (crash_any HL.out.dev (Nat.le_trans HS.out (by omega)) (A := none) 0 (kn := 0) (f := fun _ => false) Bools.nil)
      have hrc := HR.out.crash (fun _ => false)
      have HOE := Lib.hid (free_open (D := D.crash (kp 0 fun _ => false)) rfl (F := 1) (S := (k : Int)) (H := 2 * (fr : Int)) (E := 2) (by have h : (D.crash (kp 0 fun _ => false)).n = 16 := hrc.n16; rw [h]; omega))
      have HFN := Lib.hid (fun (rs : List (Int × List UInt8)) (t : Int) (h : Fnd (ringL (D.crash (kp 0 fun _ => false)) ⟨1, k, 2 * (fr : Int), 2 * (fr : Int)⟩) (2 * (fr : Int)) 2 rs t) => hrc.found hkr rfl h)
      have HLL := Lib.hid HL.out
      have HND : Hid ((D.crash (kp 0 fun _ => false)).n = D.n) := rfl
      clear hrc HL HF HS HR hiN
      generalize D.crash (kp 0 fun _ => false) = DC at *
      go_wp2_with fail
      refine HHD.out.mono ?_
      rintro e w' ⟨rfl, hw⟩
      replace hw := hw.symm
      subst hw
      go_wp2_with fail
      refine HCR.out.mono ?_
      rintro e w5 ⟨rfl, hd5, ht5⟩
      have HL5 : Hid (Lw w w5 q p L M ⟨⟨1, k, 2 * (fr : Int), 2 * (i : Int)⟩, 1, 2 * (i : Int), false⟩ DC) := HLL.out.turn (HLL.out.log.turn ht5 (log_ne HLL.out.log HLL.out.dev)) hd5 (ht5.mono (fun _ h => .inl h)) (HLL.out.on.dev HND.out)
      have HP5 := Lib.hid (HP.out.turn ht5 (fun k hk => HLT.out k (.inl hk)))
      clear hd5 ht5 HCR HHD HLL HP hdj hdj2
      go_wp2_with fail
      refine (open_dr HL5.out.dr 1 k (2 * (fr : Int)) 2 HOE.out).mono ?_
      rintro e w6 ⟨q2, rs2, t2, A6, n2, c6, rfl, hn2, _, _, hr2, hfd2, hlw2, hb2, _⟩
      obtain ⟨e1, e2⟩ := HFN.out _ _ hfd2
      subst e2
      have hlen : rs2.length = i - fr := by rw [e1, length_recsAt, rdL_len]
      have HGT : Hid (∀ j : Nat, j < n2 → rs2[j]? = some (2 * (fr : Int) + 2 * (j : Int), rdB (fr + j))) := by
        intro j hj
        rw [e1]
        exact (two_each (rdL fr i) (2 * (fr : Int)) (fun b hb => by obtain ⟨j, _, rfl⟩ := List.mem_map.1 hb; exact need_rd _)).2 j _ (rdL_get fr i j (by omega))
      have HN2 := Lib.hid hn2
      have hn3 : n2 = i - fr := by rw [hn2, hlen]
      have hne1 : ((n2 : Int) != (i : Int) - (fr : Int)) = false := by simp; omega
      have hi62 : i ≤ 64 := by omega
      have HN3 := Lib.hid hn3
      have HG6 := Lib.hid hr2
      have HL6 := Lib.hid (HL5.out.below hb2)
      have HP6 := Lib.hid (HP5.out.below hb2)
      have HBE := Lib.hid hlw2.bel
      have HT2 : Hid (Calls Try.prog 19 #[ptr q2] w6 fun e V => e = .returned (.int .i64 (2 * (i : Int))) ∧ V = w6) := hlw2.tail
      have HT1 : Hid (Calls Try.prog 19 #[ptr q] w6 fun e V => e = .returned (.int .i64 (2 * (i : Int))) ∧ V = w6) := HL6.out.tail
      clear hn2 hr2 hfd2 hlw2 hb2 e1 hlen hn3 HFN HOE HL5 HP5
      go_wp2_with fail
      refine HT2.out.mono ?_
      rintro e w' ⟨rfl, hw⟩
      replace hw := hw.symm
      subst hw
      go_wp2_with fail
      refine HT1.out.mono ?_
      rintro e w' ⟨rfl, hw⟩
      replace hw := hw.symm
      subst hw
      go_wp2_with fail
      obtain ⟨A7, c7, hv7, hcl⟩ := HP6.out.form
      injection hv7 with e1 e2 e3
      subst e1 e3
      have HCL := Lib.hid hcl
      clear hcl hne1
      go_loopw [22] (fun u wq => ∃ j : Nat, u = .int .i64 (j : Int) ∧ j ≤ n2 ∧ Hid (Below w6.heap.size w6 wq)) (fun u _ => n2 - (intOf u).toNat)
      case atStart => exact ⟨0, rfl, Nat.zero_le _, Below.refl _ _⟩
      case round =>
        obtain ⟨j, rfl, hj, HBQ⟩ := hrel
        obtain ⟨wq, hwq⟩ : ∃ wq, wq = wr := ⟨_, rfl⟩
        subst hwq
        rcases Nat.lt_or_ge j n2 with hlt | hge
        · have hrj := HGT.out j hlt
          have hn3 := HN3.out
          rcases HG6.out with h0 | ⟨b, e, hb, hp⟩
          · rw [h0] at hrj; simp at hrj
          obtain ⟨k0, Ax, nx, cx, k1, hl, _⟩ := hp j _ hrj
          obtain ⟨z, hz⟩ : ∃ z, fr + j = z := ⟨_, rfl⟩
          rw [hz] at hl
          obtain ⟨g, hA, hgl, kc⟩ := HCL.out z (by omega)
          subst e hA
          obtain ⟨xx, hxx⟩ : ∃ xx, 2 * (z : Int) = xx := ⟨_, rfl⟩
          simp only at k0 hl
          rw [show 2 * (fr : Int) + 2 * (j : Int) = xx by omega] at k0
          rw [hxx] at kc
          have v0 : ∀ V, Since wq V → V.cell? ⟨b, j * 2, none⟩ = some (.int .i64 xx) := fun V hV => ((HBQ.out.trans (Below.mono hV HBQ.out.size)).cell (p := ⟨b, j * 2, none⟩) hb.2).trans k0
          have v1 : ∀ V, Since wq V → V.cell? ⟨b, j * 2 + 1, none⟩ = some (.slice Ax nx cx) := fun V hV => ((HBQ.out.trans (Below.mono hV HBQ.out.size)).cell (p := ⟨b, j * 2 + 1, none⟩) hb.2).trans k1
          have v2 : ∀ V, Since wq V → V.cell? ⟨g, z, none⟩ = some (.int .i64 xx) := fun V hV => ((HBQ.out.trans (Below.mono hV HBQ.out.size)).cell (p := ⟨g, z, none⟩) hgl).trans kc
          have w1 : ∀ V, Since wq V → (convert 35 9 (.slice Ax nx cx)).run Try.prog V = .ok (.string ⟨(rdB z).toArray⟩) V := fun V hV => (hl.up (HBQ.out.trans (Below.mono hV HBQ.out.size))).conv
          have hwz : IntKind.i64.wrap ((fr : Int) + (j : Int)) = (z : Int) := by rw [IntKind.wrap_i64]; omega
          have hdj : decide ((j : Int) < (n2 : Int)) = true := decide_eq_true (by omega)
          have hdj2 : decide (j < n2) = true := decide_eq_true hlt
          have hi2 : (j : Int) < (n2 : Int) := by omega
          have hi3 : (z : Int) < (i : Int) := by omega
          have hi4 : z < i := by omega
          obtain ⟨cc, hcw, hcc⟩ := byte_of z (by omega)
          have HCA := Lib.hid hcw
          have HCB : Hid ((z : Int) % 256 = (cc.toNat : Int)) := by show _ = _; omega
          have HCC : Hid (IntKind.u8.wrap (z : Int) = (cc.toNat : Int)) := by show _ = _; rw [wrap_u8]; omega
          have HRB : Hid (someB 60 cc = rdB z) := by show _ = _; rw [hcc]; rfl
          clear hp hrj k0 k1 hl hb kc hz hxx hcw hcc hgl hn3
          go_upto_region 32 with fail
          refine wp_region_since (by kernel_rfl) ?_
          have hS : Since wq (World.drew wq) := (Below.refl _ _).drew
          refine wpAnyH_take (i := 0) (oi := ⟨some 136, _, _, _, _, _⟩) (v := ?_) rfl (by kernel_rfl) (by kernel_rfl) (by kernel_rfl) (fun _ _ _ h => h) (Or.inl ⟨by rfl, ?_⟩) hS ?_
          rotate_left
          · intro W hW; go_simp; with_reducible rfl
          try simp only [Act.put, List.setIfInBounds_toArray, List.set_cons_zero, List.set_cons_succ]
          refine wpAnyH_take (i := 1) (oi := ⟨some 137, _, _, _, _, _⟩) (v := ?_) rfl (by kernel_rfl) (by kernel_rfl) (by kernel_rfl) (fun _ _ _ h => h) (Or.inl ⟨by rfl, ?_⟩) hS ?_
          rotate_left
          · intro W hW; go_simp; with_reducible rfl
          try simp only [Act.put, List.setIfInBounds_toArray, List.set_cons_zero, List.set_cons_succ]
          refine wpAnyH_take (i := 2) (oi := ⟨some 138, _, _, _, _, _⟩) (v := ?_) rfl (by kernel_rfl) (by kernel_rfl) (by kernel_rfl) (fun _ _ _ h => h) (Or.inl ⟨by rfl, ?_⟩) hS ?_
          rotate_left
          · intro W hW; go_simp; with_reducible rfl
          try simp only [Act.put, List.setIfInBounds_toArray, List.set_cons_zero, List.set_cons_succ]
          refine wpAnyH_take (i := 3) (oi := ⟨some 139, _, _, _, _, _⟩) (v := ?_) rfl (by kernel_rfl) (by kernel_rfl) (by kernel_rfl) (fun _ _ _ h => h) (Or.inl ⟨by rfl, ?_⟩) hS ?_
          rotate_left
          · intro W hW; go_simp; with_reducible rfl
          try simp only [Act.put, List.setIfInBounds_toArray, List.set_cons_zero, List.set_cons_succ]
          refine wpAnyH_take (i := 4) (oi := ⟨some 140, _, _, _, _, _⟩) (v := ?_) rfl (by kernel_rfl) (by kernel_rfl) (by kernel_rfl) (fun _ _ _ h => h) (Or.inl ⟨by rfl, ?_⟩) hS ?_
          rotate_left
          · intro W hW; go_simp; with_reducible rfl
          try simp only [Act.put, List.setIfInBounds_toArray, List.set_cons_zero, List.set_cons_succ]
          refine wpAnyH_take (i := 5) (oi := ⟨some 141, _, _, _, _, _⟩) (v := ?_) rfl (by kernel_rfl) (by kernel_rfl) (by kernel_rfl) (fun _ _ _ h => h) (Or.inl ⟨by rfl, ?_⟩) hS ?_
          rotate_left
          · intro W hW; go_simp; with_reducible rfl
          try simp only [Act.put, List.setIfInBounds_toArray, List.set_cons_zero, List.set_cons_succ]
          refine wpAnyH_take (i := 6) (oi := ⟨some 142, _, _, _, _, _⟩) (v := ?_) rfl (by kernel_rfl) (by kernel_rfl) (by kernel_rfl) (fun _ _ _ h => h) (Or.inl ⟨by rfl, ?_⟩) hS ?_
          rotate_left
          · intro W hW; go_simp; with_reducible rfl
          try simp only [Act.put, List.setIfInBounds_toArray, List.set_cons_zero, List.set_cons_succ]
          refine wpAnyH_take (i := 7) (oi := ⟨some 143, _, _, _, _, _⟩) (v := ?_) rfl (by kernel_rfl) (by kernel_rfl) (by kernel_rfl) (fun _ _ _ h => h) (Or.inl ⟨by rfl, ?_⟩) hS ?_
          rotate_left
          · intro W hW; go_simp; with_reducible rfl
          try simp only [Act.put, List.setIfInBounds_toArray, List.set_cons_zero, List.set_cons_succ]
          refine wpAnyH_take (i := 8) (oi := ⟨some 144, _, _, _, _, _⟩) (v := ?_) rfl (by kernel_rfl) (by kernel_rfl) (by kernel_rfl) (fun _ _ _ h => h) (Or.inl ⟨by rfl, ?_⟩) hS ?_
          rotate_left
          · intro W hW; go_simp; with_reducible rfl
          try simp only [Act.put, List.setIfInBounds_toArray, List.set_cons_zero, List.set_cons_succ]
          refine wpAnyH_take (i := 9) (oi := ⟨some 145, _, _, _, _, _⟩) (v := ?_) rfl (by kernel_rfl) (by kernel_rfl) (by kernel_rfl) (fun _ _ _ h => h) (Or.inl ⟨by rfl, ?_⟩) hS ?_
          rotate_left
          · intro W hW; go_simp; with_reducible rfl
          try simp only [Act.put, List.setIfInBounds_toArray, List.set_cons_zero, List.set_cons_succ]
          refine wpAnyH_take (i := 10) (oi := ⟨some 146, _, _, _, _, _⟩) (v := ?_) rfl (by kernel_rfl) (by kernel_rfl) (by kernel_rfl) (fun _ _ _ h => h) (Or.inl ⟨by rfl, ?_⟩) hS ?_
          rotate_left
          · intro W hW; go_simp; with_reducible rfl
          try simp only [Act.put, List.setIfInBounds_toArray, List.set_cons_zero, List.set_cons_succ]
          refine wpAnyH_take (i := 11) (oi := ⟨some 147, _, _, _, _, _⟩) (v := ?_) rfl (by kernel_rfl) (by kernel_rfl) (by kernel_rfl) (fun _ _ _ h => h) (Or.inl ⟨by rfl, ?_⟩) hS ?_
          rotate_left
          · intro W hW; go_simp; with_reducible rfl
          try simp only [Act.put, List.setIfInBounds_toArray, List.set_cons_zero, List.set_cons_succ]
          refine wpAnyH_take (i := 12) (oi := ⟨some 148, _, _, _, _, _⟩) (v := ?_) rfl (by kernel_rfl) (by kernel_rfl) (by kernel_rfl) (fun _ _ _ h => h) (Or.inl ⟨by rfl, ?_⟩) hS ?_
          rotate_left
          · intro W hW; go_simp; with_reducible rfl
          try simp only [Act.put, List.setIfInBounds_toArray, List.set_cons_zero, List.set_cons_succ]
          refine wpAnyH_take (i := 13) (oi := ⟨some 149, _, _, _, _, _⟩) (v := ?_) rfl (by kernel_rfl) (by kernel_rfl) (by kernel_rfl) (fun _ _ _ h => h) (Or.inl ⟨by rfl, ?_⟩) hS ?_
          rotate_left
          · intro W hW; go_simp; with_reducible rfl
          try simp only [Act.put, List.setIfInBounds_toArray, List.set_cons_zero, List.set_cons_succ]
          refine wpAnyH_take (i := 14) (oi := ⟨some 150, _, _, _, _, _⟩) (v := ?_) rfl (by kernel_rfl) (by kernel_rfl) (by kernel_rfl) (fun _ _ _ h => h) (Or.inl ⟨by rfl, ?_⟩) hS ?_
          rotate_left
          · intro W hW; go_simp; with_reducible rfl
          try simp only [Act.put, List.setIfInBounds_toArray, List.set_cons_zero, List.set_cons_succ]
          refine wpAnyH_take (i := 15) (oi := ⟨some 151, _, _, _, _, _⟩) (v := ?_) rfl (by kernel_rfl) (by kernel_rfl) (by kernel_rfl) (fun _ _ _ h => h) (Or.inl ⟨by rfl, ?_⟩) hS ?_
          rotate_left
          · intro W hW; go_simp; with_reducible rfl
          try simp only [Act.put, List.setIfInBounds_toArray, List.set_cons_zero, List.set_cons_succ]
          refine wpAnyH_take (i := 16) (oi := ⟨some 152, _, _, _, _, _⟩) (v := ?_) rfl (by kernel_rfl) (by kernel_rfl) (by kernel_rfl) (fun _ _ _ h => h) (Or.inl ⟨by rfl, ?_⟩) hS ?_
          rotate_left
          · intro W hW; go_simp; with_reducible rfl
          try simp only [Act.put, List.setIfInBounds_toArray, List.set_cons_zero, List.set_cons_succ]
          refine wpAnyH_take (i := 17) (oi := ⟨some 153, _, _, _, _, _⟩) (v := ?_) rfl (by kernel_rfl) (by kernel_rfl) (by kernel_rfl) (fun _ _ _ h => h) (Or.inl ⟨by rfl, ?_⟩) hS ?_
          rotate_left
          · intro W hW; go_simp; with_reducible rfl
          try simp only [Act.put, List.setIfInBounds_toArray, List.set_cons_zero, List.set_cons_succ]
          refine wpAnyH_take (i := 18) (oi := ⟨some 154, _, _, _, _, _⟩) (v := ?_) rfl (by kernel_rfl) (by kernel_rfl) (by kernel_rfl) (fun _ _ _ h => h) (Or.inl ⟨by rfl, ?_⟩) hS ?_
          rotate_left
          · intro W hW; go_simp; with_reducible rfl
          try simp only [Act.put, List.setIfInBounds_toArray, List.set_cons_zero, List.set_cons_succ]
          refine wpAnyH_take (i := 19) (oi := ⟨some 155, _, _, _, _, _⟩) (v := ?_) rfl (by kernel_rfl) (by kernel_rfl) (by kernel_rfl) (fun _ _ _ h => h) (Or.inl ⟨by rfl, ?_⟩) hS ?_
          rotate_left
          · intro W hW; go_simp; with_reducible rfl
          try simp only [Act.put, List.setIfInBounds_toArray, List.set_cons_zero, List.set_cons_succ]
          refine wpAnyH_take (i := 20) (oi := ⟨some 156, _, _, _, _, _⟩) (v := ?_) rfl (by kernel_rfl) (by kernel_rfl) (by kernel_rfl) (fun _ _ _ h => h) (Or.inl ⟨by rfl, ?_⟩) hS ?_
          rotate_left
          · intro W hW; go_simp; with_reducible rfl
          try simp only [Act.put, List.setIfInBounds_toArray, List.set_cons_zero, List.set_cons_succ]
          refine wpAnyH_take (i := 21) (oi := ⟨some 157, _, _, _, _, _⟩) (v := ?_) rfl (by kernel_rfl) (by kernel_rfl) (by kernel_rfl) (fun _ _ _ h => h) (Or.inl ⟨by rfl, ?_⟩) hS ?_
          rotate_left
          · intro W hW; go_simp; with_reducible rfl
          try simp only [Act.put, List.setIfInBounds_toArray, List.set_cons_zero, List.set_cons_succ]
          refine wpAnyH_take (i := 22) (oi := ⟨some 158, _, _, _, _, _⟩) (v := ?_) rfl (by kernel_rfl) (by kernel_rfl) (by kernel_rfl) (fun _ _ _ h => h) (Or.inl ⟨by rfl, ?_⟩) hS ?_
          rotate_left
          · intro W hW; go_simp; with_reducible rfl
          try simp only [Act.put, List.setIfInBounds_toArray, List.set_cons_zero, List.set_cons_succ]
          refine wpAnyH_ready (rs := [23]) (by kernel_rfl) (by simp) ?_
          refine AllReadyH.cons (o := ⟨some 159, _, _, _, _, _⟩) rfl (fun Kr hKr => ?_) AllReadyH.nil
          -- operation 23: a call
          go_simp
          refine (some_at 60 (by omega) cc _ (by first | exact HCA.out | exact HCB.out | exact HCC.out) _).mono ?_
          rintro e V1 ⟨A8, n8, rfl, ho8, hx8⟩
          rw [HRB.out] at ho8
          have HX8 := Lib.hid (since_trans hS hx8)
          have HO8 := Lib.hid ho8.lies
          show Kr _ _
          refine hKr.out _ _ ?_ (fun _ => ?_)
          · exact since_trans hS hx8
          clear hKr Kr
          refine wpAnyH_since (since_trans hS hx8) ?_
          clear hS
          have hS : Since V1 V1 := Below.refl _ _
          have w2 : ∀ V, Since V1 V → (convert 35 9 (.slice A8 60 n8)).run Try.prog V = .ok (.string ⟨(rdB z).toArray⟩) V := fun V hV => (HO8.out.up hV).conv
          try simp only [Act.put, List.setIfInBounds_toArray, List.set_cons_zero, List.set_cons_succ]
          refine wpAnyH_take (i := 24) (oi := ⟨some 160, _, _, _, _, _⟩) (v := ?_) rfl (by kernel_rfl) (by kernel_rfl) (by kernel_rfl) (fun _ _ _ h => h) (Or.inl ⟨by rfl, ?_⟩) hS ?_
          rotate_left
          · intro W hW; go_simp; with_reducible rfl
          try simp only [Act.put, List.setIfInBounds_toArray, List.set_cons_zero, List.set_cons_succ]
          refine wpAnyH_take (i := 25) (oi := ⟨some 161, _, _, _, _, _⟩) (v := ?_) rfl (by kernel_rfl) (by kernel_rfl) (by kernel_rfl) (fun _ _ _ h => h) (Or.inl ⟨by rfl, ?_⟩) hS ?_
          rotate_left
          · intro W hW; go_simp; with_reducible rfl
          try simp only [Act.put, List.setIfInBounds_toArray, List.set_cons_zero, List.set_cons_succ]
          refine wpAnyH_take (i := 26) (oi := ⟨some 162, _, _, _, _, _⟩) (v := ?_) rfl (by kernel_rfl) (by kernel_rfl) (by kernel_rfl) (fun _ _ _ h => h) (Or.inl ⟨by rfl, ?_⟩) hS ?_
          rotate_left
          · intro W hW; go_simp; with_reducible rfl
          try simp only [Act.put, List.setIfInBounds_toArray, List.set_cons_zero, List.set_cons_succ]
          refine wpAnyH_done (by kernel_rfl) ?_ _
          have HB2 : Hid (Below w6.heap.size w6 V1) := HBQ.out.trans (Below.mono HX8.out HBQ.out.size)
          clear hS v0 v1 v2 w1 w2
          go_wp2_with fail
          refine ⟨⟨j + 1, by go_num, by omega, HB2⟩, by simp [intOf]; omega⟩
        · have hjn : j = n2 := by omega
          have hdj : decide ((j : Int) < (n2 : Int)) = false := decide_eq_false (by omega)
          have hdj2 : decide (j < n2) = false := decide_eq_false (by omega)
          have HBF : Hid (Below w.heap.size w wq) := HBE.out.trans (HBQ.out.mono HBE.out.size)
          clear hjn
          go_wp2_with fail
          refine (append_nil wq _).mono ?_
          rintro e w' ⟨rfl, hw⟩
          replace hw := hw.symm
          subst hw
          go_wp2_with fail
          refine (force_nil wq).mono ?_
          rintro e w' ⟨rfl, hw⟩
          replace hw := hw.symm
          subst hw
          go_wp2_with fail
          refine (drop_nil wq _).mono ?_
          rintro e w' ⟨rfl, hw⟩
          replace hw := hw.symm
          subst hw
          go_wp2_with fail
          refine (lhead_nil wq).mono ?_
          rintro e w' ⟨rfl, hw⟩
          replace hw := hw.symm
          subst hw
          go_wp2_with fail
          refine (ltail_nil wq).mono ?_
          rintro e w' ⟨rfl, hw⟩
          replace hw := hw.symm
          subst hw
          go_wp2_with fail
          refine (lsafe_nil wq).mono ?_
          rintro e w' ⟨rfl, hw⟩
          replace hw := hw.symm
          subst hw
          go_wp2_with fail
          refine (lfree_nil wq).mono ?_
          rintro e w' ⟨rfl, hw⟩
          replace hw := hw.symm
          subst hw
          go_wp2_with fail
          go_ret
          exact ⟨rfl, HBF.out⟩

end Go.Proofs.Ytdjfahnnfhediaa
