/-
  DeviceKinds: the walk: behind a crash each sector is as it was flushed, or as it was written last behind that: never anything else.
-/
import Derived.Test.YtaidjnpbjoncoaaActs
namespace Go.Proofs.Ytaidjnpbjoncoaa
open Go.RowKit

/-- the last of j bytes; of none: 0 -/
def lastB (l : List UInt8) (j : Nat) (z : UInt8) : UInt8 := if j = 0 then z else l.getD (j - 1) 0
theorem lastB_succ (l : List UInt8) (j : Nat) (z : UInt8) : lastB l (j + 1) z = l.getD j 0 := by unfold lastB; rw [if_neg (by omega), Nat.add_sub_cancel]
theorem pad_zero : Dv.pad [0] = Dv.zeros := rfl

structure KInv (D : Dv) (k j : Nat) (z : UInt8) (s : Nat) (l : List UInt8) : Prop where
  free : D.Free
  n2 : D.n = 2
  spent : D.spent ≤ s + j
  laid : D.laid k = Dv.pad [z]
  late : ∀ i, D.late i = if i = k ∧ 0 < j then some (Dv.pad [lastB l j z]) else none

theorem KInv.start (k : Nat) (l : List UInt8) : KInv (.fresh 2) k 0 0 0 l := ⟨Dv.free_fresh 2, rfl, Nat.le_refl _, rfl, fun i => by rw [if_neg (fun h => by omega)]; rfl⟩
theorem KInv.step {D : Dv} {k j s : Nat} {z : UInt8} {l : List UInt8} (h : KInv D k j z s l) (x : UInt8) (hx : l.getD j 0 = x) : KInv (D.more.put k (Dv.pad [x])) k (j + 1) z s l := by
  refine ⟨h.free.more.put _ _, h.n2, ?_, h.laid, fun i => ?_⟩
  · show D.spent + 1 ≤ _
    have := h.spent
    omega
  · show (if i = k then some (Dv.pad [x]) else D.late i) = _
    rw [lastB_succ, hx]
    by_cases e : i = k
    · rw [if_pos e, if_pos ⟨e, by omega⟩]
    · rw [if_neg e, if_neg (fun h3 => e h3.1), h.late, if_neg (fun h3 => e h3.1)]
theorem KInv.flushed {D : Dv} {k j s : Nat} {z : UInt8} {l : List UInt8} (h : KInv D k j z s l) (m : List UInt8) : KInv D.more.settle k 0 (lastB l j z) (s + j + 1) m := by
  refine ⟨⟨h.free.gone, h.free.more.left⟩, h.n2, ?_, ?_, fun i => by rw [if_neg (fun h => by omega)]; rfl⟩
  · show D.spent + 1 ≤ _
    have := h.spent
    omega
  · show (D.late k).getD (D.laid k) = _
    rw [h.late]
    by_cases e : 0 < j
    · rw [if_pos ⟨rfl, e⟩]; rfl
    · rw [if_neg (fun h3 => e h3.2), h.laid]
      unfold lastB
      rw [if_pos (by omega)]; rfl
theorem KInv.crash {D : Dv} {k j s : Nat} {z : UInt8} {l : List UInt8} (h : KInv D k j z s l) (hk : k < 2) (keep : Nat → Bool) : (D.crash keep).read (k : Int) = Dv.pad [if 0 < j ∧ keep 0 = true then lastB l j z else z] := by
  rw [Dv.Free.read (Dv.free_crash _ _) (show k < D.n by rw [h.n2]; exact hk)]
  show Dv.lay D.late D.laid keep D.keys D.keys.length k = _
  by_cases e : 0 < j
  · have hkeys : D.keys = [k] := by
      have : D.keys = (List.range 2).filter fun i => decide (i = k) := by
        unfold Dv.keys
        rw [h.n2]
        congr 1
        funext i
        rw [h.late]
        by_cases e2 : i = k
        · rw [if_pos ⟨e2, e⟩, decide_eq_true e2]; rfl
        · rw [if_neg (fun h3 => e2 h3.1), decide_eq_false e2]; rfl
      rw [this]
      have hall : ∀ k, k < 2 → ((List.range 2).filter fun i => decide (i = k)) = [k] := by decide
      exact hall k hk
    rw [hkeys]
    show Dv.lay D.late D.laid keep [k] 1 k = _
    rw [Dv.lay_succ]
    cases hkp : keep 0
    · rw [if_neg Bool.false_ne_true, if_neg (fun h3 => Bool.false_ne_true h3.2)]
      exact h.laid
    · rw [if_pos rfl]
      show (if k = k then (D.late k).getD [] else Dv.lay D.late D.laid keep [k] 0 k) = _
      rw [if_pos rfl, h.late, if_pos ⟨rfl, e⟩, if_pos (show 0 < j ∧ true = true from ⟨e, rfl⟩)]; rfl
  · rw [Dv.keys_none (fun i => by rw [h.late, if_neg (fun h3 => e h3.2)]), if_neg (fun h3 => e h3.1)]
    exact h.laid

set_option maxHeartbeats 8000000 in
set_option maxRecDepth 100000 in
theorem kinds_walk (A B K : Option Addr) (ca cb ck la lb lk : Nat) (l m : List UInt8) (f : Nat → Bool) (at_ : Int) (w : World) (HL : Hid (l.length = la)) (HM : Hid (m.length = lb)) (hr : Rd w w.heap.size A l) (hs : Rd w w.heap.size B m) (hk : BoolsAt w K lk f) : Calls Try.prog 8 #[.slice A la ca, .slice B lb cb, .int .i64 at_, .slice K lk ck] w fun e w' => e = .returned (.bool true) ∧ Below w.heap.size w w' := by
  obtain ⟨k, hk2, hand⟩ := low1 at_
  have HAWK := Lib.hid (awake_any w)
  by_cases hlen : la ≤ 20 ∧ lb ≤ 20 ∧ lk ≤ 40
  · obtain ⟨h1, h2, h3⟩ := hlen
    have d1 : decide (20 < (la : Int)) = false := decide_eq_false (by omega)
    have d2 : decide (20 < (lb : Int)) = false := decide_eq_false (by omega)
    have d3 : decide (40 < (lk : Int)) = false := decide_eq_false (by omega)
    go_enter Try.func8, Try.ntmps8
    go_wp2_with (go_at_call 9; refine HAWK.out.mono ?_; rintro e w0 ⟨rfl, hb0⟩; have HB0 := Lib.hid hb0; clear hb0)
    refine (newdr (w := w) HB0.out 2 (by omega) (by omega)).mono ?_
    rintro e w1 ⟨p, L, M, rfl, hd1, _, _, _, _⟩
    have HD1 := Lib.hid hd1
    clear hd1 HB0
    go_wp2_with fail
    go_loopw [13, 14] (fun v u wr => ∃ (D : Dv) (j : Nat) (x : UInt8), v = .int .u8 (x.toNat : Int) ∧ u = .int .i64 (j : Int) ∧ j ≤ la ∧ Hid (x = lastB l j 0) ∧ Hid (KInv D k j 0 0 l) ∧ Hid (Dr w wr p L M D)) (fun _ u _ => la - (intOf u).toNat)
    case atStart => exact ⟨_, 0, 0, rfl, rfl, by omega, rfl, Lib.hid (KInv.start k l), HD1⟩
    case round =>
      obtain ⟨D, j, x0, rfl, rfl, hj, HX0, HI, HD⟩ := hrel
      clear HD1
      rcases Nat.lt_or_ge j la with hlt | hge
      · obtain ⟨b, o', rfl, hcell⟩ := arg_byte hr (j := j) (by rw [HL.out]; exact hlt)
        obtain ⟨x, hx⟩ : ∃ x, l[j]'(by rw [HL.out]; exact hlt) = x := ⟨_, rfl⟩
        rw [hx] at hcell
        have hgx : l.getD j 0 = x := by rw [List.getD_eq_getElem?_getD, List.getElem?_eq_getElem (by rw [HL.out]; exact hlt), ← hx]; rfl
        have HX := Lib.hid hgx
        have HSP : Hid (D.spent ≤ 1000) := Lib.hid (by have := HI.out.spent; omega)
        have hbr := HD.out.bel
        have hdj : decide ((j : Int) < (la : Int)) = true := decide_eq_true (by omega)
        clear hx hgx
        go_wp2_with fail
        refine (write_any (HD.out.alloc _).dev (Nat.le_trans HSP.out (by omega)) (k : Int) (firm_one x _ rfl HD.out.notNew _) 1 1 rfl).mono ?_
        rintro e w3 ⟨rfl, hd3, ht3⟩
        rw [HI.out.free.write (by rw [HI.out.n2]; exact hk2) (by simp)] at hd3
        rw [HI.out.free.writeE (by rw [HI.out.n2]; exact hk2) (by simp)]
        have HD3 := Lib.hid ((HD.out.alloc _).turn hd3 ht3)
        clear hd3 ht3
        have hb3 := HD3.out.bel
        go_wp2_with fail
        refine ⟨⟨_, j + 1, x, rfl, by go_num, by omega, Lib.hid (by rw [lastB_succ, HX.out]), Lib.hid (HI.out.step x HX.out), HD3⟩, by simp [intOf]; omega⟩
      · obtain rfl : j = la := by omega
        have HSP : Hid (D.spent ≤ 1000) := Lib.hid (by have := HI.out.spent; omega)
        have hdj : decide ((j : Int) < (j : Int)) = false := decide_eq_false (by omega)
        go_wp2_with fail
        refine (flush_any HD.out.dev (Nat.le_trans HSP.out (by omega))).mono ?_
        rintro e w5 ⟨rfl, hd5, ht5⟩
        rw [HI.out.free.flush] at hd5
        rw [HI.out.free.flushE]
        have HD5 := Lib.hid (HD.out.turn hd5 ht5)
        have HI5 := Lib.hid (HI.out.flushed m)
        rw [← HX0.out] at HI5
        clear hd5 ht5 HD HI HX0 HSP hge hj hdj HL
        go_wp2_with fail
        go_loopw [16, 17] (fun v u wr => ∃ (D : Dv) (i : Nat) (x : UInt8), v = .int .u8 (x.toNat : Int) ∧ u = .int .i64 (i : Int) ∧ i ≤ lb ∧ Hid (x = lastB m i x0) ∧ Hid (KInv D k i x0 (0 + j + 1) m) ∧ Hid (Dr w wr p L M D)) (fun _ u _ => lb - (intOf u).toNat)
        case atStart => exact ⟨_, 0, x0, rfl, rfl, by omega, rfl, HI5, HD5⟩
        case round =>
          clear HI5 HD5
          obtain ⟨D, i, x1, rfl, rfl, hi, HX1, HI, HD⟩ := hrel
          have HSP : Hid (D.spent ≤ 1000) := Lib.hid (by have := HI.out.spent; omega)
          rcases Nat.lt_or_ge i lb with hlt | hge
          · obtain ⟨b, o', rfl, hcell⟩ := arg_byte hs (j := i) (by rw [HM.out]; exact hlt)
            obtain ⟨x, hx⟩ : ∃ x, m[i]'(by rw [HM.out]; exact hlt) = x := ⟨_, rfl⟩
            rw [hx] at hcell
            have hgx : m.getD i 0 = x := by rw [List.getD_eq_getElem?_getD, List.getElem?_eq_getElem (by rw [HM.out]; exact hlt), ← hx]; rfl
            have HX := Lib.hid hgx
            have hbr := HD.out.bel
            have hdj : decide ((i : Int) < (lb : Int)) = true := decide_eq_true (by omega)
            clear hx hgx
            go_wp2_with fail
            refine (write_any (HD.out.alloc _).dev (Nat.le_trans HSP.out (by omega)) (k : Int) (firm_one x _ rfl HD.out.notNew _) 1 1 rfl).mono ?_
            rintro e w3 ⟨rfl, hd3, ht3⟩
            rw [HI.out.free.write (by rw [HI.out.n2]; exact hk2) (by simp)] at hd3
            rw [HI.out.free.writeE (by rw [HI.out.n2]; exact hk2) (by simp)]
            have HD3 := Lib.hid ((HD.out.alloc _).turn hd3 ht3)
            clear hd3 ht3
            have hb3 := HD3.out.bel
            go_wp2_with fail
            refine ⟨⟨_, i + 1, x, rfl, by go_num, by omega, Lib.hid (by rw [lastB_succ, HX.out]), Lib.hid (HI.out.step x HX.out), HD3⟩, by simp [intOf]; omega⟩
          · obtain rfl : i = lb := by omega
            have hdj : decide ((i : Int) < (i : Int)) = false := decide_eq_false (by omega)
            have hkb := hk.below HD.out.bel
            have hread := HI.out.crash hk2 (kp lk f)
            have hcase : ∃ y : UInt8, (D.crash (kp lk f)).read (k : Int) = Dv.pad [y] ∧ (
                (i = 0 ∧ y = x0) ∨
                (0 < i ∧ lk = 0 ∧ y = x0) ∨
                (∃ b o, K = some ⟨b, o, none⟩ ∧ wr.cell? ⟨b, o, none⟩ = some (.bool true) ∧ 0 < i ∧ 0 < lk ∧ y = x1) ∨
                (∃ b o, K = some ⟨b, o, none⟩ ∧ wr.cell? ⟨b, o, none⟩ = some (.bool false) ∧ 0 < i ∧ 0 < lk ∧ y = x0)) := by
              refine ⟨_, hread, ?_⟩
              by_cases e1 : 0 < i
              · rcases hkb with e2 | ⟨b, o, rfl, _, hc⟩
                · refine .inr (.inl ⟨e1, e2, ?_⟩)
                  rw [if_neg (fun h3 => by have h4 := h3.2; unfold kp at h4; rw [e2] at h4; cases h4)]
                · by_cases e2 : lk = 0
                  · refine .inr (.inl ⟨e1, e2, ?_⟩)
                    rw [if_neg (fun h3 => by have h4 := h3.2; unfold kp at h4; rw [e2] at h4; cases h4)]
                  · have hc0 := hc 0 (by omega)
                    cases hf : f 0
                    · rw [hf] at hc0
                      refine .inr (.inr (.inr ⟨b, o, rfl, hc0, e1, by omega, ?_⟩))
                      rw [if_neg (fun h3 => by have h4 := h3.2; unfold kp at h4; rw [hf, Bool.and_false] at h4; cases h4)]
                    · rw [hf] at hc0
                      refine .inr (.inr (.inl ⟨b, o, rfl, hc0, e1, by omega, ?_⟩))
                      rw [if_pos ⟨e1, by unfold kp; rw [hf, decide_eq_true (show 0 < lk from by omega)]; rfl⟩, ← HX1.out]
              · refine .inl ⟨by omega, ?_⟩
                rw [if_neg (fun h3 => e1 h3.1)]
            obtain ⟨y, hy, hcase⟩ := hcase
            have HY := Lib.hid hy
            have HKB := Lib.hid (HD.out.bools hk)
            clear hread hy hkb hge hi HI
            rcases hcase with ⟨rfl, rfl⟩ | ⟨dm, rfl, rfl⟩ | ⟨b, o, rfl, hkc, dm, dk, rfl⟩ | ⟨b, o, rfl, hkc, dm, dk, rfl⟩
            all_goals
              go_wp2_with fail
              refine (crash_any HD.out.dev (Nat.le_trans HSP.out (by omega)) ck HKB.out).mono ?_
              rintro e w7 ⟨rfl, hd7, ht7⟩
              have HD7 := Lib.hid (HD.out.turn hd7 ht7)
              clear hd7 ht7
              go_wp2_with fail
              refine (read_sec HD7.out.dev (k : Int) HY.out rfl).mono ?_
              rintro e w8 ⟨g8, rfl, hg8, hb8, hw8⟩
              have HD8 := Lib.hid (HD7.out.below hw8)
              have k1 : w8.cell? ⟨g8, 0, none⟩ = some (.int .u8 (y.toNat : Int)) := secC_cell hb8 0 y rfl
              clear hg8 hb8 hw8 HD7
              go_wp2_with fail
              go_ret
              exact ⟨rfl, HD8.out.bel⟩
  · rcases (show 20 < la ∨ (la ≤ 20 ∧ 20 < lb) ∨ (la ≤ 20 ∧ lb ≤ 20 ∧ 40 < lk) from by omega) with h1 | ⟨h1, h2⟩ | ⟨h1, h2, h3⟩
    · have d1 : decide (20 < (la : Int)) = true := decide_eq_true (by omega)
      go_enter Try.func8, Try.ntmps8
      go_wp2_with (go_at_call 9; refine HAWK.out.mono ?_; rintro e w0 ⟨rfl, hb0⟩; have HB0 := Lib.hid hb0; clear hb0)
      go_ret
      exact ⟨rfl, HB0.out⟩
    · have d1 : decide (20 < (la : Int)) = false := decide_eq_false (by omega)
      have d2 : decide (20 < (lb : Int)) = true := decide_eq_true (by omega)
      go_enter Try.func8, Try.ntmps8
      go_wp2_with (go_at_call 9; refine HAWK.out.mono ?_; rintro e w0 ⟨rfl, hb0⟩; have HB0 := Lib.hid hb0; clear hb0)
      go_ret
      exact ⟨rfl, HB0.out⟩
    · have d1 : decide (20 < (la : Int)) = false := decide_eq_false (by omega)
      have d2 : decide (20 < (lb : Int)) = false := decide_eq_false (by omega)
      have d3 : decide (40 < (lk : Int)) = true := decide_eq_true (by omega)
      go_enter Try.func8, Try.ntmps8
      go_wp2_with (go_at_call 9; refine HAWK.out.mono ?_; rintro e w0 ⟨rfl, hb0⟩; have HB0 := Lib.hid hb0; clear hb0)
      go_ret
      exact ⟨rfl, HB0.out⟩

end Go.Proofs.Ytaidjnpbjoncoaa
