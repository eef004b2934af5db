/-
  DeviceLast: the walk: of writes to one sector the last one is read, and laid down; each sector is cached once.
-/
import Derived.Test.YtaidjnpbjoncoaaFree
import Derived.BigQuiet
namespace Go.Proofs.Ytaidjnpbjoncoaa
open Go.RowKit

/-- behind j rounds -/
structure LInv (D : Dv) (k o j : Nat) (l : List UInt8) : Prop where
  free : D.Free
  n8 : D.n = 8
  spent : D.spent ≤ 2 * j
  late : ∀ i, D.late i = if 0 < j ∧ (i = k ∨ i = o) then some (Dv.pad [l.getD (j - 1) 0]) else none

theorem LInv.start (k o : Nat) (l : List UInt8) : LInv (.fresh 8) k o 0 l := ⟨Dv.free_fresh 8, rfl, by simp [Dv.fresh], fun i => by rw [if_neg (by omega)]; rfl⟩
theorem LInv.step {D : Dv} {k o j : Nat} {l : List UInt8} (h : LInv D k o j l) (x : UInt8) (hx : l.getD j 0 = x) : LInv ((D.more.put k (Dv.pad [x])).more.put o (Dv.pad [x])) k o (j + 1) l := by
  refine ⟨⟨h.free.more.more.gone, h.free.more.more.left⟩, h.n8, ?_, fun i => ?_⟩
  · show D.spent + 1 + 1 ≤ _
    have := h.spent
    omega
  · show (if i = o then some (Dv.pad [x]) else if i = k then some (Dv.pad [x]) else D.late i) = _
    rw [Nat.add_sub_cancel, hx]
    by_cases e1 : i = o
    · rw [if_pos e1, if_pos ⟨by omega, .inr e1⟩]
    · rw [if_neg e1]
      by_cases e2 : i = k
      · rw [if_pos e2, if_pos ⟨by omega, .inl e2⟩]
      · rw [if_neg e2, if_neg (fun h3 => by rcases h3.2 with h4 | h4; exact e2 h4; exact e1 h4), h.late, if_neg (fun h3 => by rcases h3.2 with h4 | h4; exact e2 h4; exact e1 h4)]

theorem LInv.keys {D : Dv} {k o j : Nat} {l : List UInt8} (h : LInv D k o j l) (hj : 0 < j) (hk : k < 8) (ho : o < 8) : D.keys.length = if o = k then 1 else 2 := by
  have : D.keys = (List.range 8).filter fun i => decide (i = k ∨ i = o) := by
    unfold Dv.keys
    rw [h.n8]
    congr 1
    funext i
    rw [h.late]
    by_cases e : i = k ∨ i = o
    · rw [if_pos ⟨hj, e⟩, decide_eq_true e]; rfl
    · rw [if_neg (fun h3 => e h3.2), decide_eq_false e]; rfl
  rw [this]
  have hall : ∀ k, k < 8 → ∀ o, o < 8 → ((List.range 8).filter fun i => decide (i = k ∨ i = o)).length = if o = k then 1 else 2 := by decide
  exact hall k hk o ho

set_option maxHeartbeats 8000000 in
set_option maxRecDepth 100000 in
theorem last_walk (A : Option Addr) (c len : Nat) (l : List UInt8) (at_ ot : Int) (w : World) (HL : Hid (l.length = len)) (hr : Rd w w.heap.size A l) : Calls Try.prog 6 #[.slice A len c, .int .i64 at_, .int .i64 ot] w fun e w' => e = .returned (.bool true) ∧ Below w.heap.size w w' := by
  obtain ⟨k, hk8, hk⟩ := low7 at_
  obtain ⟨o, ho8, ho⟩ := low7 ot
  have HAWK := Lib.hid (awake_any w)
  by_cases hlen : 0 < len ∧ len ≤ 60
  · obtain ⟨hl0, hl60⟩ := hlen
    have d1 : decide (60 < (len : Int)) = false := decide_eq_false (by omega)
    have d2 : ((len : Int) == 0) = false := by simp; omega
    go_enter Try.func6, Try.ntmps6
    go_wp2_with (first
      | (go_at_call 9; refine HAWK.out.mono ?_; rintro e w0 ⟨rfl, hb0⟩; have HB0 := Lib.hid hb0; clear hb0)
      | (go_at_call 11; refine (newdr (w := w) HB0.out 8 (by omega) (by omega)).mono ?_; rintro e w1 ⟨p, L, M, rfl, hd1, _, _, _, _⟩; have HD1 := Lib.hid hd1; clear hd1))
    go_loopw [11] (fun u wr => ∃ (D : Dv) (j : Nat), u = .int .i64 (j : Int) ∧ j ≤ len ∧ Hid (LInv D k o j l) ∧ Hid (Dr w wr p L M D)) (fun u _ => len - (intOf u).toNat)
    case atStart => exact ⟨_, 0, rfl, by omega, Lib.hid (LInv.start k o l), HD1⟩
    case round =>
      obtain ⟨D, j, rfl, hj, HI, HD⟩ := hrel
      clear HD1 HB0
      rcases Nat.lt_or_ge j len with hlt | hge
      · obtain ⟨b, o', rfl, hcell⟩ := arg_byte hr (j := j) (by rw [HL.out]; exact hlt)
        obtain ⟨x, hx⟩ : ∃ x, l[j]'(by rw [HL.out]; exact hlt) = x := ⟨_, rfl⟩
        rw [hx] at hcell
        have hgx : l.getD j 0 = x := by rw [List.getD_eq_getElem?_getD, List.getElem?_eq_getElem (by rw [HL.out]; exact hlt), ← hx]; rfl
        have HX := Lib.hid hgx
        have HN8 := Lib.hid HI.out.n8
        have HF := Lib.hid HI.out.free
        have HSP : Hid (D.spent ≤ 1000) := Lib.hid (by have := HI.out.spent; omega)
        have hbr := HD.out.bel
        have hdj : decide ((j : Int) < (len : Int)) = true := decide_eq_true (by omega)
        clear hx hgx
        go_wp2_with fail
        refine (write_any (HD.out.alloc _).dev (Nat.le_trans HSP.out (by omega)) (k : Int) (firm_one x _ rfl HD.out.notNew _) 1 1 rfl).mono ?_
        rintro e w3 ⟨rfl, hd3, ht3⟩
        rw [HF.out.write (by rw [HN8.out]; exact hk8) (by simp)] at hd3
        rw [HF.out.writeE (by rw [HN8.out]; exact hk8) (by simp)]
        have HD3 := Lib.hid ((HD.out.alloc _).turn hd3 ht3)
        clear hd3 ht3
        have hb3 := HD3.out.bel
        go_wp2_with fail
        refine (write_any (HD3.out.alloc _).dev (show D.spent + 1 ≤ 1000000 from by have := HSP.out; omega) (o : Int) (firm_one x _ rfl HD3.out.notNew _) 1 1 rfl).mono ?_
        rintro e w4 ⟨rfl, hd4, ht4⟩
        rw [(HF.out.more.put k (Dv.pad [x])).write (by show o < D.n; rw [HN8.out]; exact ho8) (by simp)] at hd4
        rw [(HF.out.more.put k (Dv.pad [x])).writeE (by show o < D.n; rw [HN8.out]; exact ho8) (by simp)]
        have HD4 := Lib.hid ((HD3.out.alloc _).turn hd4 ht4)
        clear hd4 ht4
        go_wp2_with fail
        refine ⟨⟨_, j + 1, by go_num, by omega, Lib.hid (HI.out.step x HX.out), HD4⟩, by simp [intOf]; omega⟩
      · obtain rfl : j = len := by omega
        have hI := HI.out
        have hkeys := hI.keys hl0 hk8 ho8
        have hlt : j - 1 < l.length := by rw [HL.out]; omega
        obtain ⟨b, o', rfl, hcell⟩ := arg_byte hr hlt
        obtain ⟨x, hx⟩ : ∃ x, l[j - 1] = x := ⟨_, rfl⟩
        rw [hx] at hcell
        have hgx : l.getD (j - 1) 0 = x := by rw [List.getD_eq_getElem?_getD, List.getElem?_eq_getElem hlt, ← hx]; rfl
        have hlk : D.late k = some (Dv.pad [x]) := by rw [hI.late, if_pos ⟨hl0, .inl rfl⟩, hgx]
        have hkn : k < D.n := by rw [hI.n8]; exact hk8
        have hread : D.read (k : Int) = Dv.pad [x] := by rw [hI.free.read hkn, hlk]; rfl
        have hfl := hI.free.flush
        have hfe := hI.free.flushE
        obtain ⟨E, hE⟩ : ∃ E, E = D.more.settle := ⟨_, rfl⟩
        have hEk : E.keys = [] := Dv.keys_none fun i => by rw [hE]; rfl
        obtain ⟨F, hFc⟩ : ∃ F, F = E.crash (kp 0 fun _ => false) := ⟨_, rfl⟩
        have hFr : F.read (k : Int) = Dv.pad [x] := by
          have h1 : F.Free := by rw [hFc]; exact Dv.free_crash _ _
          have h2 : F.n = D.n := by rw [hFc, hE]; rfl
          rw [h1.read (by rw [h2]; exact hkn)]
          have h3 : F.laid = E.laid := by rw [hFc]; exact Dv.crash_none (fun i => by rw [hE]; rfl) _
          have h4 : F.late k = none := by rw [hFc]; rfl
          rw [h3, h4, hE]
          show (D.late k).getD (D.laid k) = _
          rw [hlk]; rfl
        have HSP : Hid (D.spent ≤ 1000) := Lib.hid (by have := hI.spent; omega)
        have HSE : Hid (E.spent ≤ 1001) := Lib.hid (by rw [hE]; show D.spent + 1 ≤ _; have := hI.spent; omega)
        have HC := Lib.hid hcell
        have HQ := Lib.hid (show _ ∧ _ ∧ _ ∧ _ ∧ _ ∧ _ ∧ _ ∧ _ from ⟨hkeys, hread, hfl, hfe, hE, hEk, hFc, hFr⟩)
        have h64 : (Dv.pad [x]).length = 64 := rfl
        have H64 := Lib.hid h64
        clear hI hkeys hlt hx hcell hgx hlk hkn hread hfl hfe hE hEk hFc hFr h64 hge
        have hdj : decide ((j : Int) < (j : Int)) = false := decide_eq_false (by omega)
        go_wp2_with fail
        refine (cached_any HD.out.dev (Nat.le_trans HSP.out (by omega))).mono ?_
        rintro e w3 ⟨A3, n3, c3, rfl, hn3, _, hb3⟩
        have HD3 := Lib.hid (HD.out.below hb3)
        clear hb3
        have hcase : (((o : Int) == (k : Int)) = true ∧ n3 = 1) ∨ (((o : Int) == (k : Int)) = false ∧ n3 = 2) := by
          rw [HQ.out.1] at hn3
          by_cases e : o = k
          · left
            rw [if_pos e] at hn3
            exact ⟨by simp [e], hn3⟩
          · right
            rw [if_neg e] at hn3
            exact ⟨by simp; omega, hn3⟩
        clear hn3
        rcases hcase with ⟨hok, rfl⟩ | ⟨hok, rfl⟩
        all_goals
          go_wp2_with fail
          refine (read_sec HD3.out.dev (k : Int) HQ.out.2.1 H64.out).mono ?_
          rintro e w4 ⟨g4, rfl, hg4, hb4, hw4⟩
          have HD4 := Lib.hid (HD3.out.below hw4)
          have HL4 := Lib.hid HD3.out.dev.lt
          have HB4 := Lib.hid hb4
          have HG4 := Lib.hid hg4
          clear hg4 hb4 hw4 HD3
          go_wp2_with fail
          refine (flush_any HD4.out.dev (Nat.le_trans HSP.out (by omega))).mono ?_
          rintro e w5 ⟨rfl, hd5, ht5⟩
          rw [HQ.out.2.2.1, ← HQ.out.2.2.2.2.1] at hd5
          rw [HQ.out.2.2.2.1]
          have hgn : ¬ DS p L M g4 := fun hk => by
            have h1 := HL4.out
            have h2 := HG4.out
            rcases hk with rfl | rfl | rfl <;> omega
          have HB5 := Lib.hid ((ht5.block g4 (lt_of_block HB4.out) hgn).trans HB4.out)
          have HD5 := Lib.hid (HD4.out.turn hd5 ht5)
          clear hd5 ht5 HD4 HB4
          go_wp2_with fail
          refine (cached_any HD5.out.dev (Nat.le_trans HSE.out (by omega))).mono ?_
          rintro e w6 ⟨A6, n6, c6, rfl, hn6, _, hb6⟩
          rw [HQ.out.2.2.2.2.2.1] at hn6
          obtain rfl : n6 = 0 := hn6
          have HB6 := Lib.hid ((hb6.block g4 (lt_of_block HB5.out)).trans HB5.out)
          have HD6 := Lib.hid (HD5.out.below hb6)
          clear hb6 HD5 HB5
          go_wp2_with fail
          refine (crash_any HD6.out.dev (Nat.le_trans HSE.out (by omega)) 0 (kn := 0) (f := fun _ => false) Bools.nil).mono ?_
          rintro e w7 ⟨rfl, hd7, ht7⟩
          rw [← HQ.out.2.2.2.2.2.2.1] at hd7
          have HB7 := Lib.hid ((ht7.block g4 (lt_of_block HB6.out) hgn).trans HB6.out)
          have HD7 := Lib.hid (HD6.out.turn hd7 ht7)
          clear hd7 ht7 HD6 HB6 hgn
          go_wp2_with fail
          refine (read_sec HD7.out.dev (k : Int) HQ.out.2.2.2.2.2.2.2 H64.out).mono ?_
          rintro e w8 ⟨g8, rfl, hg8, hb8, hw8⟩
          have HD8 := Lib.hid (HD7.out.below hw8)
          have k0 : w8.cell? ⟨g4, 0, none⟩ = some (.int .u8 (x.toNat : Int)) := (hw8.cell (lt_of_block HB7.out)).trans (secC_cell HB7.out 0 x rfl)
          have k1 : w8.cell? ⟨g8, 0, none⟩ = some (.int .u8 (x.toNat : Int)) := secC_cell hb8 0 x rfl
          have k2 := HC.out w8 HD8.out.bel
          have hj1 : ((j - 1 : Nat) : Int) = (j : Int) - 1 := by omega
          clear hg8 hb8 hw8 HD7
          go_wp2_with fail
          go_quiet (fail)
          go_wp2_with fail
          go_ret
          exact ⟨rfl, below_drewN HD8.out.bel _⟩
  · rcases (show len = 0 ∨ 60 < len from by omega) with h0 | h60
    · subst h0
      go_enter Try.func6, Try.ntmps6
      go_wp2_with (go_at_call 9; refine HAWK.out.mono ?_; rintro e w0 ⟨rfl, hb0⟩; have HB0 := Lib.hid hb0; clear hb0)
      go_ret
      exact ⟨rfl, HB0.out⟩
    · have d1 : decide (60 < (len : Int)) = true := decide_eq_true (by omega)
      go_enter Try.func6, Try.ntmps6
      go_wp2_with (go_at_call 9; refine HAWK.out.mono ?_; rintro e w0 ⟨rfl, hb0⟩; have HB0 := Lib.hid hb0; clear hb0)
      go_ret
      exact ⟨rfl, HB0.out⟩

end Go.Proofs.Ytaidjnpbjoncoaa
