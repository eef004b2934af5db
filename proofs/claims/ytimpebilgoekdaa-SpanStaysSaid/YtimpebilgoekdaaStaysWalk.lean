/-
  SpanStays: whichever are added, from any one on, the number stays.
-/
import Derived.Test.YtimpebilgoekdaaAw
import Derived.Test.YtimpebilgoekdaaRw
namespace Go.Proofs.Ytimpebilgoekdaa
set_option maxRecDepth 100000
set_option linter.unusedVariables false
set_option linter.unusedSimpArgs false
open Go.RowKit

set_option maxHeartbeats 1000000 in
theorem stays_walk (a b v : Int) (hv : okI v) (A : Option Addr) (n c : Nat) (l : List Int) (K : Option Addr) (m cm : Nat) (f : Nat → Bool) (turn : Int) (w : World) (hl : Ls w A n l) (hk : BoolsAt w K m f) :
    Calls Try.prog 4 #[spV a b, .int .i64 v, .slice A n c, .slice K m cm, .int .i64 turn] w fun e w' => e = .returned (.bool true) ∧ Below w.heap.size w w' := by
  have HL := Lib.hid hl
  have HK := Lib.hid hk
  have HX := Lib.hid (Bk.new w (spC a b) 24)
  have HB := Lib.hid (below_new w (.cells (spC a b) 24))
  have hfi := fun V hV => fits_any a b v hv A n c l V (HL.out.below hV)
  have hoa := ours_any a b
  have HFI := Lib.hid (fun h => fits_less (a := a) (b := b) (v := v) (l := l) h)
  clear hl hk
  obtain ⟨t, ht, et⟩ := low turn 65535 16 (by decide) (by decide)
  go_enter Try.func4, Try.ntmps4
  go_wp2_with fail
  refine (awake_any _).mono ?_
  rintro e w1 ⟨rfl, hb⟩
  replace HX := Lib.hid (HX.out.below hb)
  replace HB := Lib.hid (below_two HB.out hb)
  clear hb
  rcases Nat.lt_or_ge 100 n with hbig | hfew
  · have hd : decide ((n : Int) > 100) = true := decide_eq_true (by omega)
    have hd2 : decide ((100 : Int) < (n : Int)) = true := decide_eq_true (by omega)
    have hd3 : decide (100 < n) = true := decide_eq_true hbig
    go_wp2_with fail
    go_ret
    exact ⟨rfl, HB.out⟩
  have hd : decide ((n : Int) > 100) = false := decide_eq_false (by omega)
  have hd2 : decide ((100 : Int) < (n : Int)) = false := decide_eq_false (by omega)
  have hd3 : decide (100 < n) = false := decide_eq_false (by omega)
  rcases Nat.eq_zero_or_pos n with h0 | hpos
  · subst h0
    go_wp2_with fail
    go_ret
    exact ⟨rfl, HB.out⟩
  have hn0 : ((n : Int) == 0) = false := by have : ¬ (n : Int) = 0 := by omega
                                            simpa using this
  have hn1 : ¬ n = 0 := by omega
  have hn2 : ¬ (n : Int) = 0 := by omega
  have x0 := HX.out.s0
  have x1 := HX.out.s1
  go_wp2_with fail
  refine (hoa _).mono ?_
  rintro e w2 ⟨rfl, hb⟩
  replace HX := Lib.hid (HX.out.below hb)
  replace HB := Lib.hid (below_two HB.out hb)
  clear hb x0 x1
  go_wp2_with fail
  refine (hfi _ HB.out).mono ?_
  rintro e w3 ⟨rfl, hb⟩
  replace HX := Lib.hid (HX.out.below hb)
  replace HB := Lib.hid (below_two HB.out hb)
  clear hb hfi
  cases hfb : fitsB a b v l with
  | false =>
    clear hfb HFI
    go_wp2_with fail
    go_ret
    exact ⟨rfl, HB.out⟩
  | true =>
    obtain ⟨_, ⟨ok1, ok2⟩, ha1, hb1⟩ := HFI.out hfb
    have HLO := Lib.hid (And.intro (And.intro ok1 ok2) (And.intro ha1 hb1))
    clear hfb HFI ok1 ok2 ha1 hb1
    obtain ⟨k, hk, hkn⟩ : ∃ k : Nat, (t : Int) % (n : Int) = (k : Int) ∧ k < n := ⟨t % n, by rw [Int.natCast_emod], Nat.mod_lt _ hpos⟩
    obtain ⟨S, hS⟩ : ∃ S : Nat → Int, S = fun i => v + pickI (rot l k) (fun i => decide ((i + k) % n < m) && f ((i + k) % n)) i := ⟨_, rfl⟩
    have hln : l.length = n := HL.out.len
    have HIN : Hid (∀ i, i ≤ n → (okI (S i) ∧ holdsB a b (S i) = true)) := fun i hi => by
      have h := pick_in (rot l k) (fun i => decide ((i + k) % n < m) && f ((i + k) % n)) v (i := i) (by rw [rot_len, hln]; exact hi)
      rw [lo_rot, hi_rot] at h
      have h2 := HLO.out
      rw [hS]
      unfold okI at h2 ⊢
      unfold holdsB
      simp only [Bool.and_eq_true, decide_eq_true_eq]
      omega
    have HST : Hid (∀ i, i < n → S (i + 1) = S i + (if (decide ((i + k) % n < m) && f ((i + k) % n)) = true then l.getD ((i + k) % n) 0 else 0)) := fun i hi => by
      rw [hS]
      have hp : pickI (rot l k) (fun i => decide ((i + k) % n < m) && f ((i + k) % n)) (i + 1) = pickI (rot l k) (fun i => decide ((i + k) % n < m) && f ((i + k) % n)) i + (if (decide ((i + k) % n < m) && f ((i + k) % n)) = true then (rot l k).getD i 0 else 0) := rfl
      rw [rot_get (by rw [hln]; exact hkn) (by rw [hln]; exact hi), hln] at hp
      show v + pickI (rot l k) (fun i => decide ((i + k) % n < m) && f ((i + k) % n)) (i + 1) = v + pickI (rot l k) (fun i => decide ((i + k) % n < m) && f ((i + k) % n)) i + _
      rw [hp]
      exact (Int.add_assoc _ _ _).symm
    have HS0 : Hid (S 0 = v) := by show _ = _; rw [hS]; show v + 0 = v; omega
    have hv0 : holdsB a b v = true := by rw [← HS0.out]; exact (HIN.out 0 (Nat.zero_le _)).2
    have HV0 := Lib.hid hv0
    clear hS hln HLO hv hv0
    go_upto_region 5 with fail
    rw [hk]
    clear hk et ht
    go_wp2_with fail
    go_loopw [13, 14] (fun x u wr => ∃ i : Nat, x = .int .i64 (S i) ∧ u = .int .i64 (i : Int) ∧ i ≤ n ∧ Hid (Bk wr w.heap.size (spC a b) 24) ∧ Hid (Below w.heap.size w wr)) (fun _ u _ => n - (intOf u).toNat)
    case atStart => exact ⟨0, by rw [HS0.out], rfl, Nat.zero_le _, HX, HB⟩
    case round =>
      obtain ⟨i, rfl, rfl, hi, HXi, HBi⟩ := hrel
      have x0 := HXi.out.s0
      have x1 := HXi.out.s1
      rcases Nat.lt_or_ge i n with hlt | hge
      · obtain ⟨q, hq, hqn⟩ : ∃ q : Nat, q = (i + k) % n ∧ q < n := ⟨_, rfl, Nat.mod_lt _ hpos⟩
        have he : ((i : Int) + (k : Int)) % (n : Int) = (q : Int) := by rw [hq, ← Int.natCast_add, ← Int.natCast_emod]
        have hst := HST.out i hlt
        rw [← hq] at hst
        have HQ := Lib.hid hst
        obtain ⟨b2, o, hA, hbl, hz, hget, hc⟩ := HL.out.get hqn
        subst hA
        have cz := (HBi.out.cell (p := ⟨b2, o + q, none⟩) hbl).trans hc
        have ok1 := (HIN.out (i + 1) hlt).1
        have hho := holds_any a b (S (i + 1))
        rw [(HIN.out (i + 1) hlt).2] at hho
        generalize l.getD q 0 = z at *
        generalize S i = s0 at *
        generalize hs1 : S (i + 1) = s1 at *
        have HS1 := Lib.hid hs1
        have hd4 : decide ((i : Int) < (n : Int)) = true := decide_eq_true (by omega)
        have hd5 : decide (i < n) = true := decide_eq_true hlt
        have hi1 : (q : Int) < (n : Int) := by omega
        clear hs1 hq hst hget hc hbl hz
        rcases Nat.lt_or_ge q m with hqm | hqm
        · obtain ⟨b3, o3, hK, hb3, hc3⟩ : ∃ b o, K = some ⟨b, o, none⟩ ∧ b < w.heap.size ∧ ∀ i, i < m → w.cell? ⟨b, o + i, none⟩ = some (.bool (f i)) := by
            rcases HK.out with h | h
            · omega
            · exact h
          subst hK
          have cf := (HBi.out.cell (p := ⟨b3, o3 + q, none⟩) hb3).trans (hc3 q hqm)
          have hd6 : decide ((q : Int) < (m : Int)) = true := decide_eq_true (by omega)
          have hd7 : decide (q < m) = true := decide_eq_true hqm
          have hi2 : (q : Int) < (m : Int) := by omega
          rw [hd7, Bool.true_and] at HQ
          clear hb3 hc3
          cases hf : f q with
          | false =>
            rw [hf] at HQ cf
            clear hf
            have e1 : s1 = s0 := by have h := HQ.out; simpa using h
            clear HQ
            subst e1
            go_wp2_with fail
            refine (hoa _).mono ?_
            rintro e w5 ⟨rfl, hb⟩
            replace HXi := Lib.hid (HXi.out.below hb)
            replace HBi := Lib.hid (HBi.out.trans (hb.mono HBi.out.size))
            clear hb
            go_wp2_with fail
            refine (hho _).mono ?_
            rintro e w6 ⟨rfl, hb⟩
            replace HXi := Lib.hid (HXi.out.below hb)
            replace HBi := Lib.hid (HBi.out.trans (hb.mono HBi.out.size))
            clear hb
            go_wp2_with fail
            exact ⟨⟨i + 1, by rw [HS1.out], rfl, hlt, HXi, HBi⟩, by simp [intOf]; omega⟩
          | true =>
            rw [hf] at HQ cf
            clear hf
            have e1 : s1 = s0 + z := by have h := HQ.out; simpa using h
            have ew : IntKind.i64.wrap (s0 + z) = s1 := by rw [e1] at ok1 ⊢; unfold okI at ok1; rw [IntKind.wrap_i64]; omega
            clear HQ e1 ok1
            go_wp2_with fail
            refine (hoa _).mono ?_
            rintro e w5 ⟨rfl, hb⟩
            replace HXi := Lib.hid (HXi.out.below hb)
            replace HBi := Lib.hid (HBi.out.trans (hb.mono HBi.out.size))
            clear hb
            go_wp2_with fail
            refine (hho _).mono ?_
            rintro e w6 ⟨rfl, hb⟩
            replace HXi := Lib.hid (HXi.out.below hb)
            replace HBi := Lib.hid (HBi.out.trans (hb.mono HBi.out.size))
            clear hb
            go_wp2_with fail
            exact ⟨⟨i + 1, by rw [HS1.out], rfl, hlt, HXi, HBi⟩, by simp [intOf]; omega⟩
        · have hd6 : decide ((q : Int) < (m : Int)) = false := decide_eq_false (by omega)
          have hd7 : decide (q < m) = false := decide_eq_false (by omega)
          rw [hd7, Bool.false_and] at HQ
          have e1 : s1 = s0 := by have h := HQ.out; simpa using h
          clear HQ
          subst e1
          go_wp2_with fail
          refine (hoa _).mono ?_
          rintro e w5 ⟨rfl, hb⟩
          replace HXi := Lib.hid (HXi.out.below hb)
          replace HBi := Lib.hid (HBi.out.trans (hb.mono HBi.out.size))
          clear hb
          go_wp2_with fail
          refine (hho _).mono ?_
          rintro e w6 ⟨rfl, hb⟩
          replace HXi := Lib.hid (HXi.out.below hb)
          replace HBi := Lib.hid (HBi.out.trans (hb.mono HBi.out.size))
          clear hb
          go_wp2_with fail
          exact ⟨⟨i + 1, by rw [HS1.out], rfl, hlt, HXi, HBi⟩, by simp [intOf]; omega⟩
      · obtain rfl : i = n := by omega
        have hd4 : decide ((i : Int) < (i : Int)) = false := decide_eq_false (by omega)
        have hd5 : decide (i < i) = false := decide_eq_false (by omega)
        have hho := holds_any a b v
        rw [HV0.out] at hho
        go_wp2_with fail
        refine (hoa _).mono ?_
        rintro e w5 ⟨rfl, hb⟩
        replace HBi := Lib.hid (HBi.out.trans (hb.mono HBi.out.size))
        clear hb x0 x1
        go_wp2_with fail
        refine (hho _).mono ?_
        rintro e w6 ⟨rfl, hb⟩
        replace HBi := Lib.hid (HBi.out.trans (hb.mono HBi.out.size))
        clear hb
        go_wp2_with fail
        go_ret
        exact ⟨rfl, HBi.out⟩
end Go.Proofs.Ytimpebilgoekdaa
