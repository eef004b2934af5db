/-
  PoolPins, over the words.
-/
import Derived.Test.YtnpgmiokimahiaaPp
import Derived.Test.YtnpgmiokimahiaaFewWalk
namespace Go.Proofs.Ytnpgmiokimahiaa
set_option maxRecDepth 100000
set_option linter.unusedVariables false
open Go.RowKit Pl

/-- a number's two low bits; which of twelve sectors it names -/
def l2 (n : Int) : Nat := (n % 4).toNat
theorem l2_lt (n : Int) : l2 n < 4 := by unfold l2; omega
theorem and_l2 (n : Int) : bits .and .i64 n 3 = (l2 n : Int) := by
  rw [and_mask n 3 2 (by decide) (by omega)]
  unfold l2
  omega
def lb (n : Int) : Nat := (n % 256).toNat
theorem and_lb (n : Int) : bits .and .i64 n 255 = (lb n : Int) := by
  rw [and_mask n 255 8 (by decide) (by omega)]
  unfold lb
  omega
def at12 (n : Int) : Nat := lb n % 12
theorem at12_lt (n : Int) : at12 n < 12 := Nat.mod_lt _ (by omega)
theorem at12_mod (n : Int) : Int.tmod (lb n : Int) 12 = (at12 n : Int) := by
  rw [Int.tmod_eq_emod_of_nonneg (by omega)]
  unfold at12
  omega

/-- is a sector among the first of a list? -/
def among (l : List Nat) (a j : Nat) : Bool := (l.take j).contains a
theorem among_step {l : List Nat} {a j i : Nat} (h : l[j]? = some i) : among l a (j + 1) = (among l a j || i == a) := by
  unfold among
  rw [List.take_add_one, h]
  rw [Bool.eq_iff_iff]
  simp only [List.contains_iff_mem, Bool.or_eq_true, List.mem_append, Option.toList_some, List.mem_singleton, beq_iff_eq]
  constructor
  · rintro (h | h)
    · exact .inl h
    · exact .inr h.symm
  · rintro (h | h)
    · exact .inl h
    · exact .inr h.symm
theorem among_all {l : List Nat} {a : Nat} (h : a ∈ l) : among l a l.length = true := by
  unfold among
  rw [List.take_length]
  simpa using h

set_option maxHeartbeats 4000000 in
theorem pins_walk {PAt : Lay} (K : PoolOk PAt) (z0 z1 z2 : Int) (A : Option Addr) (len c : Nat) (f : Nat → Int) (w : World) (hl : Is w A len f) :
    Calls Try.prog 5 #[.int .i64 z0, .int .i64 z1, .int .i64 z2, .slice A len c] w fun e w' => e = .returned (.bool true) ∧ Below w.heap.size w w' := by
  have HL := Lib.hid hl
  have HAW := Lib.hid (awake_any K w)
  have HK := Lib.hid K
  clear hl K
  by_cases h60 : len ≤ 60
  · obtain ⟨s, hs⟩ : ∃ s, s = l2 z0 := ⟨_, rfl⟩
    have hs4 : s < 4 := by rw [hs]; exact l2_lt z0
    have hz0 : bits .and .i64 z0 3 = (s : Int) := by rw [hs]; exact and_l2 z0
    obtain ⟨t, htt⟩ : ∃ t, t = l2 z2 := ⟨_, rfl⟩
    have ht4 : t < 4 := by rw [htt]; exact l2_lt z2
    have hz2 : bits .and .i64 z2 3 = (t : Int) := by rw [htt]; exact and_l2 z2
    obtain ⟨x, hx⟩ : ∃ x, x = lb z1 := ⟨_, rfl⟩
    have hz1 : bits .and .i64 z1 255 = (x : Int) := by rw [hx]; exact and_lb z1
    obtain ⟨a, ha⟩ : ∃ a, a = at12 z1 := ⟨_, rfl⟩
    have ha12 : a < 12 := by rw [ha]; exact at12_lt z1
    have hx12 : Int.tmod (x : Int) 12 = (a : Int) := by rw [hx, ha]; exact at12_mod z1
    clear hs htt hx ha
    have hd8 : decide ((60 : Int) < (len : Int)) = false := decide_eq_false (by omega)
    go_enter Try.func5, Try.ntmps5
    go_wp2_with fail
    refine HAW.out.mono ?_
    rintro e w0 ⟨rfl, hb0⟩
    have HB0 := Lib.hid hb0
    clear hb0 HAW
    go_wp2_with fail
    refine (newdr HB0.out 12 (by omega) (by omega)).mono ?_
    rintro e w1 ⟨p, L, M, rfl, hdr, _, _⟩
    have HD1 := Lib.hid hdr
    have HF := Lib.hid (Dv.free_fresh 12)
    clear hdr HB0
    go_wp2_with fail
    refine (PW.made HK.out HD1.out HF.out (1 + s) (by omega)).mono ?_
    rintro e w2 ⟨v, T, rfl, hpw, _, _⟩
    have HP2 := Lib.hid hpw
    clear hpw HD1
    go_wp2_with fail
    have HSP : Hid ((Dv.fresh 12).spent ≤ 100000) := Lib.hid (Nat.zero_le _)
    have HAN : Hid (a < (Dv.fresh 12).n) := Lib.hid ha12
    go_loopg [17] (1 + t) (fun gn i wr => ∃ (j : Nat) (m : Pm) (T : Nat → Prop), i = .int .i64 (j : Int) ∧ j + gn = 1 + t ∧ Hid (PW PAt w wr p L M v (Dv.fresh 12) m T) ∧ Hid ((j = 0 ∧ m = new_ (1 + s)) ∨ (1 ≤ j ∧ PI a (1 + s) j 1 m)))
    case atStart => exact ⟨0, _, T, rfl, by omega, HP2, Lib.hid (.inl ⟨rfl, rfl⟩)⟩
    case round =>
      clear HP2
      obtain ⟨j, m, T, rfl, hog, HP, HST⟩ := hrel
      rcases Nat.lt_or_ge j (1 + t) with hlt | hge
      · have hdi : decide ((j : Int) < (1 : Int) + (t : Int)) = true := decide_eq_true (by omega)
        have HRD : Hid (m.reads ≤ 100000) := Lib.hid (by
          rcases HST.out with ⟨_, h⟩ | ⟨_, h⟩
          · rw [h]; exact Nat.zero_le _
          · have := h.reads; omega)
        have HPI : Hid (∀ i f, m.F i = some f → f.pins ≤ 100000) := Lib.hid (fun i f hf => by
          rcases HST.out with ⟨_, h⟩ | ⟨_, h⟩
          · rw [h] at hf; cases hf
          · have := h.pins i f hf; omega)
        go_wp2_with fail
        refine (HP.out.pin HK.out HSP.out HRD.out a HAN.out HPI.out).mono ?_
        rintro e x1 ⟨E, D', m1, m', T', rfl, hh, hm, hp, _⟩
        have hst : E = 0 ∧ D' = Dv.fresh 12 ∧ PI a (1 + s) (j + 1) 1 m' := by
          rcases HST.out with ⟨h0, h⟩ | ⟨h0, h⟩
          · subst h0
            rw [h] at hh
            exact PI.start (by omega) hh hm
          · exact h.more hh hm
        obtain ⟨rfl, rfl, hst⟩ := hst
        have HP1 := Lib.hid hp
        have HS1 := Lib.hid hst
        clear hh hm hp hst HP HST HRD HPI
        go_wp2_with fail
        go_roundg (gk - 1)
        case measure => omega
        case rel => exact ⟨j + 1, m', T', by go_num, by omega, HP1, Lib.hid (.inr ⟨by omega, HS1.out⟩)⟩
      · obtain rfl : j = 1 + t := by omega
        have hdi : decide (((1 + t : Nat) : Int) < (1 : Int) + (t : Int)) = false := decide_eq_false (by omega)
        have HPI0 : Hid (PI a (1 + s) (1 + t) 1 m) := Lib.hid (by
          rcases HST.out with ⟨h, _⟩ | ⟨_, h⟩
          · omega
          · exact h)
        clear HST hge
        go_wp2_with fail
        clear hdi
        go_loopg [18, 19, 20, 21, 22, 23, 24] len (fun gn i _ _ _ _ _ _ wr => ∃ (j : Nat) (m : Pm) (T : Nat → Prop), i = .int .i64 (j : Int) ∧ j + gn = len ∧ Hid (PW PAt w wr p L M v (Dv.fresh 12) m T) ∧ Hid (PI a (1 + s) (1 + t) (1 + j) m))
        case atStart => exact ⟨0, m, T, rfl, by omega, HP, HPI0⟩
        case round =>
          clear HP HPI0
          obtain ⟨j, m, T, rfl, hog, HP, HPI⟩ := hrel
          have HRD : Hid (m.reads ≤ 100000) := Lib.hid (by have := HPI.out.reads; omega)
          obtain ⟨gx, hgx⟩ : ∃ gx, gx = gk := ⟨_, rfl⟩
          subst hgx
          rcases Nat.lt_or_ge j len with hlt | hge
          · have hdj : decide (j < len) = true := decide_eq_true hlt
            have hdi : decide ((j : Int) < (len : Int)) = true := decide_eq_true (by omega)
            obtain ⟨b1, o1, rfl, hc⟩ := HL.out.get HP.out.dr.bel hlt
            obtain ⟨y, hy⟩ : ∃ y, y = lb (f j) := ⟨_, rfl⟩
            have hand : bits .and .i64 (f j) 255 = (y : Int) := by rw [hy]; exact and_lb _
            obtain ⟨b, hb⟩ : ∃ b, b = at12 (f j) := ⟨_, rfl⟩
            have hb12 : b < 12 := by rw [hb]; exact at12_lt _
            have hy12 : Int.tmod (y : Int) 12 = (b : Int) := by rw [hy, hb]; exact at12_mod _
            clear hy hb
            go_wp2_with fail
            refine (HP.out.get HK.out HSP.out HRD.out b (show b < 12 from hb12)).mono ?_
            rintro e x1 ⟨E, A1, N1, c1, l1, D1, m1, T1, rfl, _, hg⟩
            obtain ⟨rfl, hpi, hE⟩ := HPI.out.get (by omega) hg.held
            have HP1 := Lib.hid hg.pw
            have HPI1 : Hid (PI a (1 + s) (1 + t) (1 + (j + 1)) m1) := Lib.hid (by rw [show 1 + (j + 1) = 1 + j + 1 from by omega]; exact hpi)
            have HRD1 : Hid (m1.reads ≤ 100000) := Lib.hid (by have := hpi.reads; omega)
            have HMM : Hid (a ∈ keys (Dv.fresh 12).n m1.F) := Lib.hid (hpi.mem ha12)
            have hE2 : E = 0 ∨ (E = 5 ∧ s = 0 ∧ b ≠ a) := by
              rcases hE with h | ⟨h1, h2, h3⟩
              · exact .inl h
              · exact .inr ⟨h1, by omega, h3⟩
            clear hg hpi hE hc HP HPI HRD hand hy12
            rcases hE2 with h0 | ⟨h0, h1, h2⟩
            focus
              subst h0
              go_upto_region 23 with fail
            rotate_left
            focus
              subst h0
              subst h1
              have hne : ((b : Int) == (a : Int)) = false := by simp; omega
              go_upto_region 23 with fail
              clear hne h2
            all_goals
              go_wp2_with fail
              refine (HP1.out.held HK.out HSP.out HRD1.out).mono ?_
              rintro e x2 ⟨A2, q, c2, rfl, hq, how, hb2⟩
              obtain ⟨ks, hks⟩ : ∃ ks, ks = keys (Dv.fresh 12).n m1.F := ⟨_, rfl⟩
              rw [← hks] at hq how HMM
              have HQ := Lib.hid hq
              have hq12 : q ≤ 12 := by
                rw [hq, hks]
                have := List.length_filter_le (fun i => (m1.F i).isSome) (List.range 12)
                rw [List.length_range] at this
                exact this
              have hqc : q ≤ c2 := by
                rcases how.2 with ⟨e, hn⟩ | ⟨g, cc, cur, e, _, _, hnc, _⟩
                · injection e with e1 e2 e3; omega
                · injection e with _ e2 e3; omega
              have HCL : Hid (∀ i, i < q → ∃ g y, A2 = some ⟨g, 0, none⟩ ∧ x2.cell? ⟨g, i, none⟩ = some (.int .i64 ((y : Nat) : Int)) ∧ ks[i]? = some y) := Lib.hid (fun i hi => by
                obtain ⟨g, e, _, hgl, hc⟩ := ints_cells how (by omega)
                refine ⟨g, ks.getD i 0, e, hc i (by omega), ?_⟩
                rw [List.getD_eq_getElem?_getD, List.getElem?_eq_getElem (by omega)]
                rfl)
              have HP2 := Lib.hid (HP1.out.below HK.out hb2)
              clear hq how hb2 hks HP1
              go_wp2_with fail
              go_loopg [22, 24] q (fun gn h i wr => ∃ (k : Nat), h = .bool (among ks a k) ∧ i = .int .i64 (k : Int) ∧ k + gn = q ∧ wr = x2)
              case atStart => exact ⟨0, rfl, rfl, by omega, rfl⟩
              case round =>
                obtain ⟨k, rfl, rfl, hok, rfl⟩ := hrel
                rcases Nat.lt_or_ge k q with hkq | hkq
                · have hdk : decide (k < q) = true := decide_eq_true hkq
                  have hdl : decide ((k : Int) < (q : Int)) = true := decide_eq_true (by omega)
                  obtain ⟨g, y, rfl, hcy, hyk⟩ := HCL.out k hkq
                  have hst := among_step (a := a) hyk
                  cases hav : among ks a k with
                  | true =>
                    rw [hav] at hst
                    replace hst : among ks a (k + 1) = true := hst
                    have HSTP := Lib.hid hst
                    clear hst hyk hav
                    go_wp2_with fail
                    go_roundg (gk - 1)
                    case measure => omega
                    case rel => exact ⟨k + 1, by rw [HSTP.out], by go_num, by omega, rfl⟩
                  | false =>
                    rw [hav, Bool.false_or] at hst
                    obtain ⟨bv, hbv⟩ : ∃ bv, bv = (y == a) := ⟨_, rfl⟩
                    rw [← hbv] at hst
                    have hbi : ((y : Int) == (a : Int)) = bv := by rw [hbv, Bool.eq_iff_iff, beq_iff_eq, beq_iff_eq]; exact ⟨fun h => by omega, fun h => by omega⟩
                    have HSTP := Lib.hid hst
                    clear hst hyk hav hbv
                    go_wp2_with fail
                    go_roundg (gk - 1)
                    case measure => omega
                    case rel => exact ⟨k + 1, by rw [HSTP.out], by go_num, by omega, rfl⟩
                · obtain rfl : k = q := by omega
                  have hall : among ks a k = true := by rw [HQ.out]; exact among_all HMM.out
                  rw [hall]
                  clear hall HCL hkq
                  go_wp2_with fail
                  go_roundg (gx - 1)
                  case measure => omega
                  case rel => exact ⟨j + 1, m1, T1, by go_num, by omega, HP2, HPI1⟩
          · obtain rfl : j = len := by omega
            clear hge
            go_wp2_with fail
            go_loopg [25] (1 + t) (fun gn i wr => ∃ (k : Nat) (m : Pm) (T : Nat → Prop), i = .int .i64 (k : Int) ∧ k + gn = 1 + t ∧ Hid (PW PAt w wr p L M v (Dv.fresh 12) m T) ∧ Hid (PI a (1 + s) gn (1 + j) m))
            case atStart => exact ⟨0, m, T, rfl, by omega, HP, HPI⟩
            case round =>
              clear HP HPI HRD
              obtain ⟨k, m, T, rfl, hok, HP, HPI⟩ := hrel
              have HRD : Hid (m.reads ≤ 100000) := Lib.hid (by have := HPI.out.reads; omega)
              have HPN : Hid (∀ i f, m.F i = some f → f.pins ≤ 1000000) := Lib.hid (fun i f hf => by have := HPI.out.pins i f hf; omega)
              rcases Nat.lt_or_ge k (1 + t) with hlt | hge
              · have hdi : decide ((k : Int) < (1 : Int) + (t : Int)) = true := decide_eq_true (by omega)
                obtain ⟨gn, rfl⟩ : ∃ gn, gk = gn + 1 := ⟨gk - 1, by omega⟩
                obtain ⟨hu, hpi⟩ := HPI.out.unpin
                go_wp2_with fail
                refine (HP.out.unpin HK.out HSP.out HRD.out a HAN.out HPN.out).mono ?_
                rintro e x1 ⟨T1, rfl, hp, _⟩
                rw [hu]
                have HP1 := Lib.hid hp
                have HPI1 := Lib.hid hpi
                clear hp hpi hu HP HPI
                go_wp2_with fail
                go_roundg gn
                case measure => omega
                case rel => exact ⟨k + 1, _, T1, by go_num, by omega, HP1, HPI1⟩
              · obtain rfl : k = 1 + t := by omega
                obtain rfl : gk = 0 := by omega
                have hdi : decide (((1 + t : Nat) : Int) < (1 : Int) + (t : Int)) = false := decide_eq_false (by omega)
                obtain ⟨b, hb⟩ : ∃ b, b = (a + 1) % 12 := ⟨_, rfl⟩
                have hb12 : b < 12 := by rw [hb]; exact Nat.mod_lt _ (by omega)
                have hba : Int.tmod ((a : Int) + 1) 12 = (b : Int) := by rw [Int.tmod_eq_emod_of_nonneg (by omega), hb]; omega
                clear hb hge
                go_wp2_with fail
                refine (HP.out.get HK.out HSP.out HRD.out b (show b < 12 from hb12)).mono ?_
                rintro e x1 ⟨E, A1, N1, c1, l1, D1, m1, T1, rfl, _, hg⟩
                obtain ⟨rfl, rfl, hu, hrd, hpn⟩ := HPI.out.last hg.held
                have HP1 := Lib.hid hg.pw
                have HRD1 : Hid (m1.reads ≤ 100000) := Lib.hid (by omega)
                have HPN1 : Hid (∀ i f, m1.F i = some f → f.pins ≤ 1000000) := Lib.hid (fun i f hf => by have := hpn i f hf; omega)
                have HU := Lib.hid hu
                clear hg hu hrd hpn HP HPI HRD HPN hdi hba
                go_wp2_with fail
                refine (HP1.out.unpin HK.out HSP.out HRD1.out a HAN.out HPN1.out).mono ?_
                rintro e x2 ⟨T2, rfl, hp, _⟩
                rw [HU.out]
                have HB2 := Lib.hid hp.dr.bel
                clear hp
                go_wp2_with fail
                go_ret
                exact ⟨rfl, HB2.out⟩
  · have hd8 : decide ((60 : Int) < (len : Int)) = true := decide_eq_true (by omega)
    go_enter Try.func5, Try.ntmps5
    go_wp2_with fail
    refine HAW.out.mono ?_
    rintro e w0 ⟨rfl, hb0⟩
    have HB0 := Lib.hid hb0
    clear hb0 HAW
    go_wp2_with fail
    go_ret
    exact ⟨rfl, HB0.out⟩

end Go.Proofs.Ytnpgmiokimahiaa
