/-
  PoolTells, over the words.
-/
import Derived.Test.YtnpgmiokimahiaaPt
import Derived.Test.YtnpgmiokimahiaaWaitsWalk
import Derived.Test.YtnpgmiokimahiaaSince
import Derived.BigQuiet
import Derived.Deep.QuietTactic
namespace Go.Proofs.Ytnpgmiokimahiaa
set_option maxRecDepth 100000
set_option linter.unusedVariables false
open Go.RowKit Pl

def upTo (i : Nat) : Nat → List UInt8 := fun j => if j < i then Dv.zeros else []
theorem upTo_step (i : Nat) : updF (upTo i) i Dv.zeros = upTo (i + 1) := by
  funext j
  unfold updF upTo
  by_cases e : j = i
  · subst e; rw [if_pos rfl, if_pos (by omega)]
  · rw [if_neg e]
    by_cases h : j < i
    · rw [if_pos h, if_pos (by omega)]
    · rw [if_neg h, if_neg (by omega)]
theorem wantV_all : wantV (upTo 12) = wantV fun _ => Dv.zeros := by
  unfold wantV
  apply List.map_congr_left
  intro i hi
  have := List.mem_range.1 hi
  show Value.string (str (if i < 12 then Dv.zeros else [])) = _
  rw [if_pos this]
theorem run_add_str (a b : List UInt8) (h : a.length + b.length ≤ 1000000) (w : World) : (binOp .add 9 (.string (str a)) (.string (str b))).run Try.prog w = .ok (.string (str (a ++ b))) w := by
  have hs : ¬ (((str a).size + (str b).size : Nat) : Int) > IntKind.i64.max := by
    rw [str_size, str_size]
    show ¬ ((a.length + b.length : Nat) : Int) > 9223372036854775807
    omega
  rw [binOp_string_add]
  unfold Op.stringOp
  simp only
  rw [if_neg hs, str_append]
  rfl
theorem exec_add_str {W : World} {o : Oper} {ρ : Operand → Value} {x y : Operand} {ty : TypeId} (ho : o.op = .binOp .add 9 x y ty) {a b : List UInt8} (h : a.length + b.length ≤ 1000000) (hx : ρ x = .string (str a)) (hy : ρ y = .string (str b)) {v : ByteArray} (hv : v = str (a ++ b)) : (execOp ρ o).run Try.prog W = .ok (.value (.string v)) W := by
  subst hv
  unfold execOp
  simp [ho, hx, hy, eqGuard, run_add_str a b h]
theorem run_cut_str (a : List UInt8) (h : a.length ≤ 64) (w : World) : (Instr.slice 9 (.string (str (a ++ List.replicate 64 0))) none (some (.int .i64 64)) none).run Try.prog w = .ok (.string (str (Dv.pad a))) w := by
  rw [run_slice_string_h w 9 _ Try.underlying9 .i64 64 (by omega) (by rw [str_size, List.length_append, List.length_replicate]; omega)]
  rw [show (64 : Int).toNat = 64 from rfl, str_cut a h]

set_option maxHeartbeats 4000000 in
theorem tells_walk {PAt : Lay} (K : PoolOk PAt) (z : Int) (A : Option Addr) (len c : Nat) (X : Nat → Deed) (w : World) (hl : Deeds w A len X) :
    Calls Try.prog 3 #[.int .i64 z, .slice A len c] w fun e w' => e = .returned (.bool true) ∧ Below w.heap.size w w' := by
  have HL := Lib.hid hl
  have HAW := Lib.hid (awake_any K w)
  have HK := Lib.hid K
  clear hl K
  obtain ⟨s, hs⟩ : ∃ s, s = l3 z := ⟨_, rfl⟩
  have hs8 : s < 8 := by rw [hs]; exact l3_lt z
  have hz : bits .and .i64 z 7 = (s : Int) := by rw [hs]; exact and_l3 z
  clear hs
  go_enter Try.func3, Try.ntmps3
  go_wp2_with fail
  refine HAW.out.mono ?_
  rintro e w0 ⟨rfl, hb0⟩
  have HB0 := Lib.hid hb0
  have HL0 : Hid (Deeds w0 A len X) := Lib.hid (by
    rcases HL.out with h | ⟨b, o, e, hb, hd⟩
    · exact .inl h
    · refine .inr ⟨b, o, e, Nat.lt_of_lt_of_le hb hb0.size, fun i hi => ?_⟩
      obtain ⟨c0, c1, c2, B, cc, c3, hr, hc⟩ := hd i hi
      exact ⟨(hb0.cell (p := ⟨b, o + i * 4, none⟩) hb).trans c0, (hb0.cell (p := ⟨b, o + i * 4 + 1, none⟩) hb).trans c1, (hb0.cell (p := ⟨b, o + i * 4 + 2, none⟩) hb).trans c2, B, cc, (hb0.cell (p := ⟨b, o + i * 4 + 3, none⟩) hb).trans c3, hr.up hb0, hc⟩)
  clear hb0 HAW
  go_wp2_with fail
  refine (small_any A len c X w0 HL0.out).mono ?_
  rintro e w1 ⟨rfl, hsm⟩
  rcases hsm with ⟨rfl, hfew⟩ | rfl
  · have h60 := hfew.1
    have HFW := Lib.hid hfew
    clear hfew HL0
    go_wp2_with fail
    refine (newdr HB0.out 12 (by omega) (by omega)).mono ?_
    rintro e w2 ⟨p, L, M, rfl, hdr, _, _⟩
    have HD1 := Lib.hid hdr
    have HF := Lib.hid (Dv.free_fresh 12)
    clear hdr HB0
    go_wp2_with fail
    refine (PW.made HK.out HD1.out HF.out (1 + s) (by omega)).mono ?_
    rintro e w3 ⟨v, T, rfl, hpw, _, _⟩
    obtain ⟨w7, hmk, hvr, hb7⟩ := make_row (t := 32) Try.underlying32 string_info rfl w3 12 (by omega) (by omega)
    have HMK := Lib.hid hmk
    have HV7 : Hid (Vr w7 w3.heap.size 9 (wantV (upTo 0))) := Lib.hid (by
      have e : wantV (upTo 0) = wantV fun _ => [] := rfl
      rw [e, ← wantV_zero]; exact hvr)
    have HP7 := Lib.hid (hpw.below HK.out hb7)
    have HO7 : Hid (Oth w7 p L M T w3.heap.size) := Lib.hid ⟨hvr.lt, (Oth.new (o := .cells #[] 4) HK.out hpw).no⟩
    have HWG : Hid (w.heap.size ≤ w3.heap.size) := Lib.hid hpw.dr.bel.size
    clear hpw hmk hvr hb7 HD1 HF
    go_wp2_with (at_make; refine wpList_make_run rfl 32 _ _ rfl rfl rfl HMK.out ?_)
    generalize w3.heap.size = g at *
    clear HMK
    go_loopg [11] 12 (fun gn i wr => ∃ (j : Nat), i = .int .i64 (j : Int) ∧ j + gn = 12 ∧ Hid (PW PAt w wr p L M v (Dv.fresh 12) (new_ (1 + s)) T) ∧ Hid (Vr wr g 9 (wantV (upTo j))) ∧ Hid (Oth wr p L M T g))
    case atStart => exact ⟨0, rfl, by omega, HP7, HV7, HO7⟩
    case round =>
      clear HP7 HV7 HO7
      obtain ⟨j, rfl, hog, HP, HV, HO⟩ := hrel
      rcases Nat.lt_or_ge j 12 with hlt | hge
      · have hdi : decide ((j : Int) < 12) = true := decide_eq_true (by omega)
        obtain ⟨w4, hmk, hrd, hb4⟩ := make_zeros wr 64 (by omega)
        have HMK := Lib.hid hmk
        have hcv := rd_conv (c := 64) hrd List.length_replicate
        have HP4 := Lib.hid (HP.out.below HK.out hb4)
        have HV4 := Lib.hid (HV.out.below hb4)
        have HO4 := Lib.hid (HO.out.below hb4)
        have c0 := (HV4.out.cell j).trans (wantV_at _ hlt)
        have f0 := HV4.out.fr j
        have hg := setCell_grown w4 g j (.string (str (List.replicate 64 0)))
        have HP5 := Lib.hid (HP4.out.turn HK.out HO4.out hg HWG.out)
        have HO5 := Lib.hid (HO4.out.size hg.size)
        have HV5 : Hid (Vr (w4.setCell ⟨g, j, none⟩ (.string (str (List.replicate 64 0)))) g 9 (wantV (upTo (j + 1)))) := Lib.hid (by
          have h := HV4.out.set_ j (.string (str (List.replicate 64 0)))
          rw [wantV_set _ hlt] at h
          rw [← upTo_step]
          exact h)
        clear hmk hrd hb4 hg HP HV HO HP4 HV4 HO4
        go_wp2_with (at_make; refine wpList_make_run rfl 33 _ _ rfl rfl rfl HMK.out ?_)
        go_roundg (gk - 1)
        case measure => omega
        case rel => exact ⟨j + 1, by go_num, by omega, HP5, HV5, HO5⟩
      · obtain rfl : j = 12 := by omega
        clear hge
        have HVA : Hid (Vr wr g 9 (wantV fun _ => Dv.zeros)) := Lib.hid (by rw [← wantV_all]; exact HV.out)
        clear HV
        go_wp2_with fail
        go_loopg [12, 13, 14, 15, 16, 17, 18] len (fun gn i _ _ _ _ _ _ wr => ∃ (j : Nat) (f : Nat → List UInt8) (D : Dv) (m : Pm) (T : Nat → Prop), i = .int .i64 (j : Int) ∧ j + gn = len ∧ Hid (PW PAt w wr p L M v D m T) ∧ Hid (TI j f D m) ∧ Hid (Vr wr g 9 (wantV f)) ∧ Hid (Oth wr p L M T g))
        case atStart => exact ⟨0, _, _, _, T, rfl, by omega, HP, Lib.hid TI.start, HVA, HO⟩
        case round =>
          clear HP HVA HO
          obtain ⟨j, f, D, m, T, rfl, hog, HP, HT, HV, HO⟩ := hrel
          have hj60 : j ≤ 60 := by omega
          have HSP : Hid (D.spent ≤ 100000) := Lib.hid (by have := HT.out.spent; omega)
          have HRD : Hid (m.reads ≤ 100000) := Lib.hid (by have := HT.out.reads; omega)
          rcases Nat.lt_or_ge j len with hlt | hge
          · have hdj : decide (j < len) = true := decide_eq_true hlt
            have hdi : decide ((j : Int) < (len : Int)) = true := decide_eq_true (by omega)
            obtain ⟨b, o, B, n, cb, rfl, hD⟩ := HL.out.get hlt
            have HD := Lib.hid hD
            have hb100 := HFW.out.2 j hlt
            obtain ⟨x, hx⟩ : ∃ x, x = X j := ⟨_, rfl⟩
            rw [← hx] at HD hb100
            clear hx hD
            obtain ⟨what, at0, lsn, bs⟩ := x
            replace hb100 : bs.length ≤ 100 := hb100
            have HBS := Lib.hid hb100
            have hc1 := HD.out.c1 wr HP.out.dr.bel
            have hc0 := HD.out.c0 wr HP.out.dr.bel
            have hc2 := HD.out.c2 wr HP.out.dr.bel
            have hc3 := HD.out.c3 wr HP.out.dr.bel
            simp only at hc0 hc1 hc2
            obtain ⟨y, hy⟩ : ∃ y, y = lb at0 := ⟨_, rfl⟩
            have hand : bits .and .i64 at0 255 = (y : Int) := by rw [hy]; exact and_lb _
            obtain ⟨a, ha⟩ : ∃ a, a = at12 at0 := ⟨_, rfl⟩
            have ha12 : a < 12 := by rw [ha]; exact at12_lt _
            have hy12 : Int.tmod (y : Int) 12 = (a : Int) := by rw [hy, ha]; exact at12_mod _
            obtain ⟨u, hu⟩ : ∃ u, u = lw lsn := ⟨_, rfl⟩
            have hu16 : u < 16 := by rw [hu]; exact lw_lt _
            have hau : bits .and .i64 lsn 15 = (u : Int) := by rw [hu]; exact and_lw _
            have HAN : Hid (a < D.n) := Lib.hid (by rw [HT.out.n]; exact ha12)
            clear hy ha hu hb100
            by_cases hput : 3 ≤ what ∧ what ≤ 5
            · have h3 : decide ((3 : Int) ≤ what) = true := decide_eq_true hput.1
              have h5 : decide (what ≤ 5) = true := decide_eq_true hput.2
              clear hput
              go_wp2_with fail
              clear hc0 hc1 hc2 hc3
              refine (HP.out.put HK.out HSP.out HRD.out a HAN.out (u : Int) (by omega) (HP.out.firm HD.out.rd) HD.out.n_ HD.out.cap).mono ?_
              rintro e x1 ⟨E, D1, m1, T1, rfl, hp⟩
              have HT1 := Lib.hid (HT.out.putd (by omega) ha12 hp.put)
              have HP1 := Lib.hid hp.pw
              have HO1 := Lib.hid (HO.out.next hp.nx)
              have HV1 := Lib.hid (HV.out.keep (hp.nx.blk HO.out))
              clear hp HP HT HV HO HRD HSP
              have HC3 : Hid (∀ V, Since x1 V → V.cell? ⟨b, o + j * 4 + 3, none⟩ = some (.slice B n cb)) := Lib.hid (fun V hV => HD.out.c3 V (HP1.out.dr.bel.trans (Below.mono hV HP1.out.dr.bel.size)))
              have HKB : Hid (∀ V, Since x1 V → (convert 33 9 (.slice B n cb)).run Try.prog V = .ok (.string (str bs)) V) := Lib.hid (fun V hV => rd_conv (HD.out.rd.below (HP1.out.dr.bel.trans (Below.mono hV HP1.out.dr.bel.size))) HD.out.n_)
              obtain ⟨w4, hmk, hrd, hb4⟩ := make_zeros (World.drew x1) 64 (by omega)
              have HMK := Lib.hid hmk
              have HB4 := Lib.hid hb4
              obtain ⟨zs, hzs⟩ : ∃ zs, zs = List.replicate 64 (0 : UInt8) := ⟨_, rfl⟩
              have hzl : zs.length = 64 := by rw [hzs]; exact List.length_replicate
              rw [← hzs] at hrd
              have HKZ : Hid (∀ V, Since w4 V → (convert 33 9 (.slice (some ⟨x1.heap.size, 0, none⟩) 64 64)).run Try.prog V = .ok (.string (str zs)) V) := Lib.hid (fun V hV => rd_conv (hrd.below hV) hzl)
              obtain ⟨sx, hsx⟩ : ∃ sx, sx = str (bs ++ zs) := ⟨_, rfl⟩
              have HSX := Lib.hid hsx
              have HZS := Lib.hid hzs
              have HLE : Hid (bs.length + zs.length ≤ 1000000) := Lib.hid (by have := HBS.out; omega)
              have hsz : (64 : Int) ≤ (sx.size : Int) := by rw [hsx, str_size, List.length_append, hzl]; omega
              clear hsx hzs hzl
              clear hmk hb4 hrd
              go_upto_region 23 with fail
              refine wp_region_since (by kernel_rfl) ?_
              have hS : Since x1 (World.drew x1) := (Below.refl _ _).drew
              refine wpAnyH_take (i := 0) (oi := ⟨some 119, _, _, _, _, _⟩) (v := ?_) rfl (by kernel_rfl) (by kernel_rfl) (by kernel_rfl) (fun _ _ _ h => h) (Or.inl ⟨by rfl, ?_⟩) hS ?_
              rotate_left
              · intro W hW; go_simp; with_reducible rfl
              try simp only [Act.put, List.setIfInBounds_toArray, List.set_cons_zero, List.set_cons_succ]
              refine wpAnyH_take (i := 1) (oi := ⟨some 120, _, _, _, _, _⟩) (v := ?_) rfl (by kernel_rfl) (by kernel_rfl) (by kernel_rfl) (fun _ _ _ h => h) (Or.inl ⟨by rfl, ?_⟩) hS ?_
              rotate_left
              · intro W hW; go_simp; with_reducible rfl
              try simp only [Act.put, List.setIfInBounds_toArray, List.set_cons_zero, List.set_cons_succ]
              refine wpAnyH_take (i := 2) (oi := ⟨some 121, _, _, _, _, _⟩) (v := ?_) rfl (by kernel_rfl) (by kernel_rfl) (by kernel_rfl) (fun _ _ _ h => h) (Or.inl ⟨by rfl, ?_⟩) hS ?_
              rotate_left
              · intro W hW; go_simp; with_reducible rfl
              try simp only [Act.put, List.setIfInBounds_toArray, List.set_cons_zero, List.set_cons_succ]
              refine wpAnyH_take (i := 3) (oi := ⟨some 122, _, _, _, _, _⟩) (v := ?_) rfl (by kernel_rfl) (by kernel_rfl) (by kernel_rfl) (fun _ _ _ h => h) (Or.inl ⟨by rfl, ?_⟩) hS ?_
              rotate_left
              · intro W hW; go_simp; with_reducible rfl
              try simp only [Act.put, List.setIfInBounds_toArray, List.set_cons_zero, List.set_cons_succ]
              refine wpAnyH_take (i := 4) (oi := ⟨some 123, _, _, _, _, _⟩) (v := ?_) rfl (by kernel_rfl) (by kernel_rfl) (by kernel_rfl) (fun _ _ _ h => h) (Or.inl ⟨by rfl, ?_⟩) hS ?_
              rotate_left
              · intro W hW
                have q0 := HC3.out W hW
                go_simp
                with_reducible rfl
              try simp only [Act.put, List.setIfInBounds_toArray, List.set_cons_zero, List.set_cons_succ]
              refine wpAnyH_take (i := 5) (oi := ⟨some 124, _, _, _, _, _⟩) (v := ?_) rfl (by kernel_rfl) (by kernel_rfl) (by kernel_rfl) (fun _ _ _ h => h) (Or.inl ⟨by rfl, ?_⟩) hS ?_
              rotate_left
              · intro W hW
                have q0 := HKB.out W hW
                go_simp
                with_reducible rfl
              try simp only [Act.put, List.setIfInBounds_toArray, List.set_cons_zero, List.set_cons_succ]
              refine wpAnyH_ready (rs := [6]) (by kernel_rfl) (by simp) ?_
              refine AllReadyH.cons (o := ⟨some 125, _, _, _, _, _⟩) rfl (fun Kr hKr => ?_) AllReadyH.nil
              -- operation 6: a step
              rw [if_pos (by kernel_rfl)]
              refine wp_make 33 _ _ rfl rfl rfl HMK.out ?_
              show Kr _ _
              refine hKr.out _ _ ?_ (fun _ => ?_)
              · exact since_trans hS HB4.out
              clear hKr Kr
              refine wpAnyH_since (since_trans hS HB4.out) ?_
              clear hS
              have hS : Since w4 w4 := Below.refl _ _
              try simp only [Act.put, List.setIfInBounds_toArray, List.set_cons_zero, List.set_cons_succ]
              refine wpAnyH_take (i := 7) (oi := ⟨some 126, _, _, _, _, _⟩) (v := ?_) rfl (by kernel_rfl) (by kernel_rfl) (by kernel_rfl) (fun _ _ _ h => h) (Or.inl ⟨by rfl, ?_⟩) hS ?_
              rotate_left
              · intro W hW
                have q0 := HKZ.out W hW
                go_simp
                with_reducible rfl
              try simp only [Act.put, List.setIfInBounds_toArray, List.set_cons_zero, List.set_cons_succ]
              refine wpAnyH_take (i := 8) (oi := ⟨some 127, _, _, _, _, _⟩) (v := (.string sx)) rfl (by kernel_rfl) (by kernel_rfl) (by kernel_rfl) (fun _ _ _ h => h) (Or.inl ⟨by rfl, fun W hW => exec_add_str rfl HLE.out rfl rfl HSX.out⟩) hS ?_
              try simp only [Act.put, List.setIfInBounds_toArray, List.set_cons_zero, List.set_cons_succ]
              refine wpAnyH_take (i := 9) (oi := ⟨some 16, _, _, _, _, _⟩) (v := ?_) rfl (by kernel_rfl) (by kernel_rfl) (by kernel_rfl) (fun _ _ _ h => h) (Or.inl ⟨by rfl, ?_⟩) hS ?_
              rotate_left
              · intro W hW; go_simp; with_reducible rfl
              try simp only [Act.put, List.setIfInBounds_toArray, List.set_cons_zero, List.set_cons_succ]
              refine wpAnyH_done (by kernel_rfl) ?_ _
              have HBW := Lib.hid ((show Since x1 (World.drew x1) from (Below.refl _ _).drew).trans (HB4.out.mono (Nat.le_refl _)))
              have HP4 := Lib.hid (HP1.out.below HK.out HBW.out)
              have HV4 := Lib.hid (HV1.out.below HBW.out)
              have HO4 := Lib.hid (HO1.out.below HBW.out)
              clear hS HP1 HV1 HO1 HBW HB4 HKB HKZ HLE HMK HC3
              cases hE : (E == 0) with
              | true =>
                have h0 : E = 0 := eq_of_beq hE
                obtain ⟨h64, hti⟩ := HT1.out.1 h0
                have HT4 := Lib.hid hti
                obtain ⟨sp, hsp⟩ : ∃ sp, sp = str (Dv.pad bs) := ⟨_, rfl⟩
                have hext : sx.extract 0 64 = sp := by rw [HSX.out, HZS.out, hsp]; exact str_cut bs h64
                have c0 := (HV4.out.cell a).trans (wantV_at _ ha12)
                have f0 := HV4.out.fr a
                have hg := setCell_grown w4 g a (.string sp)
                have HP5 := Lib.hid (HP4.out.turn HK.out HO4.out hg HWG.out)
                have HO5 := Lib.hid (HO4.out.size hg.size)
                have HV5 : Hid (Vr (w4.setCell ⟨g, a, none⟩ (.string sp)) g 9 (wantV (updF f a (Dv.pad bs)))) := Lib.hid (by
                  have h := HV4.out.set_ a (.string sp)
                  rw [hsp, wantV_set _ ha12] at h
                  rw [hsp]
                  exact h)
                clear hti h64 hg h0 hsp HT1 HP4 HV4 HO4
                go_wp2_with fail
                go_roundg (gk - 1)
                case measure => omega
                case rel => exact ⟨j + 1, _, D1, m1, T1, by go_num, by omega, HP5, HT4, HV5, HO5⟩
              | false =>
                have h0 : E ≠ 0 := ne_of_beq_false hE
                obtain ⟨hti, hE5⟩ := HT1.out.2 h0
                have HT4 := Lib.hid hti
                clear hti h0 HT1
                rcases hE5 with rfl | rfl
                all_goals
                  clear hE
                  go_wp2_with fail
                  go_roundg (gk - 1)
                  case measure => omega
                  case rel => exact ⟨j + 1, _, D1, m1, T1, by go_num, by omega, HP4, HT4, HV4, HO4⟩
            · have h35 : decide ((3 : Int) ≤ what) = false ∨ (decide ((3 : Int) ≤ what) = true ∧ decide (what ≤ 5) = false) := by
                by_cases h : 3 ≤ what
                · exact .inr ⟨decide_eq_true h, decide_eq_false (fun h2 => hput ⟨h, h2⟩)⟩
                · exact .inl (decide_eq_false h)
              clear hput
              by_cases h8 : what = 8
              · subst h8
                have h3 : decide ((3 : Int) ≤ 8) = true := by decide
                have h5 : decide ((8 : Int) ≤ 5) = false := by decide
                clear h35
                go_wp2_with fail
                refine (HP.out.tell HK.out HSP.out HRD.out (u : Int) ⟨by omega, by omega⟩).mono ?_
                rintro e x1 ⟨T1, rfl, hp, hnx⟩
                have HP1 := Lib.hid hp
                have HT1 := Lib.hid (HT.out.tell (u : Int))
                have HO1 := Lib.hid (HO.out.next hnx)
                have HV1 := Lib.hid (HV.out.keep (hnx.blk HO.out))
                clear hp hnx hc0 hc1 hc2 hc3 HP HT HRD HSP HV HO
                go_wp2_with fail
                go_roundg (gk - 1)
                case measure => omega
                case rel => exact ⟨j + 1, f, D, _, T1, by go_num, by omega, HP1, HT1, HV1, HO1⟩
              · by_cases h9 : what = 9
                · subst h9
                  have h3 : decide ((3 : Int) ≤ 9) = true := by decide
                  have h5 : decide ((9 : Int) ≤ 5) = false := by decide
                  clear h35 h8
                  go_wp2_with fail
                  refine (HP.out.wash HK.out HSP.out HRD.out).mono ?_
                  rintro e x1 ⟨D1, m1, T1, rfl, hcl, hp, hnx⟩
                  have HP1 := Lib.hid hp
                  have HT1 := Lib.hid (HT.out.wash hcl)
                  have HO1 := Lib.hid (HO.out.next hnx)
                  have HV1 := Lib.hid (HV.out.keep (hnx.blk HO.out))
                  clear hp hnx hcl hc0 hc1 hc2 hc3 HP HT HRD HSP HV HO
                  go_wp2_with fail
                  go_roundg (gk - 1)
                  case measure => omega
                  case rel => exact ⟨j + 1, f, D1, m1, T1, by go_num, by omega, HP1, HT1, HV1, HO1⟩
                · have h8b : (what == 8) = false := beq_eq_false_iff_ne.2 h8
                  have h9b : (what == 9) = false := beq_eq_false_iff_ne.2 h9
                  clear h8 h9
                  rcases h35 with h3 | ⟨h3, h5⟩
                  all_goals
                    go_wp2_with fail
                    refine (HP.out.get HK.out HSP.out HRD.out a HAN.out).mono ?_
                    rintro e x1 ⟨E, A1, N1, c1, l1, D1, m1, T1, rfl, ho1, hg⟩
                    have HP1 := Lib.hid hg.pw
                    have HT1 := Lib.hid (HT.out.held hg.held)
                    have HO1 := Lib.hid (HO.out.next hg.nx)
                    have HV1 := Lib.hid (HV.out.keep (hg.nx.blk HO.out))
                    clear hc0 hc1 hc2 hc3
                    rcases hg.held.e with rfl | rfl
                    focus
                      obtain ⟨rfl, hl1⟩ := hg.yes rfl
                      rw [HT.out.cur a ha12] at hl1
                      obtain ⟨sa, hsa⟩ : ∃ sa, sa = str (f a) := ⟨_, rfl⟩
                      have HCV : Hid (∀ V, Since x1 V → (convert 33 9 (.slice A1 64 c1)).run Try.prog V = .ok (.string sa) V) := Lib.hid (fun V hV => by
                        have h := rd_conv (c := c1) (ho1.read.below hV) ho1.len
                        rw [hl1, ← hsa] at h
                        exact h)
                      have HC0 : Hid (∀ V, Since x1 V → V.cell? ⟨g, a, none⟩ = some (.string sa)) := Lib.hid (fun V hV => by
                        rw [hsa]
                        exact ((HV1.out.below hV).cell a).trans (wantV_at _ ha12))
                      have hself : (sa.toList == sa.toList) = true := beq_self_eq_true _
                      have hai : (a : Int) < 12 := by omega
                      clear hg ho1 hl1 hsa HP HT HV HO HRD HSP
                      go_upto_region 19 with fail
                      refine wp_region_since (by kernel_rfl) ?_
                      have hS : Since x1 (World.drew x1) := (Below.refl _ _).drew
                      refine wpAnyH_take (i := 0) (oi := ⟨some 76, _, _, _, _, _⟩) (v := ?_) rfl (by kernel_rfl) (by kernel_rfl) (by kernel_rfl) (fun _ _ _ h => h) (Or.inl ⟨by rfl, ?_⟩) hS ?_
                      rotate_left
                      · intro W hW; go_simp; with_reducible rfl
                      try simp only [Act.put, List.setIfInBounds_toArray, List.set_cons_zero, List.set_cons_succ]
                      refine wpAnyH_take (i := 1) (oi := ⟨some 77, _, _, _, _, _⟩) (v := ?_) rfl (by kernel_rfl) (by kernel_rfl) (by kernel_rfl) (fun _ _ _ h => h) (Or.inl ⟨by rfl, ?_⟩) hS ?_
                      rotate_left
                      · intro W hW; go_simp; with_reducible rfl
                      try simp only [Act.put, List.setIfInBounds_toArray, List.set_cons_zero, List.set_cons_succ]
                      refine wpAnyH_take (i := 2) (oi := ⟨some 78, _, _, _, _, _⟩) (v := ?_) rfl (by kernel_rfl) (by kernel_rfl) (by kernel_rfl) (fun _ _ _ h => h) (Or.inl ⟨by rfl, ?_⟩) hS ?_
                      rotate_left
                      · intro W hW; go_simp; with_reducible rfl
                      try simp only [Act.put, List.setIfInBounds_toArray, List.set_cons_zero, List.set_cons_succ]
                      refine wpAnyH_take (i := 3) (oi := ⟨some 79, _, _, _, _, _⟩) (v := ?_) rfl (by kernel_rfl) (by kernel_rfl) (by kernel_rfl) (fun _ _ _ h => h) (Or.inl ⟨by rfl, ?_⟩) hS ?_
                      rotate_left
                      · intro W hW; go_simp; with_reducible rfl
                      try simp only [Act.put, List.setIfInBounds_toArray, List.set_cons_zero, List.set_cons_succ]
                      refine wpAnyH_take (i := 4) (oi := ⟨some 80, _, _, _, _, _⟩) (v := ?_) rfl (by kernel_rfl) (by kernel_rfl) (by kernel_rfl) (fun _ _ _ h => h) (Or.inl ⟨by rfl, ?_⟩) hS ?_
                      rotate_left
                      · intro W hW
                        have q0 := HCV.out W hW
                        go_simp
                        with_reducible rfl
                      try simp only [Act.put, List.setIfInBounds_toArray, List.set_cons_zero, List.set_cons_succ]
                      refine wpAnyH_take (i := 5) (oi := ⟨some 81, _, _, _, _, _⟩) (v := ?_) rfl (by kernel_rfl) (by kernel_rfl) (by kernel_rfl) (fun _ _ _ h => h) (Or.inl ⟨by rfl, ?_⟩) hS ?_
                      rotate_left
                      · intro W hW; go_simp; with_reducible rfl
                      try simp only [Act.put, List.setIfInBounds_toArray, List.set_cons_zero, List.set_cons_succ]
                      refine wpAnyH_take (i := 6) (oi := ⟨some 82, _, _, _, _, _⟩) (v := ?_) rfl (by kernel_rfl) (by kernel_rfl) (by kernel_rfl) (fun _ _ _ h => h) (Or.inl ⟨by rfl, ?_⟩) hS ?_
                      rotate_left
                      · intro W hW; go_simp; with_reducible rfl
                      try simp only [Act.put, List.setIfInBounds_toArray, List.set_cons_zero, List.set_cons_succ]
                      refine wpAnyH_take (i := 7) (oi := ⟨some 83, _, _, _, _, _⟩) (v := ?_) rfl (by kernel_rfl) (by kernel_rfl) (by kernel_rfl) (fun _ _ _ h => h) (Or.inl ⟨by rfl, ?_⟩) hS ?_
                      rotate_left
                      · intro W hW; go_simp; with_reducible rfl
                      try simp only [Act.put, List.setIfInBounds_toArray, List.set_cons_zero, List.set_cons_succ]
                      refine wpAnyH_take (i := 8) (oi := ⟨some 84, _, _, _, _, _⟩) (v := ?_) rfl (by kernel_rfl) (by kernel_rfl) (by kernel_rfl) (fun _ _ _ h => h) (Or.inl ⟨by rfl, ?_⟩) hS ?_
                      rotate_left
                      · intro W hW
                        have q0 := HC0.out W hW
                        go_simp
                        with_reducible rfl
                      try simp only [Act.put, List.setIfInBounds_toArray, List.set_cons_zero, List.set_cons_succ]
                      refine wpAnyH_take (i := 9) (oi := ⟨some 85, _, _, _, _, _⟩) (v := ?_) rfl (by kernel_rfl) (by kernel_rfl) (by kernel_rfl) (fun _ _ _ h => h) (Or.inl ⟨by rfl, ?_⟩) hS ?_
                      rotate_left
                      · intro W hW; go_simp; with_reducible rfl
                      try simp only [Act.put, List.setIfInBounds_toArray, List.set_cons_zero, List.set_cons_succ]
                      refine wpAnyH_take (i := 10) (oi := ⟨some 86, _, _, _, _, _⟩) (v := ?_) rfl (by kernel_rfl) (by kernel_rfl) (by kernel_rfl) (fun _ _ _ h => h) (Or.inl ⟨by rfl, ?_⟩) hS ?_
                      rotate_left
                      · intro W hW; go_simp; with_reducible rfl
                      try simp only [Act.put, List.setIfInBounds_toArray, List.set_cons_zero, List.set_cons_succ]
                      refine wpAnyH_take (i := 11) (oi := ⟨some 87, _, _, _, _, _⟩) (v := ?_) rfl (by kernel_rfl) (by kernel_rfl) (by kernel_rfl) (fun _ _ _ h => h) (Or.inl ⟨by rfl, ?_⟩) hS ?_
                      rotate_left
                      · intro W hW; go_simp; with_reducible rfl
                      try simp only [Act.put, List.setIfInBounds_toArray, List.set_cons_zero, List.set_cons_succ]
                      refine wpAnyH_take (i := 12) (oi := ⟨some 88, _, _, _, _, _⟩) (v := ?_) rfl (by kernel_rfl) (by kernel_rfl) (by kernel_rfl) (fun _ _ _ h => h) (Or.inl ⟨by rfl, ?_⟩) hS ?_
                      rotate_left
                      · intro W hW; go_simp; with_reducible rfl
                      try simp only [Act.put, List.setIfInBounds_toArray, List.set_cons_zero, List.set_cons_succ]
                      refine wpAnyH_take (i := 13) (oi := ⟨some 89, _, _, _, _, _⟩) (v := ?_) rfl (by kernel_rfl) (by kernel_rfl) (by kernel_rfl) (fun _ _ _ h => h) (Or.inl ⟨by rfl, ?_⟩) hS ?_
                      rotate_left
                      · intro W hW; go_simp; with_reducible rfl
                      try simp only [Act.put, List.setIfInBounds_toArray, List.set_cons_zero, List.set_cons_succ]
                      refine wpAnyH_take (i := 14) (oi := ⟨some 90, _, _, _, _, _⟩) (v := ?_) rfl (by kernel_rfl) (by kernel_rfl) (by kernel_rfl) (fun _ _ _ h => h) (Or.inl ⟨by rfl, ?_⟩) hS ?_
                      rotate_left
                      · intro W hW; go_simp; with_reducible rfl
                      try simp only [Act.put, List.setIfInBounds_toArray, List.set_cons_zero, List.set_cons_succ]
                      refine wpAnyH_take (i := 15) (oi := ⟨some 91, _, _, _, _, _⟩) (v := undef) rfl (by kernel_rfl) (by kernel_rfl) (by kernel_rfl) (fun _ _ _ h => h) (Or.inr ⟨by rfl, rfl⟩) hS ?_
                      try simp only [Act.put, List.setIfInBounds_toArray, List.set_cons_zero, List.set_cons_succ]
                      refine wpAnyH_take (i := 16) (oi := ⟨some 92, _, _, _, _, _⟩) (v := undef) rfl (by kernel_rfl) (by kernel_rfl) (by kernel_rfl) (fun _ _ _ h => h) (Or.inr ⟨by rfl, rfl⟩) hS ?_
                      try simp only [Act.put, List.setIfInBounds_toArray, List.set_cons_zero, List.set_cons_succ]
                      refine wpAnyH_take (i := 17) (oi := ⟨some 93, _, _, _, _, _⟩) (v := ?_) rfl (by kernel_rfl) (by kernel_rfl) (by kernel_rfl) (fun _ _ _ h => h) (Or.inl ⟨by rfl, ?_⟩) hS ?_
                      rotate_left
                      · intro W hW; go_simp; with_reducible rfl
                      try simp only [Act.put, List.setIfInBounds_toArray, List.set_cons_zero, List.set_cons_succ]
                      refine wpAnyH_take (i := 18) (oi := ⟨some 94, _, _, _, _, _⟩) (v := ?_) rfl (by kernel_rfl) (by kernel_rfl) (by kernel_rfl) (fun _ _ _ h => h) (Or.inl ⟨by rfl, ?_⟩) hS ?_
                      rotate_left
                      · intro W hW; go_simp; with_reducible rfl
                      try simp only [Act.put, List.setIfInBounds_toArray, List.set_cons_zero, List.set_cons_succ]
                      refine wpAnyH_done (by kernel_rfl) ?_ _
                      have HBW := Lib.hid hS
                      clear hself HCV HC0 hai
                    rotate_left
                    focus
                      clear hg ho1 HP HT HV HO HRD HSP
                      go_upto_region 19 with fail
                      refine wp_region_since (by kernel_rfl) ?_
                      have hS : Since x1 (World.drew x1) := (Below.refl _ _).drew
                      refine wpAnyH_take (i := 0) (oi := ⟨some 76, _, _, _, _, _⟩) (v := ?_) rfl (by kernel_rfl) (by kernel_rfl) (by kernel_rfl) (fun _ _ _ h => h) (Or.inl ⟨by rfl, ?_⟩) hS ?_
                      rotate_left
                      · intro W hW; go_simp; with_reducible rfl
                      try simp only [Act.put, List.setIfInBounds_toArray, List.set_cons_zero, List.set_cons_succ]
                      refine wpAnyH_take (i := 1) (oi := ⟨some 77, _, _, _, _, _⟩) (v := ?_) rfl (by kernel_rfl) (by kernel_rfl) (by kernel_rfl) (fun _ _ _ h => h) (Or.inl ⟨by rfl, ?_⟩) hS ?_
                      rotate_left
                      · intro W hW; go_simp; with_reducible rfl
                      try simp only [Act.put, List.setIfInBounds_toArray, List.set_cons_zero, List.set_cons_succ]
                      refine wpAnyH_take (i := 2) (oi := ⟨some 78, _, _, _, _, _⟩) (v := ?_) rfl (by kernel_rfl) (by kernel_rfl) (by kernel_rfl) (fun _ _ _ h => h) (Or.inl ⟨by rfl, ?_⟩) hS ?_
                      rotate_left
                      · intro W hW; go_simp; with_reducible rfl
                      try simp only [Act.put, List.setIfInBounds_toArray, List.set_cons_zero, List.set_cons_succ]
                      refine wpAnyH_take (i := 3) (oi := ⟨some 79, _, _, _, _, _⟩) (v := undef) rfl (by kernel_rfl) (by kernel_rfl) (by kernel_rfl) (fun _ _ _ h => h) (Or.inr ⟨by rfl, rfl⟩) hS ?_
                      try simp only [Act.put, List.setIfInBounds_toArray, List.set_cons_zero, List.set_cons_succ]
                      refine wpAnyH_take (i := 4) (oi := ⟨some 80, _, _, _, _, _⟩) (v := undef) rfl (by kernel_rfl) (by kernel_rfl) (by kernel_rfl) (fun _ _ _ h => h) (Or.inr ⟨by rfl, rfl⟩) hS ?_
                      try simp only [Act.put, List.setIfInBounds_toArray, List.set_cons_zero, List.set_cons_succ]
                      refine wpAnyH_take (i := 5) (oi := ⟨some 81, _, _, _, _, _⟩) (v := undef) rfl (by kernel_rfl) (by kernel_rfl) (by kernel_rfl) (fun _ _ _ h => h) (Or.inr ⟨by rfl, rfl⟩) hS ?_
                      try simp only [Act.put, List.setIfInBounds_toArray, List.set_cons_zero, List.set_cons_succ]
                      refine wpAnyH_take (i := 6) (oi := ⟨some 82, _, _, _, _, _⟩) (v := undef) rfl (by kernel_rfl) (by kernel_rfl) (by kernel_rfl) (fun _ _ _ h => h) (Or.inr ⟨by rfl, rfl⟩) hS ?_
                      try simp only [Act.put, List.setIfInBounds_toArray, List.set_cons_zero, List.set_cons_succ]
                      refine wpAnyH_take (i := 7) (oi := ⟨some 83, _, _, _, _, _⟩) (v := undef) rfl (by kernel_rfl) (by kernel_rfl) (by kernel_rfl) (fun _ _ _ h => h) (Or.inr ⟨by rfl, rfl⟩) hS ?_
                      try simp only [Act.put, List.setIfInBounds_toArray, List.set_cons_zero, List.set_cons_succ]
                      refine wpAnyH_take (i := 8) (oi := ⟨some 84, _, _, _, _, _⟩) (v := undef) rfl (by kernel_rfl) (by kernel_rfl) (by kernel_rfl) (fun _ _ _ h => h) (Or.inr ⟨by rfl, rfl⟩) hS ?_
                      try simp only [Act.put, List.setIfInBounds_toArray, List.set_cons_zero, List.set_cons_succ]
                      refine wpAnyH_take (i := 9) (oi := ⟨some 85, _, _, _, _, _⟩) (v := undef) rfl (by kernel_rfl) (by kernel_rfl) (by kernel_rfl) (fun _ _ _ h => h) (Or.inr ⟨by rfl, rfl⟩) hS ?_
                      try simp only [Act.put, List.setIfInBounds_toArray, List.set_cons_zero, List.set_cons_succ]
                      refine wpAnyH_take (i := 10) (oi := ⟨some 86, _, _, _, _, _⟩) (v := ?_) rfl (by kernel_rfl) (by kernel_rfl) (by kernel_rfl) (fun _ _ _ h => h) (Or.inl ⟨by rfl, ?_⟩) hS ?_
                      rotate_left
                      · intro W hW; go_simp; with_reducible rfl
                      try simp only [Act.put, List.setIfInBounds_toArray, List.set_cons_zero, List.set_cons_succ]
                      refine wpAnyH_take (i := 11) (oi := ⟨some 87, _, _, _, _, _⟩) (v := ?_) rfl (by kernel_rfl) (by kernel_rfl) (by kernel_rfl) (fun _ _ _ h => h) (Or.inl ⟨by rfl, ?_⟩) hS ?_
                      rotate_left
                      · intro W hW; go_simp; with_reducible rfl
                      try simp only [Act.put, List.setIfInBounds_toArray, List.set_cons_zero, List.set_cons_succ]
                      refine wpAnyH_take (i := 12) (oi := ⟨some 88, _, _, _, _, _⟩) (v := ?_) rfl (by kernel_rfl) (by kernel_rfl) (by kernel_rfl) (fun _ _ _ h => h) (Or.inl ⟨by rfl, ?_⟩) hS ?_
                      rotate_left
                      · intro W hW; go_simp; with_reducible rfl
                      try simp only [Act.put, List.setIfInBounds_toArray, List.set_cons_zero, List.set_cons_succ]
                      refine wpAnyH_take (i := 13) (oi := ⟨some 89, _, _, _, _, _⟩) (v := ?_) rfl (by kernel_rfl) (by kernel_rfl) (by kernel_rfl) (fun _ _ _ h => h) (Or.inl ⟨by rfl, ?_⟩) hS ?_
                      rotate_left
                      · intro W hW; go_simp; with_reducible rfl
                      try simp only [Act.put, List.setIfInBounds_toArray, List.set_cons_zero, List.set_cons_succ]
                      refine wpAnyH_take (i := 14) (oi := ⟨some 90, _, _, _, _, _⟩) (v := ?_) rfl (by kernel_rfl) (by kernel_rfl) (by kernel_rfl) (fun _ _ _ h => h) (Or.inl ⟨by rfl, ?_⟩) hS ?_
                      rotate_left
                      · intro W hW; go_simp; with_reducible rfl
                      try simp only [Act.put, List.setIfInBounds_toArray, List.set_cons_zero, List.set_cons_succ]
                      refine wpAnyH_take (i := 15) (oi := ⟨some 91, _, _, _, _, _⟩) (v := ?_) rfl (by kernel_rfl) (by kernel_rfl) (by kernel_rfl) (fun _ _ _ h => h) (Or.inl ⟨by rfl, ?_⟩) hS ?_
                      rotate_left
                      · intro W hW; go_simp; with_reducible rfl
                      try simp only [Act.put, List.setIfInBounds_toArray, List.set_cons_zero, List.set_cons_succ]
                      refine wpAnyH_take (i := 16) (oi := ⟨some 92, _, _, _, _, _⟩) (v := ?_) rfl (by kernel_rfl) (by kernel_rfl) (by kernel_rfl) (fun _ _ _ h => h) (Or.inl ⟨by rfl, ?_⟩) hS ?_
                      rotate_left
                      · intro W hW; go_simp; with_reducible rfl
                      try simp only [Act.put, List.setIfInBounds_toArray, List.set_cons_zero, List.set_cons_succ]
                      refine wpAnyH_take (i := 17) (oi := ⟨some 93, _, _, _, _, _⟩) (v := ?_) rfl (by kernel_rfl) (by kernel_rfl) (by kernel_rfl) (fun _ _ _ h => h) (Or.inl ⟨by rfl, ?_⟩) hS ?_
                      rotate_left
                      · intro W hW; go_simp; with_reducible rfl
                      try simp only [Act.put, List.setIfInBounds_toArray, List.set_cons_zero, List.set_cons_succ]
                      refine wpAnyH_take (i := 18) (oi := ⟨some 94, _, _, _, _, _⟩) (v := ?_) rfl (by kernel_rfl) (by kernel_rfl) (by kernel_rfl) (fun _ _ _ h => h) (Or.inl ⟨by rfl, ?_⟩) hS ?_
                      rotate_left
                      · intro W hW; go_simp; with_reducible rfl
                      try simp only [Act.put, List.setIfInBounds_toArray, List.set_cons_zero, List.set_cons_succ]
                      refine wpAnyH_done (by kernel_rfl) ?_ _
                      have HBW := Lib.hid hS
                    all_goals
                      have HP4 := Lib.hid (HP1.out.below HK.out HBW.out)
                      have HV4 := Lib.hid (HV1.out.below HBW.out)
                      have HO4 := Lib.hid (HO1.out.below HBW.out)
                      clear hS HBW HP1 HV1 HO1
                      go_wp2_with fail
                      go_roundg (gk - 1)
                      case measure => omega
                      case rel => exact ⟨j + 1, f, D1, m1, T1, by go_num, by omega, HP4, HT1, HV4, HO4⟩
          · obtain rfl : j = len := by omega
            clear hge HL HFW
            go_wp2_with fail
            refine (HP.out.tell HK.out HSP.out HRD.out 100 ⟨by omega, by omega⟩).mono ?_
            rintro e x1 ⟨T1, rfl, hp, hnx⟩
            have HP1 := Lib.hid hp
            have HT1 := Lib.hid (HT.out.tell 100)
            have HO1 := Lib.hid (HO.out.next hnx)
            have HV1 := Lib.hid (HV.out.keep (hnx.blk HO.out))
            have HRD1 : Hid ((m.tell 100).reads ≤ 100000) := Lib.hid HRD.out
            clear hp hnx HP HT HV HO HRD
            go_wp2_with fail
            refine (HP1.out.wash HK.out HSP.out HRD1.out).mono ?_
            rintro e x2 ⟨D2, m2, T2, rfl, hcl, hp, hnx⟩
            obtain ⟨hdr, hsec⟩ := TI.last HT1.out hcl
            have HSEC := Lib.hid hsec
            have HDR := Lib.hid hdr
            have HN2 : Hid (D2.n = 12) := Lib.hid (hcl.n.trans HT1.out.n)
            have HP2 := Lib.hid hp
            have HT2 := Lib.hid (HT1.out.wash hcl)
            have HO2 := Lib.hid (HO1.out.next hnx)
            have HV2 := Lib.hid (HV1.out.keep (hnx.blk HO1.out))
            have HSP2 : Hid (D2.spent ≤ 100000) := Lib.hid (by have := HT2.out.spent; omega)
            have HRD2 : Hid (m2.reads ≤ 100000) := Lib.hid (by have := HT2.out.reads; omega)
            clear hcl hp hnx hdr hsec HP1 HT1 HO1 HV1 HRD1 HSP
            go_wp2_with fail
            refine (HP2.out.dirty HK.out HSP2.out HRD2.out).mono ?_
            rintro e x3 ⟨A3, q3, c3, rfl, hq, _, hb⟩
            rw [HN2.out, HDR.out] at hq
            replace hq : q3 = 0 := hq
            subst hq
            have HP3 := Lib.hid (HP2.out.below HK.out hb)
            have HV3 := Lib.hid (HV2.out.below hb)
            clear hb HP2 HV2 HO2 HDR HT2
            go_wp2_with fail
            go_loopg [19, 20, 21] 12 (fun gn i _ _ wr => ∃ (k : Nat), i = .int .i64 (k : Int) ∧ k + gn = 12 ∧ Hid (PW PAt w wr p L M v D2 m2 T2) ∧ Hid (Vr wr g 9 (wantV f)))
            case atStart => exact ⟨0, rfl, by omega, HP3, HV3⟩
            case round =>
              clear HP3 HV3
              obtain ⟨k, rfl, hok, HP, HV⟩ := hrel
              rcases Nat.lt_or_ge k 12 with hlt | hge
              · have hdk : decide ((k : Int) < 12) = true := decide_eq_true (by omega)
                have hki : (k : Int) < 12 := by omega
                have hrd : D2.read (k : Int) = f k := by
                  have h := HP.out.free.read (i := k) (by rw [HN2.out]; exact hlt)
                  exact h.trans (HSEC.out k hlt)
                have hl64 : (f k).length = 64 := by rw [← HSEC.out k hlt]; exact sec_len HP.out.dok (by rw [HN2.out]; exact hlt)
                have HRE := Lib.hid hrd
                have HLN := Lib.hid hl64
                clear hrd hl64
                go_wp2_with fail
                refine (read_sec HP.out.dr.dev (k : Int) HRE.out HLN.out).mono ?_
                rintro e x4 ⟨g8, rfl, _, hc8, hb8⟩
                have HP4 := Lib.hid (HP.out.below HK.out hb8)
                have HV4 := Lib.hid (HV.out.below hb8)
                obtain ⟨sa, hsa⟩ : ∃ sa, sa = str (f k) := ⟨_, rfl⟩
                have hr8 : Rd x4 x4.heap.size (some ⟨g8, 0, none⟩) (f k) := .inr ⟨g8, 0, rfl, lt_of_block hc8, fun j x hx => by
                  rw [Nat.zero_add, cell_of_row _ _ _ _ _ _ hc8]
                  rw [secC_get, hx]
                  rfl⟩
                have HCV : Hid (∀ V, Since x4 V → (convert 33 9 (.slice (some ⟨g8, 0, none⟩) 64 64)).run Try.prog V = .ok (.string sa) V) := Lib.hid (fun V hV => by
                  rw [hsa]
                  exact rd_conv (hr8.below hV) HLN.out)
                have HC0 : Hid (∀ V, Since x4 V → V.cell? ⟨g, k, none⟩ = some (.string sa)) := Lib.hid (fun V hV => by
                  rw [hsa]
                  exact ((HV4.out.below hV).cell k).trans (wantV_at _ hlt))
                have hself : (sa.toList == sa.toList) = true := beq_self_eq_true _
                clear hc8 hb8 hr8 hsa HP HV HRE HLN
                go_upto_region 40 with fail
                refine wp_region_since (by kernel_rfl) ?_
                have hS : Since x4 (World.drew x4) := (Below.refl _ _).drew
                refine wpAnyH_take (i := 0) (oi := ⟨some 182, _, _, _, _, _⟩) (v := ?_) rfl (by kernel_rfl) (by kernel_rfl) (by kernel_rfl) (fun _ _ _ h => h) (Or.inl ⟨by rfl, ?_⟩) hS ?_
                rotate_left
                · intro W hW; go_simp; with_reducible rfl
                try simp only [Act.put, List.setIfInBounds_toArray, List.set_cons_zero, List.set_cons_succ]
                refine wpAnyH_take (i := 1) (oi := ⟨some 183, _, _, _, _, _⟩) (v := ?_) rfl (by kernel_rfl) (by kernel_rfl) (by kernel_rfl) (fun _ _ _ h => h) (Or.inl ⟨by rfl, ?_⟩) hS ?_
                rotate_left
                · intro W hW; go_simp; with_reducible rfl
                try simp only [Act.put, List.setIfInBounds_toArray, List.set_cons_zero, List.set_cons_succ]
                refine wpAnyH_take (i := 2) (oi := ⟨some 184, _, _, _, _, _⟩) (v := ?_) rfl (by kernel_rfl) (by kernel_rfl) (by kernel_rfl) (fun _ _ _ h => h) (Or.inl ⟨by rfl, ?_⟩) hS ?_
                rotate_left
                · intro W hW; go_simp; with_reducible rfl
                try simp only [Act.put, List.setIfInBounds_toArray, List.set_cons_zero, List.set_cons_succ]
                refine wpAnyH_take (i := 3) (oi := ⟨some 185, _, _, _, _, _⟩) (v := ?_) rfl (by kernel_rfl) (by kernel_rfl) (by kernel_rfl) (fun _ _ _ h => h) (Or.inl ⟨by rfl, ?_⟩) hS ?_
                rotate_left
                · intro W hW; go_simp; with_reducible rfl
                try simp only [Act.put, List.setIfInBounds_toArray, List.set_cons_zero, List.set_cons_succ]
                refine wpAnyH_take (i := 4) (oi := ⟨some 186, _, _, _, _, _⟩) (v := ?_) rfl (by kernel_rfl) (by kernel_rfl) (by kernel_rfl) (fun _ _ _ h => h) (Or.inl ⟨by rfl, ?_⟩) hS ?_
                rotate_left
                · intro W hW
                  have q0 := HCV.out W hW
                  go_simp
                  with_reducible rfl
                try simp only [Act.put, List.setIfInBounds_toArray, List.set_cons_zero, List.set_cons_succ]
                refine wpAnyH_take (i := 5) (oi := ⟨some 187, _, _, _, _, _⟩) (v := ?_) rfl (by kernel_rfl) (by kernel_rfl) (by kernel_rfl) (fun _ _ _ h => h) (Or.inl ⟨by rfl, ?_⟩) hS ?_
                rotate_left
                · intro W hW; go_simp; with_reducible rfl
                try simp only [Act.put, List.setIfInBounds_toArray, List.set_cons_zero, List.set_cons_succ]
                refine wpAnyH_take (i := 6) (oi := ⟨some 188, _, _, _, _, _⟩) (v := ?_) rfl (by kernel_rfl) (by kernel_rfl) (by kernel_rfl) (fun _ _ _ h => h) (Or.inl ⟨by rfl, ?_⟩) hS ?_
                rotate_left
                · intro W hW; go_simp; with_reducible rfl
                try simp only [Act.put, List.setIfInBounds_toArray, List.set_cons_zero, List.set_cons_succ]
                refine wpAnyH_take (i := 7) (oi := ⟨some 189, _, _, _, _, _⟩) (v := ?_) rfl (by kernel_rfl) (by kernel_rfl) (by kernel_rfl) (fun _ _ _ h => h) (Or.inl ⟨by rfl, ?_⟩) hS ?_
                rotate_left
                · intro W hW; go_simp; with_reducible rfl
                try simp only [Act.put, List.setIfInBounds_toArray, List.set_cons_zero, List.set_cons_succ]
                refine wpAnyH_take (i := 8) (oi := ⟨some 190, _, _, _, _, _⟩) (v := ?_) rfl (by kernel_rfl) (by kernel_rfl) (by kernel_rfl) (fun _ _ _ h => h) (Or.inl ⟨by rfl, ?_⟩) hS ?_
                rotate_left
                · intro W hW
                  have q0 := HC0.out W hW
                  go_simp
                  with_reducible rfl
                try simp only [Act.put, List.setIfInBounds_toArray, List.set_cons_zero, List.set_cons_succ]
                refine wpAnyH_take (i := 9) (oi := ⟨some 191, _, _, _, _, _⟩) (v := ?_) rfl (by kernel_rfl) (by kernel_rfl) (by kernel_rfl) (fun _ _ _ h => h) (Or.inl ⟨by rfl, ?_⟩) hS ?_
                rotate_left
                · intro W hW; go_simp; with_reducible rfl
                try simp only [Act.put, List.setIfInBounds_toArray, List.set_cons_zero, List.set_cons_succ]
                refine wpAnyH_take (i := 10) (oi := ⟨some 192, _, _, _, _, _⟩) (v := ?_) rfl (by kernel_rfl) (by kernel_rfl) (by kernel_rfl) (fun _ _ _ h => h) (Or.inl ⟨by rfl, ?_⟩) hS ?_
                rotate_left
                · intro W hW; go_simp; with_reducible rfl
                try simp only [Act.put, List.setIfInBounds_toArray, List.set_cons_zero, List.set_cons_succ]
                refine wpAnyH_done (by kernel_rfl) ?_ _
                have HP5 := Lib.hid (HP4.out.below HK.out hS)
                have HV5 := Lib.hid (HV4.out.below hS)
                clear hS hself HCV HC0 HP4 HV4
                go_wp2_with fail
                go_roundg (gk - 1)
                case measure => omega
                case rel => exact ⟨k + 1, by go_num, by omega, HP5, HV5⟩
              · obtain rfl : k = 12 := by omega
                have HB := Lib.hid HP.out.dr.bel
                clear hge
                go_wp2_with fail
                go_ret
                exact ⟨rfl, HB.out⟩
  · go_wp2_with fail
    go_ret
    exact ⟨rfl, HB0.out⟩

end Go.Proofs.Ytnpgmiokimahiaa
