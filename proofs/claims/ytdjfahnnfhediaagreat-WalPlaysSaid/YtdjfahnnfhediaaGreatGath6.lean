/-
  The program's Gather, of any slices of bytes.
-/
import Derived.Test.YtdjfahnnfhediaaGreatNth
import Derived.Test.YtdjfahnnfhediaaGreatRefWrite6
import Derived.BigQuiet
namespace Go.Proofs.YtdjfahnnfhediaaGreat
set_option maxRecDepth 100000
open Go.RowKit Crc Wm

/-- a call answers a record: its bytes in memory of the call's own, its epoch, its count, an error -/
def GatOut (w : World) (l : List UInt8) (Ep Ct E : Int) (e : Ending) (w' : World) : Prop :=
  ∃ A n c, e = .returned (.tuple #[.slice A n c, .int .i64 Ep, .int .i64 Ct, .int .i64 E]) ∧ Owns w' w.heap.size A c n l ∧ Below w.heap.size w w'

theorem results_tmp4 {fn : Func} {t u v x : Tmp} (h : fn.results = #[.tmp t, .tmp u, .tmp v, .tmp x]) (tmps : Array Value) (P : Program) (w : World) :
    (results fn tmps).run P w = .ok (.tuple #[tmps.getD t undef, tmps.getD u undef, tmps.getD v undef, tmps.getD x undef]) w := by
  simp [results, h, go_sem]

theorem readP_len (x : List UInt8) : (readP x).D.length ≤ 44 := by
  by_cases h : readE x = 0
  · exact (readP_may x h).len
  · rw [readP_not x h]; simp [Pc.none]
theorem nthP_len (ls : List (List UInt8)) (i : Nat) : (nthP ls i).D.length ≤ 44 := by
  unfold nthP
  split
  · simp [Pc.none]
  · exact readP_len _
theorem headE_nth (ls : List (List UInt8)) : headE ls = nthE ls 0 := rfl
theorem headP_nth (ls : List (List UInt8)) : headP ls = nthP ls 0 := by
  unfold headP nthP
  cases ls with
  | nil => exact readP_not [] (by rw [readE_short [] (by simp)]; decide)
  | cons x r => rfl

theorem want_err (ls : List (List UInt8)) (at_ ep ct Z : Int) (i : Nat) (ha0 : -9223372036854775808 ≤ at_) (ha1 : at_ ≤ 9223372036854775807) (hi : i ≤ 1000000) (hZ : IntKind.i64.wrap (at_ + (i : Int)) = Z) :
    wantE ls i ep Z i ct = errAt ls at_ ep ct i ∧ (errAt ls at_ ep ct i = 0 → wantB ls i ep Z i ct = dataAt ls i) := by
  have e1 : wantE ls i ep Z i ct = errAt ls at_ ep ct i := by
    unfold wantE errAt nthE nthP
    cases hx : ls[i]? with
    | none => simp
    | some x =>
      simp only
      by_cases hE : readE x = 0
      · rw [if_neg (show ¬ (readE x ≠ 0) from fun h => h hE), if_neg (show ¬ (readE x ≠ 0) from fun h => h hE)]
        have hm := (readP_may x hE).2.1
        rw [IntKind.wrap_i64] at hZ
        have hq : ((readP x).E = ep ∧ (readP x).A = Z ∧ (readP x).I = i ∧ (readP x).C = ct) ↔ ((readP x).A = at_ + i ∧ (readP x).I = i ∧ (readP x).E = ep ∧ (readP x).C = ct) := by
          constructor
          · rintro ⟨h1, h2, h3, h4⟩; exact ⟨by omega, h3, h1, h4⟩
          · rintro ⟨h1, h2, h3, h4⟩; exact ⟨h3, by omega, h2, h4⟩
        by_cases hh : (readP x).A = at_ + i ∧ (readP x).I = i ∧ (readP x).E = ep ∧ (readP x).C = ct
        · rw [if_pos (hq.2 hh), if_pos hh]
        · rw [if_neg (fun g => hh (hq.1 g)), if_neg hh]
      · rw [if_pos hE, if_pos hE]
  refine ⟨e1, fun h0 => ?_⟩
  unfold wantB
  rw [e1, if_pos h0]
  unfold nthP dataAt
  unfold errAt at h0
  cases hx : ls[i]? with
  | none => rw [hx] at h0; simp at h0
  | some x => rw [List.getD_eq_getElem?_getD, hx]; rfl
theorem dataAt_len (ls : List (List UInt8)) (i : Nat) : (dataAt ls i).length ≤ 44 := readP_len _
theorem datas_len (ls : List (List UInt8)) : ∀ i, (datas ls i).length ≤ 44 * i
  | 0 => Nat.zero_le _
  | i + 1 => by
    have h1 := datas_len ls i
    have h2 := dataAt_len ls i
    show (datas ls i ++ dataAt ls i).length ≤ _
    rw [List.length_append]
    omega

theorem gat_no {ls : List (List UInt8)} {at_ : Int} {E : Int} (h : gatE ls at_ = E) (hE : E ≠ 0) : gatB ls at_ = [] ∧ gatEp ls at_ = 0 ∧ gatC ls at_ = 0 := by
  unfold gatB gatEp gatC
  rw [h]
  exact ⟨if_neg hE, if_neg hE, if_neg hE⟩
theorem GatOut.no {w w' : World} {ls : List (List UInt8)} {at_ : Int} {E : Int} (h : gatE ls at_ = E) (hE : E ≠ 0) (hb : Below w.heap.size w w') : GatOut w (gatB ls at_) (gatEp ls at_) (gatC ls at_) (gatE ls at_) (.returned (.tuple #[.slice none 0 0, .int .i64 0, .int .i64 0, .int .i64 E])) w' := by
  obtain ⟨h1, h2, h3⟩ := gat_no h hE
  rw [h1, h2, h3, h]
  exact ⟨none, 0, 0, rfl, ⟨rfl, .inl ⟨rfl, rfl⟩⟩, hb⟩

theorem count_bd (ls : List (List UInt8)) (h : headE ls = 0) : 1 ≤ (headP ls).C ∧ (headP ls).C ≤ 1024 := by
  unfold headE at h
  unfold headP
  cases ls with
  | nil => simp at h
  | cons x r => exact (readP_may x h).2.2.1

set_option maxHeartbeats 2000000 in
set_option maxRecDepth 100000 in
theorem gather_any (A : Option Addr) (c m : Nat) (ls : List (List UInt8)) (HM : Hid (ls.length = m)) (hm : m ≤ 1000000) (hsm : Hid (∀ x ∈ ls, x.length ≤ 1000000)) (at_ : Int) (ha0 : -9223372036854775808 ≤ at_) (ha1 : at_ ≤ 9223372036854775807) (w : World) (hls : Ls w A ls) :
    Calls Tryz.prog 61 #[.slice A m c, .int .i64 at_] w (GatOut w (gatB ls at_) (gatEp ls at_) (gatC ls at_) (gatE ls at_)) := by
  obtain ⟨ib, hi, hz0, hz1, hz2⟩ := info_parts byte_facts
  have HI := Lib.hid (show _ ∧ _ ∧ _ ∧ _ from ⟨hi, hz0, hz1, hz2⟩)
  clear hi hz0 hz1 hz2
  have HL := Lib.hid hls
  have HC0 := Lib.hid (nth_any A c m ls HM hm hsm 0 (by omega) w hls)
  have HGE : Hid (gatE ls at_ = if headE ls ≠ 0 then headE ls else firstErr ls at_ (headP ls).E (headP ls).C (headP ls).C.toNat) := Lib.hid rfl
  have HCB := Lib.hid (count_bd ls)
  have HHE := Lib.hid (headE_nth ls)
  rw [← headE_nth, ← headP_nth] at HC0
  have HNO := Lib.hid (fun W E => @GatOut.no w W ls at_ E)
  have HYB : Hid (gatE ls at_ = 0 → gatB ls at_ = datas ls (headP ls).C.toNat ∧ gatEp ls at_ = (headP ls).E ∧ gatC ls at_ = (headP ls).C) := Lib.hid (fun h => by
    unfold gatB gatEp gatC
    rw [h]
    exact ⟨if_pos rfl, if_pos rfl, if_pos rfl⟩)
  clear hls
  generalize headE ls = hE at *
  generalize headP ls = p at *
  obtain ⟨PE, PA, PI, PC, PD⟩ := p
  simp only at HGE HCB HYB
  go_enter Tryz.func61, Tryz.ntmps61
  go_wp2_with fail
  refine (HC0.out).mono ?_
  rintro e w1 ⟨A1, n1, c1, rfl, ho1, hb1⟩
  have HB := Lib.hid (below_two hb1 (below_new w1 (.cells #[.int .i64 PE, .int .i64 PA, .int .i64 PI, .int .i64 PC, .slice A1 n1 c1] 105)))
  have hw1 : w.heap.size ≤ w1.heap.size := hb1.size
  clear ho1 hb1 HC0
  by_cases hh : hE = 0
  case neg =>
    have hne : (hE != 0) = true := by rw [bne_iff_ne]; exact hh
    have HN := Lib.hid (HNO.out · hE (by rw [HGE.out, if_pos hh]) hh)
    clear hh
    go_wp2_with fail
    (try simp only [Exit.inBlock, Exit.then]); refine bodyPost_ret (results_tmp4 rfl _ _ _) rfl ?_
    exact HN.out _ HB.out
  subst hh
  have HP := Lib.hid (Bp.new w1 ⟨PE, PA, PI, PC, A1, n1, c1⟩ 105)
  obtain ⟨hc0, hc1⟩ := HCB.out rfl
  obtain ⟨C, rfl⟩ := Int.eq_ofNat_of_zero_le (by omega : 0 ≤ PC)
  have hC0 : 1 ≤ C := by omega
  have hC1 : C ≤ 1024 := by omega
  have HGE2 : Hid (gatE ls at_ = firstErr ls at_ PE (C : Int) C) := by show _ = _; rw [HGE.out, if_neg (fun h => h rfl)]; rfl
  have hne : ((0 : Int) != 0) = false := rfl
  have hs2 : w1.heap.size + 1 ≤ (w1.alloc (.cells #[.int .i64 PE, .int .i64 PA, .int .i64 PI, .int .i64 (C : Int), .slice A1 n1 c1] 105)).heap.size := by simp
  clear HGE HCB hc0 hc1
  have q3 := HP.out.c3
  simp only at q3
  go_wp2_with fail
  generalize hw2 : w1.alloc (.cells #[.int .i64 PE, .int .i64 PA, .int .i64 PI, .int .i64 (C : Int), .slice A1 n1 c1] 105) = w2
  replace HP : Hid (Bp w2 w1.heap.size ⟨PE, PA, PI, (C : Int), A1, n1, c1⟩ 105) := by rw [← hw2]; exact HP
  replace HB : Hid (Below w.heap.size w w2) := by rw [← hw2]; exact HB
  rw [hw2] at hs2
  clear hw2 q3
  have hs2 := Lib.hid hs2
  go_loopw [10, 24] (fun v u wr => ∃ (i U : Nat) (A' : Option Addr) (c' : Nat), u = .int .i64 (i : Int) ∧ v = .slice A' U c' ∧ i ≤ C ∧ U ≤ 45056 ∧ Hid (Owns wr w2.heap.size A' c' U (datas ls i)) ∧ Hid (firstErr ls at_ PE (C : Int) i = 0) ∧ Hid (Bp wr w1.heap.size ⟨PE, PA, PI, (C : Int), A1, n1, c1⟩ 105) ∧ Hid (Below w.heap.size w wr) ∧ Hid (w2.heap.size ≤ wr.heap.size)) (fun _ u _ => C - (intOf u).toNat)
  case atStart => exact ⟨0, 0, none, 0, rfl, rfl, by omega, by omega, Lib.hid (World.ownsRow_nil _ _ _ _), Lib.hid rfl, HP, HB, Lib.hid (Nat.le_refl _)⟩
  case round =>
    clear HP HB
    obtain ⟨i, U, A', c', rfl, rfl, hi, hU, HO, HF, HP, HB, HSZ⟩ := hrel
    rcases Nat.lt_or_ge i C with hlt | hge
    · obtain ⟨Z, hZ⟩ : ∃ Z, IntKind.i64.wrap (at_ + (i : Int)) = Z := ⟨_, rfl⟩
      obtain ⟨hwe, hwb⟩ := want_err ls at_ PE (C : Int) Z i ha0 ha1 (by omega) hZ
      have HWE := Lib.hid hwe
      have HWB := Lib.hid hwb
      have hcall := dataof_any A c m ls HM hm hsm i (by omega) PE Z i C
      rw [hwe] at hcall
      have HCA := Lib.hid hcall
      have HDL := Lib.hid (dataAt_len ls i)
      have HST := Lib.hid (firstErr_step ls at_ PE (C : Int) i HF.out)
      have HAT := Lib.hid (firstErr_at ls at_ PE (C : Int) i C hlt HF.out)
      have HUL : Hid (U ≤ 44 * i) := by show _ ≤ _; rw [← HO.out.len]; exact datas_len ls i
      have hU44 : U ≤ 44 * i := HUL.out
      have q0 := HP.out.c0
      have q3 := HP.out.c3
      simp only at q0 q3
      generalize errAt ls at_ PE (C : Int) i = E at *
      generalize wantB ls i PE Z (i : Int) (C : Int) = D at *
      clear hwe hwb hcall HUL
      unfold stampV at HCA
      go_wp2_with fail
      refine (HCA.out wr (HL.out.up HB.out)).mono ?_
      rintro e w3 ⟨A3, n3, c3, rfl, ho3, hb3⟩
      have HP3 := Lib.hid (HP.out.below hb3)
      have HB3 := Lib.hid (below_two HB.out hb3)
      have HO3 := Lib.hid (HO.out.below hb3)
      have HD3 := Lib.hid ho3
      have hs3 : w2.heap.size ≤ w3.heap.size := Nat.le_trans HSZ.out hb3.size
      have hsw : w1.heap.size < w2.heap.size := hs2.out
      clear ho3 hb3 HP HB HO HCA q0 q3
      by_cases hE : E = 0
      · subst hE
        have hne : ((0 : Int) != 0) = false := rfl
        have hDD := HWB.out rfl
        rw [hDD] at HD3
        have hn3 : n3 ≤ 44 := by have := HD3.out.len; have := HDL.out; omega
        obtain ⟨hi', hz0, hz1, hz2⟩ := HI.out
        go_wp2_with (at_builtin; refine wpList_append_rd rfl (.tmp 45) (.tmp 46) _ rfl w2.heap.size ib Tryz.underlying41 hi' hz0 hz1 hz2 (.slice A' U c') U _ rfl HO3.out _ _ (dataAt ls i) n3 _ rfl HD3.out.read HD3.out.len (by omega) hs3 ?_; intro v4 w4 hown4 hg4 hat4)
        rw [← byteVs_append] at hown4
        obtain ⟨A4, c4, rfl, ho4⟩ := own_form hown4
        refine ⟨⟨i + 1, U + n3, A4, c4, by go_num, rfl, by omega, by omega, Lib.hid ho4, HST, Lib.hid (HP3.out.grown hg4 (fun k hk => by have := HO3.out.row k hk; omega)), Lib.hid (HB3.out.grown hg4 HB3.out.size (fun k hk => by have := HO3.out.row k hk; omega)), Lib.hid (Nat.le_trans hs3 hg4.size)⟩, by simp [intOf]; omega⟩
      · have hne : (E != 0) = true := by rw [bne_iff_ne]; exact hE
        have HN := Lib.hid (HNO.out · E (by rw [HGE2.out, HAT.out hE]) hE)
        clear hE
        go_wp2_with fail
        (try simp only [Exit.inBlock, Exit.then]); refine bodyPost_ret (results_tmp4 rfl _ _ _) rfl ?_
        exact HN.out _ HB3.out
    · obtain rfl : i = C := by omega
      have hG0 : gatE ls at_ = 0 := by rw [HGE2.out]; exact HF.out
      obtain ⟨hB, hEp, hCt⟩ := HYB.out hG0
      have HYY := Lib.hid (show _ ∧ _ ∧ _ ∧ _ from ⟨hG0, hB, hEp, hCt⟩)
      have q0 := HP.out.c0
      have q3 := HP.out.c3
      have hsw : w1.heap.size < w2.heap.size := hs2.out
      simp only at q0 q3
      clear hG0 hB hEp hCt HYB HGE2 HF
      go_wp2_with fail
      go_quiet (fail)
      go_wp2_with fail
      (try simp only [Exit.inBlock, Exit.then]); refine bodyPost_ret (results_tmp4 rfl _ _ _) rfl ?_
      obtain ⟨h1, h2, h3, h4⟩ := HYY.out
      rw [h1, h2, h3, h4]
      exact ⟨A', U, c', rfl, (HO.out.below (below_drewN (Below.refl _ _) _)).base_le (by omega), below_drewN HB.out _⟩

end Go.Proofs.YtdjfahnnfhediaaGreat
