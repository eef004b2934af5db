/-
  OplistOpens: the walk.
-/
import Derived.Test.YtpphhhalmccnbaaQp
namespace Go.Proofs.Ytpphhhalmccnbaa
set_option maxRecDepth 100000
set_option linter.unusedVariables false
set_option linter.unusedSimpArgs false
open Go.RowKit

theorem last_getD' {α : Type} {L : List α} {x d : α} {m : Nat} (h : L.length = m) : (L ++ [x]).getD m d = x := by rw [List.getD_eq_getElem?_getD, ← h]; simp
/-- 'l[:k]' -/
theorem run_cut_es (A : Option Addr) (n c k : Nat) (hA : Sp A) (hk : k ≤ c) (V : World) : (Instr.slice 30 (.slice A n c) none (some (.int .i64 (k : Int))) none).run Try.prog V = .ok (.slice A k c) V := by
  have hsz : (Go.sizeOf (Try.prog.elem 30)).run Try.prog V = .ok 4 V := Try.sizeOf62 V
  rw [run_slice_h V 30 A n c Try.underlying30 .i64 (k : Int) (by omega) (by omega), hsz]
  simp only [Result.andThen, sliced]
  rcases hA with rfl | ⟨b, o, rfl⟩
  · simp
  · by_cases e : c = 0
    · rw [if_pos e]; simp
    · rw [if_neg e, Nat.zero_mul, Option.map_some, addr_add]; simp
theorem EsAt.left {R : Rk En} {W : World} {A : Option Addr} {n m : Nat} {l r : List En} (h : EsAt R W A n (l ++ r)) (hm : l.length = m) : EsAt R W A m l := ⟨hm, fun e he => h.ok e (List.mem_append_left _ he), h.at'.left⟩

set_option maxHeartbeats 4000000 in
theorem opens_walk (a0 : Option Addr) (len0 cap0 : Nat) (q0 : Nat → Ac) (a1 a2 a3 : Int) (h3 : okI a3) (w : World) (hacts : Acts w a0 len0 q0) :
    Calls Try.prog 5 #[.slice a0 len0 cap0, .int .i64 a1, .int .i64 a2, .int .i64 a3] w fun e w' => e = .returned (.bool true) ∧ Below w.heap.size w w' := by
  have HAC := Lib.hid hacts
  have HOB := Lib.hid h3
  clear hacts h3
  obtain ⟨y1, hy1, e1⟩ := low a1 7 3 (by decide) (by decide)
  obtain ⟨y3, hy3, e3⟩ := low a2 3 2 (by decide) (by decide)
  have HY1 := Lib.hid hy1
  have HY3 := Lib.hid hy3
  clear hy1 hy3
  go_enter Try.func5, Try.ntmps5
  go_wp2_with fail
  refine (awake_any w).mono ?_
  rintro r w1 ⟨rfl, hb1⟩
  have HB1 := Lib.hid hb1
  clear hb1
  rcases Nat.lt_or_ge 200 len0 with h0 | h0
  · have hd : decide ((len0 : Int) > 200) = true := decide_eq_true (by omega)
    have hd2 : decide ((200 : Int) < (len0 : Int)) = true := decide_eq_true (by omega)
    have hd3 : decide (200 < len0) = true := decide_eq_true (by omega)
    go_wp2_with fail
    go_ret
    exact ⟨rfl, HB1.out⟩
  · have hd : decide ((len0 : Int) > 200) = false := decide_eq_false (by omega)
    have hd2 : decide ((200 : Int) < (len0 : Int)) = false := decide_eq_false (by omega)
    have hd3 : decide (200 < len0) = false := decide_eq_false (by omega)
    have HGR := Lib.hid (grown_any a0 len0 cap0 q0 h0 w1 (HAC.out.below HB1.out))
    go_wp2_with fail
    refine HGR.out.mono ?_
    rintro r w2 ⟨hb2, A8, n8, c8, l, P, rfl, he8, hG, hs8, hn8⟩
    have HV8 := Lib.hid (Lv.new he8 hs8 hn8)
    have HB2 := Lib.hid ((HB1.out.trans (hb2.mono HB1.out.size)).trans ((below_new w2 (.cells (liC A8 n8 c8) 32)).mono (HB1.out.trans (hb2.mono HB1.out.size)).size))
    have HG := Lib.hid hG
    have HLL := Lib.hid he8.len
    have hn256 : n8 ≤ 256 := by rw [← he8.len]; exact hG.sa.len
    clear hb2 he8 hs8 hn8 hG HGR hd hd2 hd3
    go_upto_region 5 with fail
    generalize w2.heap.size = g8 at *
    generalize w2.alloc (.cells #[.slice A8 n8 c8] 32) = w3 at *
    have x8 := HV8.out.c0
    obtain ⟨dr, hdr⟩ : ∃ dr, dr = doE l (newE (y1 : Int) (y3 : Int) a3) := ⟨_, rfl⟩
    have HDO := Lib.hid (do_any A8 n8 c8 l (y1 : Int) (y3 : Int) a3 (by have := HY1.out; unfold okI; omega) (by have := HY3.out; unfold okI; omega) HOB.out (by omega) HV8.out.sp w3 HV8.out.es)
    rw [← hdr] at HDO
    have HDR := Lib.hid hdr
    obtain ⟨dl, de⟩ := dr
    clear hdr
    go_wp2_with fail
    refine HDO.out.mono ?_
    rintro r w4 ⟨hb4, Ax, nx, cx, rfl, hex, hsx, hnx⟩
    have HVX := Lib.hid (Lv.new (show EsAt REo w4 Ax nx dl from hex) (show dl = [] ∨ Sp Ax from hsx) hnx)
    have hb5 := hb4.trans ((below_new w4 (.cells (liC Ax nx cx) 32)).mono hb4.size)
    have HB5 := Lib.hid (HB2.out.trans (hb5.mono HB2.out.size))
    have HV5 := Lib.hid (HV8.out.below hb5)
    have HXL := Lib.hid (show dl.length = nx from hex.len)
    clear hb4 hex hsx hnx hb5 HDO x8 HV8
    go_upto_region 7 with fail
    generalize w4.heap.size = gx at *
    generalize w4.alloc (.cells #[.slice Ax nx cx] 32) = w5 at *
    have xx := HVX.out.c0
    have x8 := HV5.out.c0
    by_cases hde : de = 0
    · subst hde
      obtain ⟨hd1, hmay, hs3⟩ := HG.out.sa.done (e := newE (y1 : Int) (y3 : Int) a3) rfl (by rw [← HDR.out])
      rw [← HDR.out] at hd1
      have hd1 : dl = l ++ [newE (y1 : Int) (y3 : Int) a3] := hd1
      have HG3 := Lib.hid (show GroO dl (P ++ [(l.length, newE (y1 : Int) (y3 : Int) a3)]) from by
        rw [hd1]
        have := HY1.out; have := HY3.out
        exact HG.out.snoc hs3 (newE_ok (by omega) (by omega) HOB.out) (by unfold newE; simp only; omega) (by unfold newE; simp only; omega))
      have HD1 := Lib.hid hd1
      have hnx8 : nx = n8 + 1 := by rw [← HXL.out, hd1, List.length_append, List.length_singleton, HLL.out]
      have HNX := Lib.hid hnx8
      have hnx1000 : nx ≤ 1000 := by omega
      clear hd1 hmay hs3 hnx8
      obtain ⟨m, hm⟩ : ∃ m, (openT P (y1 : Int)).length = m := ⟨_, rfl⟩
      have hm1000 : m ≤ 1000 := by rw [← hm]; have h1 := openT_few HG.out.sa.fit (t := (y1 : Int)); have := HG.out.sa.len; omega
      have hop : openT (P ++ [(l.length, newE (y1 : Int) (y3 : Int) a3)]) (y1 : Int) = openT P (y1 : Int) ++ [newE (y1 : Int) (y3 : Int) a3] := by rw [openT_snoc, if_pos (show (newE (y1 : Int) (y3 : Int) a3).t = (y1 : Int) from rfl)]
      have HO1 := Lib.hid (open2_any Ax nx cx (m + 1) dl (P ++ [(l.length, newE (y1 : Int) (y3 : Int) a3)]) (y1 : Int) HG3.out.sa.op (by omega) w5 HVX.out.es (by rw [hop, List.length_append, hm]; rfl))
      rw [hop] at HO1
      have HM := Lib.hid hm
      have HOPS := Lib.hid (fun t : Int => (openT_snoc (P := P) (i := l.length) (e := newE (y1 : Int) (y3 : Int) a3) (t := t)))
      clear hop hm
      generalize hP3 : P ++ [(l.length, newE (y1 : Int) (y3 : Int) a3)] = P3 at *
      clear hP3
      go_wp2_with fail
      refine HO1.out.mono ?_
      rintro r wa ⟨hba, Am, cm, rfl, hem⟩
      have HBa := Lib.hid (HB5.out.trans (hba.mono HB5.out.size))
      have HVXa := Lib.hid (HVX.out.below hba)
      have HV5a := Lib.hid (HV5.out.below hba)
      have HEM := Lib.hid hem
      clear hba hem HO1 x8 xx HVX HV5
      have x8 := HV5a.out.c0
      have xx := HVXa.out.c0
      have HO2 := Lib.hid (open2_any A8 n8 c8 m l P (y1 : Int) HG.out.sa.op (by omega) wa HV5a.out.es HM.out)
      go_wp2_with fail
      refine HO2.out.mono ?_
      rintro r wb ⟨hbb, An, cn, rfl, hen⟩
      have HBb := Lib.hid (HBa.out.trans (hbb.mono HBa.out.size))
      have HVXb := Lib.hid (HVXa.out.below hbb)
      have HV5b := Lib.hid (HV5a.out.below hbb)
      obtain ⟨bn, on, hAn, _, _, _, _, _, hn2, hn3⟩ := (HEM.out.below hbb).eo (i := m) (by omega)
      subst hAn
      rw [last_getD' HM.out] at hn2 hn3
      replace hn2 : wb.cell? ⟨bn, on + m * 4 + 2, none⟩ = some (.int .i64 a3) := hn2
      replace hn3 : wb.cell? ⟨bn, on + m * 4 + 3, none⟩ = some (.bool false) := hn3
      have hww : IntKind.i64.wrap (((m + 1 : Nat) : Int) - 1) = (m : Int) := by rw [IntKind.wrap_i64]; omega
      have hwx : IntKind.i64.wrap ((m : Int) + 1) = ((m + 1 : Nat) : Int) := by rw [IntKind.wrap_i64]; omega
      have hmm : (m : Int) < ((m + 1 : Nat) : Int) := by omega
      have hmq : (((m + 1 : Nat) : Int) != ((m + 1 : Nat) : Int)) = false := by simp
      have haq : (a3 != a3) = false := by simp
      clear hbb hen HO2 x8 xx HVXa HV5a
      go_upto_region 12 with fail
      clear hn2 hn3 hww hwx hmm hmq haq
      have xx := HVXb.out.c0
      have hbn := below_new wb (.cells #[.int .i64 (y1 : Int)] 3)
      have HUN := Lib.hid (undo_gro Ax nx cx dl P3 (some ⟨wb.heap.size, 0, none⟩) 1 1 [(y1 : Int)] HG3.out (by omega) HVXb.out.sp _ (HVXb.out.es.below hbn) (Ls.new wb [(y1 : Int)] (by have := HY1.out; unfold okI; simp; omega)))
      have HVXc := Lib.hid (HVXb.out.below hbn)
      have HV5c := Lib.hid (HV5b.out.below hbn)
      have HBc := Lib.hid (HBb.out.trans (hbn.mono HBb.out.size))
      clear hbn
      go_wp2_with fail
      refine HUN.out.mono ?_
      rintro r wd ⟨hbd, Au, nu, cu, rfl, heu, hsu, hnu⟩
      have HVU := Lib.hid (Lv.new heu hsu hnu)
      have hbe := hbd.trans ((below_new wd (.cells (liC Au nu cu) 32)).mono hbd.size)
      have HBe := Lib.hid (HBc.out.trans (hbe.mono HBc.out.size))
      have HVXe := Lib.hid (HVXc.out.below hbe)
      have HV5e := Lib.hid (HV5c.out.below hbe)
      have HUL := Lib.hid heu.len
      clear hbd heu hsu hnu hbe HUN xx HVXb HV5b HVXc HV5c
      go_upto_region 13 with fail
      generalize wd.heap.size = gu at *
      generalize wd.alloc (.cells #[.slice Au nu cu] 32) = we at *
      have HGU := Lib.hid (HG3.out.undo [(y1 : Int)])
      go_wp2_with fail
      go_loopw [16] (fun u wr => ∃ i : Nat, u = .int .i64 (i : Int) ∧ i ≤ 8 ∧ Hid (Lv wr g8 A8 n8 c8 l) ∧ Hid (Lv wr gx Ax nx cx dl) ∧ Hid (Lv wr gu Au nu cu (withU (amongE [(y1 : Int)]) dl P3)) ∧ Hid (Below w.heap.size w wr)) (fun u _ => 8 - (intOf u).toNat)
      case atStart => exact ⟨0, rfl, by omega, HV5e, HVXe, HVU, HBe⟩
      case round =>
        obtain ⟨i, rfl, hi, HVi, HXi, HUi, HBi⟩ := hrel
        clear HV5e HVXe HVU HBe
        rcases Nat.lt_or_ge i 8 with hlt | hge
        · have x8 := HVi.out.c0
          have xu := HUi.out.c0
          obtain ⟨mi, hmi⟩ : ∃ mi, (openT P (i : Int)).length = mi := ⟨_, rfl⟩
          have hmi1000 : mi ≤ 1000 := by rw [← hmi]; have h1 := openT_few HG.out.sa.fit (t := (i : Int)); have := HG.out.sa.len; omega
          have HO1 := Lib.hid (open2_any A8 n8 c8 mi l P (i : Int) HG.out.sa.op (by omega) wr HVi.out.es hmi)
          have HMI := Lib.hid hmi
          have hnu1000 : nu ≤ 1000 := by have h1 := HGU.out.sa.len; have h2 := HUL.out; omega
          have hd4 : decide ((i : Int) < 8) = true := decide_eq_true (by omega)
          have hd5 : decide (i < 8) = true := decide_eq_true hlt
          have hi1 : (i : Int) < 8 := by omega
          clear hmi
          go_wp2_with fail
          refine HO1.out.mono ?_
          rintro r wf ⟨hbf, Aa, ca, rfl, hea⟩
          have HEA := Lib.hid hea
          have HVf := Lib.hid (HVi.out.below hbf)
          have HXf := Lib.hid (HXi.out.below hbf)
          have HUf := Lib.hid (HUi.out.below hbf)
          have HBf := Lib.hid (HBi.out.trans (hbf.mono HBi.out.size))
          clear hbf hea HO1 x8 xu HVi HXi HUi HBi
          have xu := HUf.out.c0
          by_cases hiy : i = y1
          · have hq : ((i : Int) == (y1 : Int)) = true := by simp [hiy]
            have hq2 : ((i : Int) != (y1 : Int)) = false := by simp [hiy]
            have HO2 := Lib.hid (open2_any Au nu cu 0 _ _ (i : Int) HGU.out.sa.op (by omega) wf HUf.out.es (by rw [openT_undone (by simp [hiy])]; rfl))
            clear hiy
            go_wp2_with fail
            refine HO2.out.mono ?_
            rintro r wg ⟨hbg, Ab, cb, rfl, heb⟩
            have HVg := Lib.hid (HVf.out.below hbg)
            have HXg := Lib.hid (HXf.out.below hbg)
            have HUg := Lib.hid (HUf.out.below hbg)
            have HBg := Lib.hid (HBf.out.trans (hbg.mono HBf.out.size))
            clear hbg heb HO2 xu HVf HXf HUf HBf
            go_wp2_with fail
            exact ⟨⟨i + 1, rfl, hlt, HVg, HXg, HUg, HBg⟩, by simp [intOf] <;> omega⟩
          · have hq : ((i : Int) == (y1 : Int)) = false := by simp; omega
            have hq2 : ((i : Int) != (y1 : Int)) = true := by simp; omega
            have hopi : openT (P3.filter fun p => !amongE [(y1 : Int)] p.2) (i : Int) = openT P (i : Int) := by
              rw [openT_else (by simp; omega), HOPS.out, if_neg (by show ¬ ((y1 : Int) = (i : Int)); omega), List.append_nil]
            have HO2 := Lib.hid (open2_any Au nu cu mi _ _ (i : Int) HGU.out.sa.op (by omega) wf HUf.out.es (by rw [hopi]; exact HMI.out))
            rw [hopi] at HO2
            clear hopi hiy
            go_wp2_with fail
            refine HO2.out.mono ?_
            rintro r wg ⟨hbg, Ab, cb, rfl, heb⟩
            have HEB := Lib.hid heb
            have HEA2 := Lib.hid (HEA.out.below hbg)
            have HVg := Lib.hid (HVf.out.below hbg)
            have HXg := Lib.hid (HXf.out.below hbg)
            have HUg := Lib.hid (HUf.out.below hbg)
            have HBg := Lib.hid (HBf.out.trans (hbg.mono HBf.out.size))
            clear hbg heb HO2 xu HVf HXf HUf HBf HEA
            have HT1 := Lib.hid (theirs2_any Aa mi ca _ (by omega) wg HEA2.out)
            go_wp2_with fail
            refine HT1.out.mono ?_
            rintro r wh ⟨hbh, Ac1, cc1, rfl, hec⟩
            have HEC := Lib.hid hec
            have HEB2 := Lib.hid (HEB.out.below hbh)
            have HT2 := Lib.hid (theirs2_any Ab mi cb _ (by omega) wh HEB2.out)
            have hbh2 := Lib.hid hbh
            clear hbh hec HT1 HEA2 HEB
            go_wp2_with fail
            refine HT2.out.mono ?_
            rintro r wi ⟨hbi, Ad1, cd1, rfl, hed⟩
            have HSM := Lib.hid (same_any Ac1 Ad1 mi cc1 cd1 _ (by omega) wi (HEC.out.below hbi) hed)
            have hbi2 := Lib.hid hbi
            clear hbi hed HT2 HEB2 HEC
            go_wp2_with fail
            refine HSM.out.mono ?_
            rintro r wj ⟨rfl, hbj⟩
            have hb3 := (hbh2.out.trans (hbi2.out.mono hbh2.out.size)).trans (hbj.mono (hbh2.out.trans (hbi2.out.mono hbh2.out.size)).size)
            have HVj := Lib.hid (HVg.out.below hb3)
            have HXj := Lib.hid (HXg.out.below hb3)
            have HUj := Lib.hid (HUg.out.below hb3)
            have HBj := Lib.hid (HBg.out.trans (hb3.mono HBg.out.size))
            clear hbj hb3 HSM hbh2 hbi2 HVg HXg HUg HBg
            go_wp2_with fail
            exact ⟨⟨i + 1, rfl, hlt, HVj, HXj, HUj, HBj⟩, by simp [intOf] <;> omega⟩
        · obtain rfl : i = 8 := by omega
          have hd4 : decide (((8 : Nat) : Int) < 8) = false := by decide
          have hd6 : decide ((8 : Int) < 8) = false := by decide
          have hd5 : decide (8 < 8) = false := by decide
          have HCU := Lib.hid (show Sp Au ∧ nx ≤ cu from by
            refine ⟨HUi.out.sp.resolve_left fun h => ?_, ?_⟩
            · have h1 := HNX.out
              have h2 := congrArg List.length h
              unfold withU at h2
              rw [List.length_append, HXL.out, List.length_nil] at h2
              omega
            · have h1 := HUL.out
              have h2 := HUi.out.na
              unfold withU at h1
              rw [List.length_append, HXL.out] at h1
              omega)
          have HTU := Lib.hid (fun V (hV : Since wr V) => theirs2_any Au nx cu dl (by omega) V ((show EsAt REo wr Au nu (dl ++ undoL (amongE [(y1 : Int)]) P3) from HUi.out.es).left HXL.out |>.below hV))
          have HTX := Lib.hid (fun V (hV : Since wr V) => theirs2_any Ax nx cx dl (by omega) V (HXi.out.es.below hV))
          have XU : ∀ V, Since wr V → V.cell? ⟨gu, 0, none⟩ = some (.slice Au nu cu) := fun V hV => (HUi.out.below hV).c0
          have XX : ∀ V, Since wr V → V.cell? ⟨gx, 0, none⟩ = some (.slice Ax nx cx) := fun V hV => (HXi.out.below hV).c0
          go_upto_region 20 with fail
          refine wp_region_since (by kernel_rfl) ?_
          have hS : Since wr (World.drew wr) := (Below.refl _ _).drew
          refine wpAnyH_take (i := 0) (oi := ⟨some 120, _, _, _, _, _⟩) (v := ?_) rfl (by kernel_rfl) (by kernel_rfl) (by kernel_rfl) (fun _ _ _ h => h) (Or.inl ⟨by rfl, ?_⟩) hS ?_
          rotate_left
          · intro W hW; go_simp; with_reducible rfl
          try simp only [Act.put, List.setIfInBounds_toArray, List.set_cons_zero, List.set_cons_succ]
          refine wpAnyH_take (i := 1) (oi := ⟨some 121, _, _, _, _, _⟩) (v := ?_) rfl (by kernel_rfl) (by kernel_rfl) (by kernel_rfl) (fun _ _ _ h => h) (Or.inl ⟨by rfl, ?_⟩) hS ?_
          rotate_left
          · intro W hW; go_simp; with_reducible rfl
          try simp only [Act.put, List.setIfInBounds_toArray, List.set_cons_zero, List.set_cons_succ]
          refine wpAnyH_take (i := 2) (oi := ⟨some 122, _, _, _, _, _⟩) (v := ?_) rfl (by kernel_rfl) (by kernel_rfl) (by kernel_rfl) (fun _ _ _ h => h) (Or.inl ⟨by rfl, ?_⟩) hS ?_
          rotate_left
          · intro W hW; go_simp; with_reducible rfl
          try simp only [Act.put, List.setIfInBounds_toArray, List.set_cons_zero, List.set_cons_succ]
          refine wpAnyH_take (i := 3) (oi := ⟨some 123, _, _, _, _, _⟩) (v := ?_) rfl (by kernel_rfl) (by kernel_rfl) (by kernel_rfl) (fun _ _ _ h => h) (Or.inl ⟨by rfl, ?_⟩) hS ?_
          rotate_left
          · intro W hW
            have x1 := XU W hW
            go_simp
            with_reducible rfl
          try simp only [Act.put, List.setIfInBounds_toArray, List.set_cons_zero, List.set_cons_succ]
          refine wpAnyH_take (i := 4) (oi := ⟨some 124, _, _, _, _, _⟩) (v := ?_) rfl (by kernel_rfl) (by kernel_rfl) (by kernel_rfl) (fun _ _ _ h => h) (Or.inl ⟨by rfl, ?_⟩) hS ?_
          rotate_left
          · intro W hW; go_simp; with_reducible rfl
          try simp only [Act.put, List.setIfInBounds_toArray, List.set_cons_zero, List.set_cons_succ]
          refine wpAnyH_take (i := 5) (oi := ⟨some 125, _, _, _, _, _⟩) (v := ?_) rfl (by kernel_rfl) (by kernel_rfl) (by kernel_rfl) (fun _ _ _ h => h) (Or.inl ⟨by rfl, ?_⟩) hS ?_
          rotate_left
          · intro W hW
            have x1 := XX W hW
            go_simp
            with_reducible rfl
          try simp only [Act.put, List.setIfInBounds_toArray, List.set_cons_zero, List.set_cons_succ]
          refine wpAnyH_take (i := 6) (oi := ⟨some 126, _, _, _, _, _⟩) (v := ?_) rfl (by kernel_rfl) (by kernel_rfl) (by kernel_rfl) (fun _ _ _ h => h) (Or.inl ⟨by rfl, ?_⟩) hS ?_
          rotate_left
          · intro W hW; go_simp; with_reducible rfl
          try simp only [Act.put, List.setIfInBounds_toArray, List.set_cons_zero, List.set_cons_succ]
          refine wpAnyH_take (i := 7) (oi := ⟨some 127, _, _, _, _, _⟩) (v := .slice Au nx cu) rfl (by kernel_rfl) (by kernel_rfl) (by kernel_rfl) (fun _ _ _ h => h) (Or.inl ⟨by rfl, fun W hW => by have hcut := run_cut_es Au nu cu nx HCU.out.1 HCU.out.2 W; go_simp⟩) hS ?_
          try simp only [Act.put, List.setIfInBounds_toArray, List.set_cons_zero, List.set_cons_succ]
          refine wpAnyH_take (i := 9) (oi := ⟨some 129, _, _, _, _, _⟩) (v := ?_) rfl (by kernel_rfl) (by kernel_rfl) (by kernel_rfl) (fun _ _ _ h => h) (Or.inl ⟨by rfl, ?_⟩) hS ?_
          rotate_left
          · intro W hW; go_simp; with_reducible rfl
          try simp only [Act.put, List.setIfInBounds_toArray, List.set_cons_zero, List.set_cons_succ]
          refine wpAnyH_take (i := 10) (oi := ⟨some 130, _, _, _, _, _⟩) (v := ?_) rfl (by kernel_rfl) (by kernel_rfl) (by kernel_rfl) (fun _ _ _ h => h) (Or.inl ⟨by rfl, ?_⟩) hS ?_
          rotate_left
          · intro W hW
            have x1 := XX W hW
            go_simp
            with_reducible rfl
          try simp only [Act.put, List.setIfInBounds_toArray, List.set_cons_zero, List.set_cons_succ]
          refine wpAnyH_ready (rs := [8]) (by kernel_rfl) (by simp) ?_
          refine AllReadyH.cons (o := ⟨some 128, _, _, _, _, _⟩) rfl (fun Kr hKr => ?_) AllReadyH.nil
          -- operation 8: a call
          go_simp
          refine (HTU.out _ hS).mono ?_
          rintro r wt ⟨hbt, At, ct, rfl, het⟩
          have HET := Lib.hid het
          show Kr _ _
          refine hKr.out _ _ ?_ (fun _ => ?_)
          · exact since_trans hS hbt
          clear hKr Kr
          replace hS : Since wr wt := since_trans hS hbt
          try simp only [Act.put, List.setIfInBounds_toArray, List.set_cons_zero, List.set_cons_succ]
          refine wpAnyH_ready (rs := [11]) (by kernel_rfl) (by simp) ?_
          refine AllReadyH.cons (o := ⟨some 131, _, _, _, _, _⟩) rfl (fun Kr hKr => ?_) AllReadyH.nil
          -- operation 11: a call
          go_simp
          refine (HTX.out _ hS).mono ?_
          rintro r wv ⟨hbv, Av, cv, rfl, hev⟩
          have HEV := Lib.hid hev
          replace HET := Lib.hid (HET.out.below hbv)
          show Kr _ _
          refine hKr.out _ _ ?_ (fun _ => ?_)
          · exact since_trans hS hbv
          clear hKr Kr
          replace hS : Since wr wv := since_trans hS hbv
          try simp only [Act.put, List.setIfInBounds_toArray, List.set_cons_zero, List.set_cons_succ]
          refine wpAnyH_ready (rs := [12]) (by kernel_rfl) (by simp) ?_
          refine AllReadyH.cons (o := ⟨some 132, _, _, _, _, _⟩) rfl (fun Kr hKr => ?_) AllReadyH.nil
          -- operation 12: a call
          go_simp
          refine (same_any At Av nx ct cv _ (by omega) _ HET.out HEV.out).mono ?_
          rintro r ws ⟨rfl, hbs⟩
          show Kr _ _
          refine hKr.out _ _ ?_ (fun _ => ?_)
          · exact since_trans hS hbs
          clear hKr Kr
          replace hS : Since wr ws := since_trans hS hbs
          try simp only [Act.put, List.setIfInBounds_toArray, List.set_cons_zero, List.set_cons_succ]
          refine wpAnyH_take (i := 13) (oi := ⟨some 133, _, _, _, _, _⟩) (v := ?_) rfl (by kernel_rfl) (by kernel_rfl) (by kernel_rfl) (fun _ _ _ h => h) (Or.inl ⟨by rfl, ?_⟩) hS ?_
          rotate_left
          · intro W hW; go_simp; with_reducible rfl
          try simp only [Act.put, List.setIfInBounds_toArray, List.set_cons_zero, List.set_cons_succ]
          refine wpAnyH_take (i := 14) (oi := ⟨some 8, _, _, _, _, _⟩) (v := ?_) rfl (by kernel_rfl) (by kernel_rfl) (by kernel_rfl) (fun _ _ _ h => h) (Or.inl ⟨by rfl, ?_⟩) hS ?_
          rotate_left
          · intro W hW; go_simp; with_reducible rfl
          try simp only [Act.put, List.setIfInBounds_toArray, List.set_cons_zero, List.set_cons_succ]
          refine wpAnyH_done (by kernel_rfl) ?_ _
          have HSS := Lib.hid hS
          clear hS
          go_wp2_with fail
          go_ret
          exact ⟨rfl, HBi.out.trans (Below.mono HSS.out HBi.out.size)⟩
    · have hq : (de != 0) = true := by simpa using hde
      obtain ⟨hd1, hd2⟩ := HG.out.sa.not_done (e := newE (y1 : Int) (y3 : Int) a3) rfl (by rw [← HDR.out]; exact hde)
      rw [← HDR.out] at hd1 hd2
      have hd1 : dl = [] := hd1
      have hnx0 : nx = 0 := by rw [← HXL.out, hd1]; rfl
      subst hnx0
      have hd2 : de = 13 ∨ (de = 1 ∧ (newE (y1 : Int) (y3 : Int) a3).may = false) := hd2
      rcases hd2 with rfl | ⟨rfl, hmay⟩
      · clear hd1 hde hq
        go_wp2_with fail
        go_ret
        exact ⟨rfl, HB5.out⟩
      · have ha3 : a3 = -9223372036854775808 := by
          have h1 := HY1.out
          have h2 := HY3.out
          by_cases h : a3 = -9223372036854775808
          · exact h
          · have : (newE (y1 : Int) (y3 : Int) a3).may = true := by rw [En.may_iff]; unfold newE; simp only; omega
            rw [this] at hmay; cases hmay
        subst ha3
        clear hd1 hde hq hmay
        go_wp2_with fail
        go_ret
        exact ⟨rfl, HB5.out⟩
end Go.Proofs.Ytpphhhalmccnbaa
