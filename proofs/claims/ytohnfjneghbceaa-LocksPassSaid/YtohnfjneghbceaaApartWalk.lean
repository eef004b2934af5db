/-
  LocksApart's walk.
-/
import Derived.Test.YtohnfjneghbceaaGrown
import Derived.Test.YtohnfjneghbceaaWake
namespace Go.Proofs.Ytohnfjneghbceaa
set_option maxRecDepth 100000
set_option linter.unusedVariables false
set_option linter.unusedSimpArgs false
open Go.RowKit Go.Shelf

theorem Acts.below {w V : World} {a : Option Addr} {len : Nat} {F G P R : Nat → Int} (h : Acts w a len F G P R) (hb : Below w.heap.size w V) : Acts V a len F G P R := by
  rcases h with h | ⟨b, o, e, hl, hc⟩
  · exact .inl h
  · refine .inr ⟨b, o, e, Nat.lt_of_lt_of_le hl hb.size, fun i hi => ?_⟩
    obtain ⟨h0, h1, h2, h3⟩ := hc i hi
    exact ⟨(hb.cell (p := ⟨b, o + i * 4, none⟩) hl).trans h0, (hb.cell (p := ⟨b, o + i * 4 + 1, none⟩) hl).trans h1, (hb.cell (p := ⟨b, o + i * 4 + 2, none⟩) hl).trans h2, (hb.cell (p := ⟨b, o + i * 4 + 3, none⟩) hl).trans h3⟩

theorem max_two {s t : Int} (hs : s = 1 ∨ s = 2) (ht : t = 1 ∨ t = 2) (h : max s t = 2) : s = 2 ∨ t = 2 := by omega

set_option maxHeartbeats 4000000 in
theorem apart_walk (a : Option Addr) (len cap : Nat) (F G P R : Nat → Int) (w : World) (hacts : Acts w a len F G P R) :
    Calls Try.prog 8 #[.slice a len cap] w fun e w' => e = .returned (.bool true) ∧ Below w.heap.size w w' := by
  have HACT := Lib.hid hacts
  clear hacts
  go_enter Try.func8, Try.ntmps8
  go_wp2_with fail
  refine (awake_any w).mono ?_
  rintro e w1 ⟨rfl, hb1⟩
  have HB1 := Lib.hid hb1
  have HAC1 := Lib.hid (HACT.out.below hb1)
  clear hb1
  rcases Nat.lt_or_ge 150 len with hbig | hlen
  · have hgt : decide (150 < len) = true := decide_eq_true hbig
    have hgt2 : decide ((150 : Int) < (len : Int)) = true := decide_eq_true (by omega)
    go_wp2
    go_ret
    exact ⟨rfl, HB1.out⟩
  have hgt : decide (150 < len) = false := decide_eq_false (by omega)
  have hgt2 : decide ((150 : Int) < (len : Int)) = false := decide_eq_false (by omega)
  go_wp2_with fail
  refine (grown_any a len cap F G P R hlen w1 HAC1.out).mono ?_
  rintro e w2 ⟨A, k, n, c, T, B, m, kb, L, rfl, hN, hC, hcb, hap, hx, hm, hmk, hsp, hl, hb2⟩
  have HN := Lib.hid hN
  have HAP := Lib.hid hap
  have HX2 := Lib.hid hx
  have HM := Lib.hid hm
  have HL2 := Lib.hid hl
  have HB2 := Lib.hid (HB1.out.trans (hb2.mono HB1.out.size))
  have hm16 : m ≤ 16384 := by rw [← hm]; exact hap.tab.len
  clear hN hC hap hx hm hl hb2 HACT HAC1 HB1 hgt hgt2
  obtain ⟨g, hg⟩ : ∃ g, g = w2.heap.size := ⟨_, rfl⟩
  obtain ⟨h, hh⟩ : ∃ h, h = w2.heap.size + 1 := ⟨_, rfl⟩
  go_upto_region 5 with (first
    | (refine wpList_store_tree rfl (.tmp 4) (.tmp 19) rfl rfl rfl ((TB.new w2 none 0 0 0).below (below_new _ (.cells #[.slice none 0 0] 49))) ?_; intro w3 hu hg3; have HU3 := Lib.hid hu; have HG3 := Lib.hid hg3; have HK3 := Lib.hid (KB.far (by have h9 := KB.new (w2.alloc (.cells #[.slice none 0 0, .int .i64 0] 26)) none 0 0; rw [World.size_alloc] at h9; exact h9) hg3 (fun e => by injection e with e; omega)); clear hu hg3)
    | (refine wpList_store_table rfl (.tmp 5) (.tmp 20) rfl rfl rfl HK3.out ?_; intro w4 hu hg4; have HK4 := Lib.hid hu; have HG4 := Lib.hid hg4; clear hu hg4)
    | fail)
  have t3 : Below w2.heap.size w2 w4 := by
    have h1 : Below w2.heap.size w2 w3 := ((below_new w2 (.cells #[.slice none 0 0, .int .i64 0] 26)).alloc (by simp) (.cells #[.slice none 0 0] 49)).grown HG3.out (by simp; omega) (fun q e => by injection e with e; omega)
    exact h1.grown HG4.out h1.size (fun q e => by injection e with e; omega)
  rw [← hh, ← hg]
  have HU4 := Lib.hid (show TB w4 g A n k c by rw [hg]; exact HU3.out.far HG4.out (fun e => by injection e with e; omega))
  have HKB := Lib.hid (show KB w4 h B m kb by rw [hh]; exact HK4.out)
  have HX4 := Lib.hid (HX2.out.below t3)
  have HL4 := Lib.hid (HL2.out.below t3)
  have HB4 := Lib.hid (HB2.out.trans (t3.mono HB2.out.size))
  clear t3 hg hh HU3 HG3 HK3 HK4 HG4 HX2 HL2 HB2
  go_wp2_with fail
  go_loopw [6] (fun iv wr => ∃ i : Nat, iv = .int .i64 (i : Int) ∧ i ≤ m ∧ Hid (Below w4.heap.size w4 wr)) (fun iv _ => m - (intOf iv).toNat)
  case atStart => exact ⟨0, rfl, Nat.zero_le _, Below.refl _ _⟩
  case round =>
    obtain ⟨i, rfl, hi, HR⟩ := hrel
    have c2 := (HKB.out.below HR.out).c0
    rcases Nat.lt_or_ge i m with hlt | hge
    · obtain ⟨y, hy⟩ : ∃ y, L[i]? = some y := ⟨L[i]'(by rw [HM.out]; exact hlt), List.getElem?_eq_getElem (by rw [HM.out]; exact hlt)⟩
      obtain ⟨p, hyx, hpn, hps⟩ := HAP.out.live y (List.mem_of_getElem? hy)
      have hpn : p < n := by rw [← HN.out]; exact hpn
      obtain ⟨b, o, rfl, hb, hc⟩ := (HL4.out.below HR.out).get hy
      obtain ⟨bx, hAe, hbx, _, px, _, _⟩ := (HX4.out.below HR.out).get (i := p) (by rw [HN.out]; exact hpn)
      subst hAe
      rw [hps] at px
      have hc0 := hc.c0
      have hc1 := hc.c1
      have hc2 := hc.c2
      have hc3 := hc.c3
      rw [hyx] at hc1
      obtain ⟨wz, hwz⟩ : ∃ wz, wz = wr.alloc (.cells #[.int .i64 y.b, .int .i64 (p : Int), .int .i64 y.h, .int .i64 y.k] 53) := ⟨_, rfl⟩
      obtain ⟨gy, hgy⟩ : ∃ gy, gy = wr.heap.size := ⟨_, rfl⟩
      have hbz : Below wr.heap.size wr wz := by rw [hwz]; exact below_new _ _
      have hy4 : LH wz gy y := by rw [hwz, hgy, ← hyx]; exact LH.new wr y
      have HYZ := Lib.hid hy4
      have HRZ := Lib.hid (HR.out.trans (hbz.mono HR.out.size))
      have pz := (hbz.cell (p := ⟨bx, p * 4 + 1, none⟩) hbx).trans px
      have cz1 : wz.cell? ⟨gy, 1, none⟩ = some (.int .i64 (p : Int)) := by rw [← hyx]; exact hy4.c1
      have u0 := (HU4.out.below HRZ.out).c0
      have HY := Lib.hid hy
      have HYX := Lib.hid hyx
      have hp0 : decide ((p : Int) < 0) = false := decide_eq_false (by omega)
      have hpn2 : decide (n ≤ p) = false := decide_eq_false (by omega)
      have hpn3 : decide ((n : Int) ≤ (p : Int)) = false := decide_eq_false (by omega)
      have HPN := Lib.hid hpn
      clear hc hy hy4 hb hbx px hps hyx hbz
      go_upto_region 9 with fail
      rw [← hgy, ← hwz]
      clear hwz hgy hc0 hc1 hc2 hc3 c2
      go_wp2_with fail
      clear pz u0 cz1 hp0 hpn2 hpn3
      go_loopw [8] (fun kv wq => ∃ j : Nat, kv = .int .i64 (j : Int) ∧ j ≤ i ∧ Hid (Below wz.heap.size wz wq)) (fun kv _ => i - (intOf kv).toNat)
      case atStart => exact ⟨0, rfl, Nat.zero_le _, Below.refl _ _⟩
      case round =>
        obtain ⟨j, rfl, hj, HQ⟩ := hrel
        have HRQ := Lib.hid (HRZ.out.trans (HQ.out.mono HRZ.out.size))
        have c2 := (HKB.out.below HRQ.out).c0
        rcases Nat.lt_or_ge j i with hjl | hjg
        · have hjm : j < m := by omega
          obtain ⟨z, hz⟩ : ∃ z, L[j]? = some z := ⟨L[j]'(by rw [HM.out]; exact hjm), List.getElem?_eq_getElem (by rw [HM.out]; exact hjm)⟩
          obtain ⟨q, hzx, hqn, _⟩ := HAP.out.live z (List.mem_of_getElem? hz)
          obtain ⟨b', o', e, hb', hc'⟩ := (HL4.out.below HRQ.out).get hz
          injection e with e
          injection e with e1 e2
          subst e1
          subst e2
          have hc0 := hc'.c0
          have hc1 := hc'.c1
          have hc2 := hc'.c2
          have hc3 := hc'.c3
          rw [hzx] at hc1
          obtain ⟨wu, hwu⟩ : ∃ wu, wu = wr.alloc (.cells #[.int .i64 z.b, .int .i64 (q : Int), .int .i64 z.h, .int .i64 z.k] 53) := ⟨_, rfl⟩
          obtain ⟨gz, hgz⟩ : ∃ gz, gz = wr.heap.size := ⟨_, rfl⟩
          have hbu : Below wr.heap.size wr wu := by rw [hwu]; exact below_new _ _
          have hz4 : LH wu gz z := by rw [hwu, hgz, ← hzx]; exact LH.new wr z
          have HQU := Lib.hid (HQ.out.trans (hbu.mono HQ.out.size))
          have HRU := Lib.hid (HRQ.out.trans (hbu.mono HRQ.out.size))
          have HXU := Lib.hid (HX4.out.below HRU.out)
          have HUU := Lib.hid (HU4.out.below HRU.out)
          have HYU := Lib.hid (HYZ.out.below HQU.out)
          have HZU := Lib.hid hz4
          have HZX := Lib.hid hzx
          have y0 := HYU.out.c0
          have y1 := HYU.out.c1
          have y2 := HYU.out.c2
          have y3 := HYU.out.c3
          have z0 := hz4.c0
          have z1 := hz4.c1
          have z2 := hz4.c2
          have z3 := hz4.c3
          rw [HYX.out] at y1
          rw [hzx] at z1
          have u0 := HUU.out.c0
          have u1 := HUU.out.c1
          obtain ⟨sy, hsy⟩ : ∃ s, max y.h y.k = s := ⟨_, rfl⟩
          obtain ⟨sz, hsz⟩ : ∃ s, max z.h z.k = s := ⟨_, rfl⟩
          obtain ⟨st, hst⟩ : ∃ s, max sy sz = s := ⟨_, rfl⟩
          obtain ⟨t1, hst1⟩ : ∃ t, T.stands (p : Int) (q : Int) = t := ⟨_, rfl⟩
          obtain ⟨t2, hst2⟩ : ∃ t, T.stands (q : Int) (p : Int) = t := ⟨_, rfl⟩
          have HAPT := Lib.hid (show y.b = z.b → st = 2 → t1 = true ∨ t2 = true from fun h1 h2 => by
            have my := (HAP.out.tab.may y (List.mem_of_getElem? HY.out)).s2
            have mz := (HAP.out.tab.may z (List.mem_of_getElem? hz)).s2
            have e1 : y.s = sy := hsy
            have e2 : z.s = sz := hsz
            rw [← hst1, ← hst2, ← HYX.out, ← hzx]
            have my2 : sy = 1 ∨ sy = 2 := by rw [← e1]; exact my
            have mz2 : sz = 1 ∨ sz = 2 := by rw [← e2]; exact mz
            have h4 : max sy sz = 2 := by rw [hst]; exact h2
            rcases max_two my2 mz2 h4 with h3 | h3
            · exact HAP.out.apart y (List.mem_of_getElem? HY.out) z (List.mem_of_getElem? hz) h1 (by rw [e1]; exact h3)
            · exact (HAP.out.apart z (List.mem_of_getElem? hz) y (List.mem_of_getElem? HY.out) h1.symm (by rw [e2]; exact h3)).symm)
          clear hc' hb' hz hzx hqn hbu hz4
          go_upto_region 15 with fail
          rw [← hgz, ← hwu]
          clear hwu hgz hc0 hc1 hc2 hc3 c2
          by_cases hbb : y.b = z.b
          · have hb1 : (y.b == z.b) = true := by simpa using hbb
            by_cases hs2 : st = 2
            · have hs1 : (st == 2) = true := by simpa using hs2
              have hor := HAPT.out hbb hs2
              clear hbb hs2
              cases t1
              · have ht2 : t2 = true := by rcases hor with h | h; cases h; exact h
                subst ht2
                clear hor
                go_wp2_with fail
                refine (within_any (some ⟨bx, 0, none⟩) T n k c p q HN.out HAP.out.good wu HXU.out).mono ?_
                rintro e w8 ⟨rfl, hb8⟩
                rw [hst1]
                have HB8 := Lib.hid hb8
                have HX8 := Lib.hid (HXU.out.below hb8)
                have v0 := (HUU.out.below hb8).c0
                have v1 := (HUU.out.below hb8).c1
                have v2 := (HYU.out.below hb8).c1
                have v3 := (HZU.out.below hb8).c1
                rw [HYX.out] at v2
                rw [HZX.out] at v3
                clear hb8
                go_wp2_with fail
                refine (within_any (some ⟨bx, 0, none⟩) T n k c q p HN.out HAP.out.good w8 HX8.out).mono ?_
                rintro e w9 ⟨rfl, hb9⟩
                rw [hst2]
                have HB9 := Lib.hid hb9
                clear hb9
                go_wp2
                go_roundw
                case rel => exact ⟨j + 1, by simp, by omega, (HQU.out.trans (HB8.out.mono HQU.out.size)).trans (HB9.out.mono (Nat.le_trans HQU.out.size HB8.out.size))⟩
                case measure => simp [intOf]; omega
              · clear hor
                go_wp2_with fail
                refine (within_any (some ⟨bx, 0, none⟩) T n k c p q HN.out HAP.out.good wu HXU.out).mono ?_
                rintro e w8 ⟨rfl, hb8⟩
                rw [hst1]
                have HB8 := Lib.hid hb8
                have HX8 := Lib.hid (HXU.out.below hb8)
                have v0 := (HUU.out.below hb8).c0
                have v1 := (HUU.out.below hb8).c1
                have v2 := (HYU.out.below hb8).c1
                have v3 := (HZU.out.below hb8).c1
                rw [HYX.out] at v2
                rw [HZX.out] at v3
                clear hb8
                go_wp2
                go_roundw
                case rel => exact ⟨j + 1, by simp, by omega, HQU.out.trans (HB8.out.mono HQU.out.size)⟩
                case measure => simp [intOf]; omega
            · have hs1 : (st == 2) = false := by simpa using hs2
              clear hbb hs2
              go_wp2
              go_roundw
              case rel => exact ⟨j + 1, by simp, by omega, HQU.out⟩
              case measure => simp [intOf]; omega
          · have hb1 : (y.b == z.b) = false := by simpa using hbb
            clear hbb
            go_wp2
            go_roundw
            case rel => exact ⟨j + 1, by simp, by omega, HQU.out⟩
            case measure => simp [intOf]; omega
        · obtain rfl : j = i := by omega
          clear c2
          go_wp2
          go_roundw
          case rel => exact ⟨j + 1, by simp, by omega, HRQ.out⟩
          case measure => simp [intOf]; omega
    · obtain rfl : i = m := by omega
      have HSN := Lib.hid (sane_any B L i kb HM.out HAP.out.tab wr (HL4.out.below HR.out))
      go_wp2_with (first
        | (go_at_call 27; refine HSN.out.mono ?_; rintro e w5 ⟨rfl, hb5⟩; have HB5 := Lib.hid hb5; clear hb5)
        | fail)
      go_ret
      have h9 := HB4.out.trans (HR.out.mono HB4.out.size)
      exact ⟨rfl, h9.trans (HB5.out.mono h9.size)⟩
end Go.Proofs.Ytohnfjneghbceaa
