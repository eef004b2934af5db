/-
  Any bytes' super: the document's answer.
-/
import Derived.Test.YtojidejlohpeaaaDec8
import Derived.Test.YtojidejlohpeaaaRefEnc
namespace Go.Proofs.Ytojidejlohpeaaa
set_option maxRecDepth 100000
open Go.RowKit Crc Wm Sup

set_option maxHeartbeats 4000000 in
theorem refdec_any (A : Option Addr) (c n : Nat) (l : List UInt8) (w : World) (hl : Lies w A c n l) (hn : n ≤ 1073741824) : Calls Try.prog 15 #[.slice A n c] w (SupOut w (decS l) (decE l)) := by
  have HLEN := Lib.hid hl.len
  have hs0 : SupAt (w.alloc (.cells (supC Sup.zero) 23)) w.heap.size 23 Sup.zero := heap_alloc_new w _
  have hb0 := below_new w (.cells (supC Sup.zero) 23)
  have HS0 := Lib.hid hs0
  have HB0 := Lib.hid hb0
  clear hs0 hb0
  have hz : supC Sup.zero = #[.int .i64 0, .int .i64 0, .int .i64 0, .int .i64 0, .int .i64 0, .int .i64 0, .int .i64 0] := rfl
  rw [hz] at HS0 HB0
  clear hz
  rcases Nat.lt_or_ge n 64 with hlt | hge
  · have HE : Hid (decE l = 2) := Lib.hid (decE_short (by rw [HLEN.out]; exact hlt))
    have HD : Hid (decS l = Sup.zero) := Lib.hid (decE_not (by rw [HE.out]; decide))
    have h1 : decide ((n : Int) < 64) = true := decide_eq_true (by omega)
    clear hl
    go_enter Try.func15, Try.ntmps15
    go_upto_region 1 with fail
    generalize w.alloc (.cells #[.int .i64 0, .int .i64 0, .int .i64 0, .int .i64 0, .int .i64 0, .int .i64 0, .int .i64 0] 23) = w0 at *
    go_wp2_with (refine wpList_store_sup tyR HS0.out rfl (.tmp 2) (.tmp 26) rfl rfl Sup.zero rfl ?_; intro w5 hs5 hg5)
    exact bodyPost_ret (results_sup2 tyR rfl _ rfl _ rfl hs5) rfl ⟨by rw [HE.out, HD.out]; rfl, HB0.out.grown hg5 HB0.out.size (fun k hk => by injection hk with hk; omega)⟩
  rcases Nat.lt_or_ge 64 n with hgt | hle
  · have HE : Hid (decE l = 3) := Lib.hid (decE_long (by rw [HLEN.out]; exact hgt))
    have HD : Hid (decS l = Sup.zero) := Lib.hid (decE_not (by rw [HE.out]; decide))
    have h1 : decide ((n : Int) < 64) = false := decide_eq_false (by omega)
    have h2 : decide ((64 : Int) < (n : Int)) = true := decide_eq_true (by omega)
    clear hl
    go_enter Try.func15, Try.ntmps15
    go_upto_region 1 with fail
    generalize w.alloc (.cells #[.int .i64 0, .int .i64 0, .int .i64 0, .int .i64 0, .int .i64 0, .int .i64 0, .int .i64 0] 23) = w0 at *
    go_wp2_with (refine wpList_store_sup tyR HS0.out rfl (.tmp 2) (.tmp 30) rfl rfl Sup.zero rfl ?_; intro w5 hs5 hg5)
    exact bodyPost_ret (results_sup2 tyR rfl _ rfl _ rfl hs5) rfl ⟨by rw [HE.out, HD.out]; rfl, HB0.out.grown hg5 HB0.out.size (fun k hk => by injection hk with hk; omega)⟩
  obtain rfl : n = 64 := by omega
  clear hge hle hn
  obtain ⟨b, o, rfl⟩ : ∃ b o, A = some ⟨b, o, none⟩ := by
    rcases hl.rd with h0 | ⟨b, o, e, _⟩
    · subst h0; have := hl.len; simp at this
    · exact ⟨b, o, e⟩
  have hc64 := hl.cap
  have HL := Lib.hid hl
  clear hl
  cases hw : whole l 60
  · have HE : Hid (decE l = 4) := Lib.hid (decE_sum HLEN.out hw)
    have HD : Hid (decS l = Sup.zero) := Lib.hid (decE_not (by rw [HE.out]; decide))
    have HWH := Lib.hid hw
    clear hw
    go_enter Try.func15, Try.ntmps15
    go_upto_region 1 with fail
    generalize w.alloc (.cells #[.int .i64 0, .int .i64 0, .int .i64 0, .int .i64 0, .int .i64 0, .int .i64 0, .int .i64 0] 23) = w0 at *
    go_wp2_with fail
    refine (refopen_lies (n := 60) (HL.out.up HB0.out) (by omega)).mono ?_
    rintro e w1 ⟨A1, c1, E1, rfl, hE1, _, hb1⟩
    have h3 : E1 = 4 := by rw [hE1, HWH.out]; rfl
    subst h3
    have HS1 := Lib.hid (HS0.out.below hb1)
    have HB1 := Lib.hid (HB0.out.trans (hb1.mono HB0.out.size))
    clear hE1 hb1 HS0 HB0
    generalize (if whole l 60 = true then 60 else 0) = m1
    go_wp2_with (refine wpList_store_sup tyR HS1.out rfl (.tmp 2) (.tmp 38) rfl rfl Sup.zero rfl ?_; intro w5 hs5 hg5)
    exact bodyPost_ret (results_sup2 tyR rfl _ rfl _ rfl hs5) rfl ⟨by rw [HE.out, HD.out]; rfl, HB1.out.grown hg5 HB1.out.size (fun k hk => by injection hk with hk; omega)⟩
  · have HWH := Lib.hid hw
    have HR := Lib.hid (decE_rest HLEN.out hw)
    clear hw
    go_enter Try.func15, Try.ntmps15
    go_upto_region 1 with fail
    generalize w.alloc (.cells #[.int .i64 0, .int .i64 0, .int .i64 0, .int .i64 0, .int .i64 0, .int .i64 0, .int .i64 0] 23) = w0 at *
    go_wp2_with fail
    refine (refopen_lies (n := 60) (HL.out.up HB0.out) (by omega)).mono ?_
    rintro e w1 ⟨A1, c1, E1, rfl, hE1, _, hb1⟩
    have h3 : E1 = 0 := by rw [hE1, HWH.out]; rfl
    subst h3
    have HS1 := Lib.hid (HS0.out.below hb1)
    have HB1 := Lib.hid (HB0.out.trans (hb1.mono HB0.out.size))
    clear hE1 hb1 HS0 HB0
    generalize (if whole l 60 = true then 60 else 0) = m1
    have HCR : Hid (Cur (w1.alloc (.cells #[.slice (some ⟨b, o, none⟩) 64 c, .int .i64 8] 84)) w1.heap.size 84 (some ⟨b, o, none⟩) c 64 8 l) :=
      Lib.hid ⟨heap_alloc_new w1 _, by omega, HLEN.out, hc64, by omega, (HL.out.up HB1.out).rd.below (below_new w1 _)⟩
    have hbx := below_new w1 (.cells #[.slice (some ⟨b, o, none⟩) 64 c, .int .i64 8] 84)
    have hlt1 : w.heap.size < w1.heap.size := lt_of_block HS1.out
    have HC0 := HCR
    have HZ0 := Lib.hid (HS1.out.below hbx)
    have HP0 := Lib.hid (HB1.out.trans (hbx.mono HB1.out.size))
    clear HCR hbx HS1 HB1
    go_upto_region 9 with fail
    generalize w1.alloc (.cells #[.slice (some ⟨b, o, none⟩) 64 c, .int .i64 8] 84) = v0 at *
    generalize w1.heap.size = r at *
    go_wp2_with fail
    refine (refget_ok HC0.out 8 (by omega) (by omega) (by omega)).mono ?_
    rintro e v1 ⟨rfl, hcur, hg⟩
    have HC1 : Hid (Cur v1 r 84 (some ⟨b, o, none⟩) c 64 16 l) := Lib.hid hcur
    have HZ1 := Lib.hid (HZ0.out.far hg (by omega))
    have HP1 := Lib.hid (HP0.out.grown hg HP0.out.size (fun k hk => by injection hk with hk; omega))
    obtain ⟨V0, hV⟩ : ∃ V, V = valB ((l.drop 8).take 8) := ⟨_, rfl⟩
    obtain ⟨N0, hN⟩ : ∃ N, N = numAt l 0 := ⟨_, rfl⟩
    have HW0 : Hid (IntKind.i64.wrap (V0 : Int) = N0) := Lib.hid (by
      have h : numAt l 0 = wrap64 (valB ((l.drop 8).take 8) : Int) := rfl
      rw [hN, h, ← hV, IntKind.wrap_i64, wrap64])
    have HN0 := Lib.hid hN
    rw [← hV]
    clear hcur hg HC0 HZ0 HP0 hV hN
    go_wp2_with fail
    refine (refget_ok HC1.out 4 (by omega) (by omega) (by omega)).mono ?_
    rintro e v2 ⟨rfl, hcur, hg⟩
    have HC2 : Hid (Cur v2 r 84 (some ⟨b, o, none⟩) c 64 20 l) := Lib.hid hcur
    have HZ2 := Lib.hid (HZ1.out.far hg (by omega))
    have HP2 := Lib.hid (HP1.out.grown hg HP1.out.size (fun k hk => by injection hk with hk; omega))
    obtain ⟨V1, hV⟩ : ∃ V, V = valB ((l.drop 16).take 4) := ⟨_, rfl⟩
    obtain ⟨N1, hN⟩ : ∃ N, N = numAt l 1 := ⟨_, rfl⟩
    have HW1 : Hid (IntKind.i64.wrap (V1 : Int) = N1) := Lib.hid (by
      have h : numAt l 1 = wrap64 (valB ((l.drop 16).take 4) : Int) := rfl
      rw [hN, h, ← hV, IntKind.wrap_i64, wrap64])
    have HN1 := Lib.hid hN
    rw [← hV]
    clear hcur hg HC1 HZ1 HP1 hV hN
    go_wp2_with fail
    refine (refget_ok HC2.out 2 (by omega) (by omega) (by omega)).mono ?_
    rintro e v3 ⟨rfl, hcur, hg⟩
    have HC3 : Hid (Cur v3 r 84 (some ⟨b, o, none⟩) c 64 22 l) := Lib.hid hcur
    have HZ3 := Lib.hid (HZ2.out.far hg (by omega))
    have HP3 := Lib.hid (HP2.out.grown hg HP2.out.size (fun k hk => by injection hk with hk; omega))
    obtain ⟨V2, hV⟩ : ∃ V, V = valB ((l.drop 20).take 2) := ⟨_, rfl⟩
    obtain ⟨N2, hN⟩ : ∃ N, N = numAt l 2 := ⟨_, rfl⟩
    have HW2 : Hid (IntKind.i64.wrap (V2 : Int) = N2) := Lib.hid (by
      have h : numAt l 2 = wrap64 (valB ((l.drop 20).take 2) : Int) := rfl
      rw [hN, h, ← hV, IntKind.wrap_i64, wrap64])
    have HN2 := Lib.hid hN
    rw [← hV]
    clear hcur hg HC2 HZ2 HP2 hV hN
    go_wp2_with fail
    refine (refget_ok HC3.out 2 (by omega) (by omega) (by omega)).mono ?_
    rintro e v4 ⟨rfl, hcur, hg⟩
    have HC4 : Hid (Cur v4 r 84 (some ⟨b, o, none⟩) c 64 24 l) := Lib.hid hcur
    have HZ4 := Lib.hid (HZ3.out.far hg (by omega))
    have HP4 := Lib.hid (HP3.out.grown hg HP3.out.size (fun k hk => by injection hk with hk; omega))
    obtain ⟨V3, hV⟩ : ∃ V, V = valB ((l.drop 22).take 2) := ⟨_, rfl⟩
    obtain ⟨N3, hN⟩ : ∃ N, N = numAt l 3 := ⟨_, rfl⟩
    have HW3 : Hid (IntKind.i64.wrap (V3 : Int) = N3) := Lib.hid (by
      have h : numAt l 3 = wrap64 (valB ((l.drop 22).take 2) : Int) := rfl
      rw [hN, h, ← hV, IntKind.wrap_i64, wrap64])
    have HN3 := Lib.hid hN
    rw [← hV]
    clear hcur hg HC3 HZ3 HP3 hV hN
    go_wp2_with fail
    refine (refget_ok HC4.out 2 (by omega) (by omega) (by omega)).mono ?_
    rintro e v5 ⟨rfl, hcur, hg⟩
    have HC5 : Hid (Cur v5 r 84 (some ⟨b, o, none⟩) c 64 26 l) := Lib.hid hcur
    have HZ5 := Lib.hid (HZ4.out.far hg (by omega))
    have HP5 := Lib.hid (HP4.out.grown hg HP4.out.size (fun k hk => by injection hk with hk; omega))
    obtain ⟨V4, hV⟩ : ∃ V, V = valB ((l.drop 24).take 2) := ⟨_, rfl⟩
    obtain ⟨N4, hN⟩ : ∃ N, N = numAt l 4 := ⟨_, rfl⟩
    have HW4 : Hid (IntKind.i64.wrap (V4 : Int) = N4) := Lib.hid (by
      have h : numAt l 4 = wrap64 (valB ((l.drop 24).take 2) : Int) := rfl
      rw [hN, h, ← hV, IntKind.wrap_i64, wrap64])
    have HN4 := Lib.hid hN
    rw [← hV]
    clear hcur hg HC4 HZ4 HP4 hV hN
    go_wp2_with fail
    refine (refget_ok HC5.out 8 (by omega) (by omega) (by omega)).mono ?_
    rintro e v6 ⟨rfl, hcur, hg⟩
    have HC6 : Hid (Cur v6 r 84 (some ⟨b, o, none⟩) c 64 34 l) := Lib.hid hcur
    have HZ6 := Lib.hid (HZ5.out.far hg (by omega))
    have HP6 := Lib.hid (HP5.out.grown hg HP5.out.size (fun k hk => by injection hk with hk; omega))
    obtain ⟨V5, hV⟩ : ∃ V, V = valB ((l.drop 26).take 8) := ⟨_, rfl⟩
    obtain ⟨N5, hN⟩ : ∃ N, N = numAt l 5 := ⟨_, rfl⟩
    have HW5 : Hid (IntKind.i64.wrap (V5 : Int) = N5) := Lib.hid (by
      have h : numAt l 5 = wrap64 (valB ((l.drop 26).take 8) : Int) := rfl
      rw [hN, h, ← hV, IntKind.wrap_i64, wrap64])
    have HN5 := Lib.hid hN
    rw [← hV]
    clear hcur hg HC5 HZ5 HP5 hV hN
    go_wp2_with fail
    refine (refget_ok HC6.out 8 (by omega) (by omega) (by omega)).mono ?_
    rintro e v7 ⟨rfl, hcur, hg⟩
    have HC7 : Hid (Cur v7 r 84 (some ⟨b, o, none⟩) c 64 42 l) := Lib.hid hcur
    have HZ7 := Lib.hid (HZ6.out.far hg (by omega))
    have HP7 := Lib.hid (HP6.out.grown hg HP6.out.size (fun k hk => by injection hk with hk; omega))
    obtain ⟨V6, hV⟩ : ∃ V, V = valB ((l.drop 34).take 8) := ⟨_, rfl⟩
    obtain ⟨N6, hN⟩ : ∃ N, N = numAt l 6 := ⟨_, rfl⟩
    have HW6 : Hid (IntKind.i64.wrap (V6 : Int) = N6) := Lib.hid (by
      have h : numAt l 6 = wrap64 (valB ((l.drop 34).take 8) : Int) := rfl
      rw [hN, h, ← hV, IntKind.wrap_i64, wrap64])
    have HN6 := Lib.hid hN
    rw [← hV]
    clear hcur hg HC6 HZ6 HP6 hV hN
    have HSE : Hid ((⟨N0, N1, N2, N3, N4, N5, N6⟩ : Sup) = tell l) := Lib.hid (by rw [HN0.out, HN1.out, HN2.out, HN3.out, HN4.out, HN5.out, HN6.out]; rfl)
    have hw0 := HW0.out
    have hw1 := HW1.out
    have hw2 := HW2.out
    have hw3 := HW3.out
    have hw4 := HW4.out
    have hw5 := HW5.out
    have hw6 := HW6.out
    have hbx := below_new v7 (.cells #[.int .i64 0, .int .i64 0, .int .i64 0, .int .i64 0, .int .i64 0, .int .i64 0, .int .i64 0] 23)
    have HZ : Hid (SupAt (v7.alloc (.cells #[.int .i64 0, .int .i64 0, .int .i64 0, .int .i64 0, .int .i64 0, .int .i64 0, .int .i64 0] 23)) v7.heap.size 23 Sup.zero) := Lib.hid (heap_alloc_new v7 _)
    have HS2 := Lib.hid (HZ7.out.below hbx)
    have HB2 := Lib.hid (HP7.out.trans (hbx.mono HP7.out.size))
    have hlt2 : w.heap.size < v7.heap.size := lt_of_block HZ7.out
    clear hbx HW0 HW1 HW2 HW3 HW4 HW5 HW6 HN0 HN1 HN2 HN3 HN4 HN5 HN6 HC7
    go_wp2_with (first
      | (refine wpList_load_sup tyR HT3.out rfl (.tmp 21) rfl rfl ?_)
      | (refine wpList_store_sup tyR HZ.out rfl (.tmp 21) (.tmp 92) rfl rfl ⟨N0, N1, N2, N3, N4, N5, N6⟩ rfl ?_; intro w3 hs3 hg3; have HT3 := Lib.hid hs3; have HS3 := Lib.hid (HS2.out.far hg3 (by omega)); have HB3 := Lib.hid (HB2.out.grown hg3 HB2.out.size (fun k hk => by injection hk with hk; omega)); clear hs3 hg3 HZ HS2 HB2))
    rw [HSE.out]
    refine (refenc_any w3 (tell l)).mono ?_
    rintro e w4 ⟨A2, n2, c2, rfl, hn2, ho2, hb4⟩
    have HT4 : Hid (SupAt w4 v7.heap.size 23 (tell l)) := Lib.hid (by rw [← HSE.out]; exact HT3.out.below hb4)
    have HS4 := Lib.hid (HS3.out.below hb4)
    have HB4 := Lib.hid (HB3.out.trans (hb4.mono HB3.out.size))
    clear hb4 HT3 HS3 HB3 hw0 hw1 hw2 hw3 hw4 hw5 hw6
    by_cases hm : (tell l).May
    · have hE0 : (tell l).encE = 0 := if_pos hm
      have hB0 : (tell l).encB = (tell l).sector := if_pos hm
      rw [hE0]
      rw [hB0] at ho2 hn2
      have hn64 : n2 = 64 := by rw [hn2, length_sector]
      clear hE0 hB0 hn2
      subst hn64
      have kc1 := ho2.lies.conv
      have kc2 := (HL.out.up HB4.out).conv
      obtain ⟨sx, hsx⟩ : ∃ sx, sx = (tell l).sector := ⟨_, rfl⟩
      rw [← hsx] at kc1
      clear ho2
      by_cases hq : (tell l).sector = l
      · have HE : Hid (decE l = 0) := Lib.hid (by rw [HR.out, if_pos ⟨hm, hq⟩])
        have HD : Hid (decS l = tell l) := Lib.hid (decS_ok HE.out)
        have hbq : (sx == l) = true := by rw [hsx, hq]; simp
        clear hm hq hsx
        go_wp2_with (first
          | (refine wpList_load_sup tyR HT4.out rfl (.tmp 21) rfl rfl ?_)
          | (refine wpList_store_sup tyR HS4.out rfl (.tmp 2) (.tmp 108) rfl rfl (tell l) rfl ?_; intro w6 hs6 hg6))
        exact bodyPost_ret (results_sup2 tyR rfl _ rfl _ rfl hs6) rfl ⟨by rw [HE.out, HD.out]; rfl, HB4.out.grown hg6 HB4.out.size (fun k hk => by injection hk with hk; omega)⟩
      · have HE : Hid (decE l = 3) := Lib.hid (by rw [HR.out, if_neg (fun h => hq h.2)])
        have HD : Hid (decS l = Sup.zero) := Lib.hid (decE_not (by rw [HE.out]; decide))
        have hbq : (sx == l) = false := by rw [hsx]; simpa using hq
        clear hm hq hsx
        go_wp2_with (refine wpList_store_sup tyR HS4.out rfl (.tmp 2) (.tmp 107) rfl rfl Sup.zero rfl ?_; intro w6 hs6 hg6)
        exact bodyPost_ret (results_sup2 tyR rfl _ rfl _ rfl hs6) rfl ⟨by rw [HE.out, HD.out]; rfl, HB4.out.grown hg6 HB4.out.size (fun k hk => by injection hk with hk; omega)⟩
    · have hE0 : (tell l).encE = 1 := if_neg hm
      rw [hE0]
      have HE : Hid (decE l = 3) := Lib.hid (by rw [HR.out, if_neg (fun h => hm h.1)])
      have HD : Hid (decS l = Sup.zero) := Lib.hid (decE_not (by rw [HE.out]; decide))
      clear hE0 hm hn2 ho2
      go_wp2_with (refine wpList_store_sup tyR HS4.out rfl (.tmp 2) (.tmp 107) rfl rfl Sup.zero rfl ?_; intro w6 hs6 hg6)
      exact bodyPost_ret (results_sup2 tyR rfl _ rfl _ rfl hs6) rfl ⟨by rw [HE.out, HD.out]; rfl, HB4.out.grown hg6 HB4.out.size (fun k hk => by injection hk with hk; omega)⟩

end Go.Proofs.Ytojidejlohpeaaa
