/-
  Any bytes' super: the program's answer.
-/
import Derived.Test.YtojidejlohpeaaaTold8
namespace Go.Proofs.Ytojidejlohpeaaa
set_option maxRecDepth 100000
open Go.RowKit Crc Wm Sup

/-- a super and an error are answered -/
def SupOut (w : World) (s : Sup) (E : Int) (e : Ending) (w' : World) : Prop := e = .returned (.tuple #[supV s, .int .i64 E]) ∧ Below w.heap.size w w'

set_option maxHeartbeats 1000000 in
theorem dec_any (A : Option Addr) (c n : Nat) (l : List UInt8) (w : World) (hl : Lies w A c n l) (hn : n ≤ 1073741824) : Calls Try.prog 14 #[.slice A n c] w (SupOut w (decS l) (decE l)) := by
  have HLEN := Lib.hid hl.len
  have hs0 : SupAt (w.alloc (.cells (supC Sup.zero) 29)) w.heap.size 29 Sup.zero := heap_alloc_new w _
  have hb0 := below_new w (.cells (supC Sup.zero) 29)
  have HS0 := Lib.hid hs0
  have HB0 := Lib.hid hb0
  clear hs0 hb0
  have hz : supC Sup.zero = #[.int .i64 0, .int .i64 0, .int .i64 0, .int .i64 0, .int .i64 0, .int .i64 0, .int .i64 0] := rfl
  rw [hz] at HS0 HB0
  clear hz
  rcases Nat.lt_or_ge n 64 with hlt | hge
  · have HE : Hid (decE l = 2) := Lib.hid (decE_short (by rw [HLEN.out]; exact hlt))
    have HD : Hid (decS l = Sup.zero) := Lib.hid (decE_not (by rw [HE.out]; decide))
    have h1 : decide ((n : Int) < 64) = true := decide_eq_true (by omega)
    clear hl
    go_enter Try.func14, Try.ntmps14
    go_upto_region 1 with fail
    generalize w.alloc (.cells #[.int .i64 0, .int .i64 0, .int .i64 0, .int .i64 0, .int .i64 0, .int .i64 0, .int .i64 0] 29) = w0 at *
    go_wp2_with (refine wpList_store_sup tyP HS0.out rfl (.tmp 2) (.tmp 12) rfl rfl Sup.zero rfl ?_; intro w5 hs5 hg5)
    exact bodyPost_ret (results_sup2 tyP rfl _ rfl _ rfl hs5) rfl ⟨by rw [HE.out, HD.out]; rfl, HB0.out.grown hg5 HB0.out.size (fun k hk => by injection hk with hk; omega)⟩
  rcases Nat.lt_or_ge 64 n with hgt | hle
  · have HE : Hid (decE l = 3) := Lib.hid (decE_long (by rw [HLEN.out]; exact hgt))
    have HD : Hid (decS l = Sup.zero) := Lib.hid (decE_not (by rw [HE.out]; decide))
    have h1 : decide ((n : Int) < 64) = false := decide_eq_false (by omega)
    have h2 : decide ((64 : Int) < (n : Int)) = true := decide_eq_true (by omega)
    clear hl
    go_enter Try.func14, Try.ntmps14
    go_upto_region 1 with fail
    generalize w.alloc (.cells #[.int .i64 0, .int .i64 0, .int .i64 0, .int .i64 0, .int .i64 0, .int .i64 0, .int .i64 0] 29) = w0 at *
    go_wp2_with (refine wpList_store_sup tyP HS0.out rfl (.tmp 2) (.tmp 16) rfl rfl Sup.zero rfl ?_; intro w5 hs5 hg5)
    exact bodyPost_ret (results_sup2 tyP rfl _ rfl _ rfl hs5) rfl ⟨by rw [HE.out, HD.out]; rfl, HB0.out.grown hg5 HB0.out.size (fun k hk => by injection hk with hk; omega)⟩
  obtain rfl : n = 64 := by omega
  clear hge hle hn
  obtain ⟨b, o, rfl⟩ : ∃ b o, A = some ⟨b, o, none⟩ := by
    rcases hl.rd with h0 | ⟨b, o, e, _⟩
    · subst h0; have := hl.len; simp at this
    · exact ⟨b, o, e⟩
  have hc64 := hl.cap
  have HL := Lib.hid hl
  clear hl
  cases hw : whole l 60
  · have HE : Hid (decE l = 4) := Lib.hid (decE_sum HLEN.out hw)
    have HD : Hid (decS l = Sup.zero) := Lib.hid (decE_not (by rw [HE.out]; decide))
    have HWH := Lib.hid hw
    clear hw
    go_enter Try.func14, Try.ntmps14
    go_upto_region 1 with fail
    generalize w.alloc (.cells #[.int .i64 0, .int .i64 0, .int .i64 0, .int .i64 0, .int .i64 0, .int .i64 0, .int .i64 0] 29) = w0 at *
    go_wp2_with fail
    refine (open_lies (n := 60) (HL.out.up HB0.out) (by omega)).mono ?_
    rintro e w1 ⟨A1, c1, E1, rfl, hE1, _, hb1⟩
    have h3 : E1 = 4 := by rw [hE1, HWH.out]; rfl
    subst h3
    have HS1 := Lib.hid (HS0.out.below hb1)
    have HB1 := Lib.hid (HB0.out.trans (hb1.mono HB0.out.size))
    clear hE1 hb1 HS0 HB0
    generalize (if whole l 60 = true then 60 else 0) = m1
    go_wp2_with (refine wpList_store_sup tyP HS1.out rfl (.tmp 2) (.tmp 24) rfl rfl Sup.zero rfl ?_; intro w5 hs5 hg5)
    exact bodyPost_ret (results_sup2 tyP rfl _ rfl _ rfl hs5) rfl ⟨by rw [HE.out, HD.out]; rfl, HB1.out.grown hg5 HB1.out.size (fun k hk => by injection hk with hk; omega)⟩
  · have HWH := Lib.hid hw
    have HR := Lib.hid (decE_rest HLEN.out hw)
    clear hw
    go_enter Try.func14, Try.ntmps14
    go_upto_region 1 with fail
    generalize w.alloc (.cells #[.int .i64 0, .int .i64 0, .int .i64 0, .int .i64 0, .int .i64 0, .int .i64 0, .int .i64 0] 29) = w0 at *
    go_wp2_with fail
    refine (open_lies (n := 60) (HL.out.up HB0.out) (by omega)).mono ?_
    rintro e w1 ⟨A1, c1, E1, rfl, hE1, _, hb1⟩
    have h3 : E1 = 0 := by rw [hE1, HWH.out]; rfl
    subst h3
    have HS1 := Lib.hid (HS0.out.below hb1)
    have HB1 := Lib.hid (HB0.out.trans (hb1.mono HB0.out.size))
    clear hE1 hb1 HS0 HB0
    generalize (if whole l 60 = true then 60 else 0) = m1
    go_wp2_with fail
    refine (told_any b o c l HLEN hc64 w1 (HL.out.up HB1.out).rd).mono ?_
    rintro e w2 ⟨rfl, hb2⟩
    have hbx := below_new w2 (.cells #[.int .i64 0, .int .i64 0, .int .i64 0, .int .i64 0, .int .i64 0, .int .i64 0, .int .i64 0] 29)
    have HZ : Hid (SupAt (w2.alloc (.cells #[.int .i64 0, .int .i64 0, .int .i64 0, .int .i64 0, .int .i64 0, .int .i64 0, .int .i64 0] 29)) w2.heap.size 29 Sup.zero) := Lib.hid (heap_alloc_new w2 _)
    have HS2 := Lib.hid ((HS1.out.below hb2).below hbx)
    have HB2 := Lib.hid (HB1.out.trans ((below_two hb2 hbx).mono HB1.out.size))
    have hlt2 : w.heap.size < w2.heap.size := lt_of_block (HS1.out.below hb2)
    clear hb2 HS1 HB1 hbx
    go_wp2_with (first
      | (refine wpList_load_sup tyP HT3.out rfl (.tmp 6) rfl rfl ?_)
      | (refine wpList_store_sup tyP HZ.out rfl (.tmp 6) (.tmp 27) rfl rfl (tell l) rfl ?_; intro w3 hs3 hg3; have HT3 := Lib.hid hs3; have HS3 := Lib.hid (HS2.out.far hg3 (by omega)); have HB3 := Lib.hid (HB2.out.grown hg3 HB2.out.size (fun k hk => by injection hk with hk; omega)); clear hs3 hg3 HZ HS2 HB2))
    refine (enc_any w3 (tell l)).mono ?_
    rintro e w4 ⟨A2, n2, c2, rfl, hn2, ho2, hb4⟩
    have HT4 := Lib.hid (HT3.out.below hb4)
    have HS4 := Lib.hid (HS3.out.below hb4)
    have HB4 := Lib.hid (HB3.out.trans (hb4.mono HB3.out.size))
    clear hb4 HT3 HS3 HB3
    by_cases hm : (tell l).May
    · have hE0 : (tell l).encE = 0 := if_pos hm
      have hB0 : (tell l).encB = (tell l).sector := if_pos hm
      rw [hE0]
      rw [hB0] at ho2 hn2
      have hn64 : n2 = 64 := by rw [hn2, length_sector]
      clear hE0 hB0 hn2
      subst hn64
      have HO2 := Lib.hid ho2
      clear ho2
      by_cases hq : (tell l).sector = l
      · have HE : Hid (decE l = 0) := Lib.hid (by rw [HR.out, if_pos ⟨hm, hq⟩])
        have HD : Hid (decS l = tell l) := Lib.hid (decS_ok HE.out)
        have HBQ : Hid (((tell l).sector == l) = true) := Lib.hid (beq_iff_eq.2 hq)
        clear hm hq
        go_wp2_with fail
        refine (equal_any A2 c2 64 (tell l).sector (Lib.hid (length_sector _)) (some ⟨b, o, none⟩) c 64 l HLEN w4 HO2.out.read (HL.out.up HB4.out).rd).mono ?_
        rintro e w5 ⟨rfl, hw⟩
        subst hw
        rw [HBQ.out]
        go_wp2_with (first
          | (refine wpList_load_sup tyP HT4.out rfl (.tmp 6) rfl rfl ?_)
          | (refine wpList_store_sup tyP HS4.out rfl (.tmp 2) (.tmp 42) rfl rfl (tell l) rfl ?_; intro w6 hs6 hg6))
        exact bodyPost_ret (results_sup2 tyP rfl _ rfl _ rfl hs6) rfl ⟨by rw [HE.out, HD.out]; rfl, HB4.out.grown hg6 HB4.out.size (fun k hk => by injection hk with hk; omega)⟩
      · have HE : Hid (decE l = 3) := Lib.hid (by rw [HR.out, if_neg (fun h => hq h.2)])
        have HD : Hid (decS l = Sup.zero) := Lib.hid (decE_not (by rw [HE.out]; decide))
        have HBQ : Hid (((tell l).sector == l) = false) := Lib.hid (beq_eq_false_iff_ne.2 hq)
        clear hm hq
        go_wp2_with fail
        refine (equal_any A2 c2 64 (tell l).sector (Lib.hid (length_sector _)) (some ⟨b, o, none⟩) c 64 l HLEN w4 HO2.out.read (HL.out.up HB4.out).rd).mono ?_
        rintro e w5 ⟨rfl, hw⟩
        subst hw
        rw [HBQ.out]
        go_wp2_with (refine wpList_store_sup tyP HS4.out rfl (.tmp 2) (.tmp 41) rfl rfl Sup.zero rfl ?_; intro w6 hs6 hg6)
        exact bodyPost_ret (results_sup2 tyP rfl _ rfl _ rfl hs6) rfl ⟨by rw [HE.out, HD.out]; rfl, HB4.out.grown hg6 HB4.out.size (fun k hk => by injection hk with hk; omega)⟩
    · have hE0 : (tell l).encE = 1 := if_neg hm
      rw [hE0]
      have HE : Hid (decE l = 3) := Lib.hid (by rw [HR.out, if_neg (fun h => hm h.1)])
      have HD : Hid (decS l = Sup.zero) := Lib.hid (decE_not (by rw [HE.out]; decide))
      clear hE0 hm hn2 ho2
      go_wp2_with (refine wpList_store_sup tyP HS4.out rfl (.tmp 2) (.tmp 41) rfl rfl Sup.zero rfl ?_; intro w6 hs6 hg6)
      exact bodyPost_ret (results_sup2 tyP rfl _ rfl _ rfl hs6) rfl ⟨by rw [HE.out, HD.out]; rfl, HB4.out.grown hg6 HB4.out.size (fun k hk => by injection hk with hk; omega)⟩

end Go.Proofs.Ytojidejlohpeaaa
