/-
  Things done one behind the other: what the statements grow.
-/
import Derived.Test.YtpphhhalmccnbaaQn
namespace Go.Proofs.Ytpphhhalmccnbaa
set_option maxRecDepth 100000
set_option linter.unusedVariables false
set_option linter.unusedSimpArgs false
open Go.RowKit

def acD : Ac := ⟨0, 0, 0, 0, 0⟩
/-- things that are done lie there -/
def Acts (W : World) (A : Option Addr) (n : Nat) (q : Nat → Ac) : Prop :=
  n = 0 ∨ ∃ b o, A = some ⟨b, o, none⟩ ∧ b < W.heap.size ∧ ∀ i, i < n → okI (q i).b ∧ W.cell? ⟨b, o + i * 5, none⟩ = some (.int .i64 (q i).w) ∧ W.cell? ⟨b, o + i * 5 + 1, none⟩ = some (.int .i64 (q i).t) ∧ W.cell? ⟨b, o + i * 5 + 2, none⟩ = some (.int .i64 (q i).o) ∧ W.cell? ⟨b, o + i * 5 + 3, none⟩ = some (.int .i64 (q i).c) ∧ W.cell? ⟨b, o + i * 5 + 4, none⟩ = some (.int .i64 (q i).b)
theorem Acts.below {W V : World} {A : Option Addr} {n : Nat} {q : Nat → Ac} (h : Acts W A n q) (hb : Below W.heap.size W V) : Acts V A n q := by
  rcases h with h | ⟨b, o, e, hl, hc⟩
  · exact .inl h
  · refine .inr ⟨b, o, e, Nat.lt_of_lt_of_le hl hb.size, fun i hi => ?_⟩
    obtain ⟨h0, h1, h2, h3, h4, h5⟩ := hc i hi
    exact ⟨h0, (hb.cell (p := ⟨b, o + i * 5, none⟩) hl).trans h1, (hb.cell (p := ⟨b, o + i * 5 + 1, none⟩) hl).trans h2, (hb.cell (p := ⟨b, o + i * 5 + 2, none⟩) hl).trans h3, (hb.cell (p := ⟨b, o + i * 5 + 3, none⟩) hl).trans h4, (hb.cell (p := ⟨b, o + i * 5 + 4, none⟩) hl).trans h5⟩
theorem Acts.get {W : World} {A : Option Addr} {n : Nat} {q : Nat → Ac} (h : Acts W A n q) {i : Nat} (hi : i < n) : ∃ b o, A = some ⟨b, o, none⟩ ∧ b < W.heap.size ∧ okI (q i).b ∧ W.cell? ⟨b, o + i * 5, none⟩ = some (.int .i64 (q i).w) ∧ W.cell? ⟨b, o + i * 5 + 1, none⟩ = some (.int .i64 (q i).t) ∧ W.cell? ⟨b, o + i * 5 + 2, none⟩ = some (.int .i64 (q i).o) ∧ W.cell? ⟨b, o + i * 5 + 3, none⟩ = some (.int .i64 (q i).c) ∧ W.cell? ⟨b, o + i * 5 + 4, none⟩ = some (.int .i64 (q i).b) := by
  rcases h with h | ⟨b, o, e, hl, hc⟩
  · omega
  · exact ⟨b, o, e, hl, hc i hi⟩

/-- how 'grown' and the like answer: entries that things done make -/
def GrOut (w : World) (r : Ending) (w' : World) : Prop :=
  Below w.heap.size w w' ∧ ∃ A' n' a' l P, r = .returned (liV A' n' a') ∧ EsAt REo w' A' n' l ∧ GroO l P ∧ (l = [] ∨ Sp A') ∧ n' ≤ a'
theorem gro_mod {l : List En} {P : List Pe} (h : GroO l P) : l.length ≤ 256 := h.sa.len

set_option maxHeartbeats 4000000 in
theorem grown_any (A : Option Addr) (len cap : Nat) (q : Nat → Ac) (hlen : len ≤ 200) (w : World) (hacts : Acts w A len q) :
    Calls Try.prog 26 #[.slice A len cap] w (GrOut w) := by
  have HAC := Lib.hid hacts
  obtain ⟨w1, hw1⟩ : ∃ w1, w1 = (w.alloc (.cells (liC none 0 0) 32)).alloc (.cells (liC none 0 0) 32) := ⟨_, rfl⟩
  have HB := Lib.hid (show Below w.heap.size w w1 from by rw [hw1]; exact below_two (below_new _ _) (below_new _ _))
  have HZ := Lib.hid (show Bk w1 w.heap.size (liC none 0 0) 32 from by rw [hw1]; exact (Bk.new w _ _).al _)
  have HV := Lib.hid (show Bk w1 (w.heap.size + 1) (liC none 0 0) 32 from by
    have h := Bk.new (w.alloc (.cells (liC none 0 0) 32)) (liC none 0 0) 32
    rw [size_al] at h
    rw [hw1]; exact h)
  clear hacts
  go_enter Try.func26, Try.ntmps26
  go_upto_region 2 with fail
  rw [← hw1]
  clear hw1
  go_wp2_with fail
  go_loopw [4] (fun u wr => ∃ (i : Nat) (B : Option Addr) (n a : Nat) (l : List En) (P : List Pe), u = .int .i64 (i : Int) ∧ i ≤ len ∧ Hid (Bk wr w.heap.size (liC none 0 0) 32) ∧ Hid (Bk wr (w.heap.size + 1) (liC B n a) 32) ∧ Hid (EsAt REo wr B n l) ∧ Hid (GroO l P) ∧ Hid (l = [] ∨ Sp B) ∧ Hid (n ≤ a) ∧ Hid (Below w.heap.size w wr)) (fun u _ => len - (intOf u).toNat)
  case atStart => exact ⟨0, none, 0, 0, [], [], rfl, Nat.zero_le _, HZ, HV, Lib.hid ⟨rfl, by simp, .inl rfl⟩, Lib.hid groO_nil, Lib.hid (.inl rfl), Lib.hid (Nat.le_refl _), HB⟩
  case round =>
    obtain ⟨i, B, n, a, l, P, rfl, hi, HZi, HVi, HEi, HGi, HSi, HNi, HBi⟩ := hrel
    clear HZ HV HB
    have hn256 : n ≤ 256 := by have := gro_mod HGi.out; have := HEi.out.len; omega
    rcases Nat.lt_or_ge i len with hlt | hge
    · obtain ⟨b2, o, hA, hbl, hok, h0, h1, h2, h3, h4⟩ := HAC.out.get hlt
      subst hA
      have c0 := (HBi.out.cell (p := ⟨b2, o + i * 5, none⟩) hbl).trans h0
      have c1 := (HBi.out.cell (p := ⟨b2, o + i * 5 + 1, none⟩) hbl).trans h1
      have c2 := (HBi.out.cell (p := ⟨b2, o + i * 5 + 2, none⟩) hbl).trans h2
      have c3 := (HBi.out.cell (p := ⟨b2, o + i * 5 + 3, none⟩) hbl).trans h3
      have c4 := (HBi.out.cell (p := ⟨b2, o + i * 5 + 4, none⟩) hbl).trans h4
      have HOB := Lib.hid hok
      generalize q i = e at *
      obtain ⟨ew, et, eo, ec, eb⟩ := e
      simp only at c0 c1 c2 c3 c4 HOB
      have hd4 : decide ((i : Int) < (len : Int)) = true := decide_eq_true (by omega)
      have hd5 : decide (i < len) = true := decide_eq_true hlt
      have hi1 : (i : Int) < (len : Int) := by omega
      have hbw := below_new wr (.cells #[.int .i64 ew, .int .i64 et, .int .i64 eo, .int .i64 ec, .int .i64 eb] 100)
      have HKk := Lib.hid (Bk.new wr #[.int .i64 ew, .int .i64 et, .int .i64 eo, .int .i64 ec, .int .i64 eb] 100)
      have HZk := Lib.hid (HZi.out.below hbw)
      have HVk := Lib.hid (HVi.out.below hbw)
      have HEk := Lib.hid (HEi.out.below hbw)
      have HBk := Lib.hid (HBi.out.trans (hbw.mono HBi.out.size))
      clear h0 h1 h2 h3 h4 hbl hok hbw
      go_upto_region 6 with fail
      clear c0 c1 c2 c3 c4 HZi HVi HEi HBi
      generalize wr.heap.size = gk at *
      generalize wr.alloc (.cells #[.int .i64 ew, .int .i64 et, .int .i64 eo, .int .i64 ec, .int .i64 eb] 100) = wk at *
      have k0 := HKk.out.c 0 _ rfl
      have k1 := HKk.out.c 1 _ rfl
      have k2 := HKk.out.c 2 _ rfl
      have k3 := HKk.out.c 3 _ rfl
      have k4 := HKk.out.c 4 _ rfl
      have x0 := HVk.out.c 0 _ rfl
      obtain ⟨y1, hy1, e1⟩ := low et 7 3 (by decide) (by decide)
      obtain ⟨y2, hy2, e2⟩ := low eo 7 3 (by decide) (by decide)
      obtain ⟨y3, hy3, e3⟩ := low ec 3 2 (by decide) (by decide)
      have HY1 := Lib.hid hy1
      have HY2 := Lib.hid hy2
      have HY3 := Lib.hid hy3
      clear hy1 hy2 hy3
      by_cases hw4 : ew = 4
      · have hq : (ew == 4) = true := by simpa using hw4
        have hbn := below_new wk (.cells #[.int .i64 (y1 : Int), .int .i64 (y2 : Int)] 3)
        have HUN := Lib.hid (undo_any B n a l P (some ⟨wk.heap.size, 0, none⟩) 2 2 [(y1 : Int), (y2 : Int)] HGi.out.sa.op (by omega) (by omega) HSi.out _ (HEk.out.below hbn) (Ls.new wk [(y1 : Int), (y2 : Int)] (by have := HY1.out; have := HY2.out; unfold okI; simp; omega)))
        have HZn := Lib.hid (HZk.out.below hbn)
        have HVn := Lib.hid (HVk.out.below hbn)
        have HBn := Lib.hid (HBk.out.trans (hbn.mono HBk.out.size))
        clear hw4 hbn
        go_wp2_with fail
        refine HUN.out.mono ?_
        rintro r w5 ⟨hb5, A5, n5, a5, rfl, he5, hs5, hn5⟩
        have HZ5 := Lib.hid (HZn.out.below hb5)
        have HV5 := Lib.hid (HVn.out.below hb5)
        have HB5 := Lib.hid (HBn.out.trans (hb5.mono HBn.out.size))
        have HE5 := Lib.hid he5
        have HS5 := Lib.hid hs5
        have HN5 := Lib.hid hn5
        have HG5 := Lib.hid (HGi.out.undo [(y1 : Int), (y2 : Int)])
        clear hb5 he5 hs5 hn5 HUN x0 k0 k1 k2 k3 k4
        have x0 := HV5.out.c 0 _ rfl
        have f0 := HV5.out.fr 0
        go_wp2_with fail
        exact ⟨⟨i + 1, A5, n5, a5, _, _, rfl, hlt, Lib.hid (HZ5.out.oth (by omega) _ _), Lib.hid (HV5.out.put A5 n5 a5), Lib.hid (HE5.out.put HV5.out (li_no _ _ _) _), HG5, HS5, HN5, Lib.hid (HB5.out.setCell (by show _ ≤ w.heap.size + 1; omega) _)⟩, by simp [intOf] <;> omega⟩
      · have hq : (ew == 4) = false := by simpa using hw4
        have HDO := Lib.hid (do_any B n a l (y1 : Int) (y3 : Int) eb (by have := HY1.out; unfold okI; omega) (by have := HY3.out; unfold okI; omega) HOB.out (by omega) HSi.out wk HEk.out)
        obtain ⟨dr, hdr⟩ : ∃ dr, dr = doE l (newE (y1 : Int) (y3 : Int) eb) := ⟨_, rfl⟩
        rw [← hdr] at HDO
        have HDR := Lib.hid hdr
        obtain ⟨dl, de⟩ := dr
        clear hw4 hdr
        go_wp2_with fail
        refine HDO.out.mono ?_
        rintro r w5 ⟨hb5, A5, n5, a5, rfl, he5, hs5, hn5⟩
        have hb6 := below_new w5 (.cells (liC A5 n5 a5) 32)
        have hb56 := hb5.trans (hb6.mono hb5.size)
        have HZ6 := Lib.hid (HZk.out.below hb56)
        have HV6 := Lib.hid (HVk.out.below hb56)
        have HEo6 := Lib.hid (HEk.out.below hb56)
        have HB6 := Lib.hid (HBk.out.trans (hb56.mono HBk.out.size))
        have HE6 := Lib.hid (he5.below hb6)
        have HK6 := Lib.hid (Bk.new w5 (liC A5 n5 a5) 32)
        have HS6 := Lib.hid hs5
        have HN6 := Lib.hid hn5
        clear hb5 he5 hs5 hn5 hb6 hb56 HDO x0 k0 k1 k2 k3 k4
        go_upto_region 9 with fail
        generalize w5.heap.size = g6 at *
        generalize w5.alloc (.cells #[.slice A5 n5 a5] 32) = w6 at *
        have x0 := HV6.out.c 0 _ rfl
        have f0 := HV6.out.fr 0
        have z0 := HK6.out.c 0 _ rfl
        by_cases hde : de = 0
        · have hq2 : (de == 0) = true := by simpa using hde
          have HG6 := Lib.hid (show GroO dl (P ++ [(l.length, newE (y1 : Int) (y3 : Int) eb)]) from by
            obtain ⟨h1, h2, h3⟩ := HGi.out.sa.done (e := newE (y1 : Int) (y3 : Int) eb) rfl (by rw [← HDR.out]; exact hde)
            rw [← HDR.out] at h1
            have h1 : dl = l ++ [newE (y1 : Int) (y3 : Int) eb] := h1
            rw [h1]
            have := HY1.out; have := HY3.out
            exact HGi.out.snoc h3 (newE_ok (by omega) (by omega) HOB.out) (by unfold newE; simp only; omega) (by unfold newE; simp only; omega))
          clear hde
          go_wp2_with fail
          exact ⟨⟨i + 1, A5, n5, a5, _, _, rfl, hlt, Lib.hid (HZ6.out.oth (by omega) _ _), Lib.hid (HV6.out.put A5 n5 a5), Lib.hid (HE6.out.put HV6.out (li_no _ _ _) _), HG6, HS6, HN6, Lib.hid (HB6.out.setCell (by show _ ≤ w.heap.size + 1; omega) _)⟩, by simp [intOf] <;> omega⟩
        · have hq2 : (de == 0) = false := by simpa using hde
          clear hde
          go_wp2_with fail
          exact ⟨⟨i + 1, B, n, a, l, P, rfl, hlt, HZ6, HV6, HEo6, HGi, HSi, HNi, HB6⟩, by simp [intOf] <;> omega⟩
    · obtain rfl : i = len := by omega
      have hd4 : decide ((i : Int) < (i : Int)) = false := decide_eq_false (by omega)
      have hd5 : decide (i < i) = false := decide_eq_false (by omega)
      have x0 := HVi.out.c 0 _ rfl
      have z0 := HZi.out.c 0 _ rfl
      have f0 := HZi.out.fr 0
      go_wp2_with fail
      refine bodyPost_ret (v := liV B n a) (by rw [results_cell_one rfl]; go_simp; first | done | exact ⟨rfl, rfl⟩) rfl ⟨HBi.out.setCell (show w.heap.size ≤ (⟨w.heap.size, 0, none⟩ : Addr).block from Nat.le_refl _) _, B, n, a, l, P, rfl, HEi.out.put HZi.out (li_no _ _ _) _, HGi.out, HSi.out, HNi.out⟩
end Go.Proofs.Ytpphhhalmccnbaa
