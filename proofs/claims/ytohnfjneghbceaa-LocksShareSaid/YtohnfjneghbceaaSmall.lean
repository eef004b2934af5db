/-
  The small calls: whether a number is among so many, the greater mode, whether a lock may be, whom a mode excludes.
-/
import Derived.Test.YtohnfjneghbceaaPlace
import Derived.BigQuiet
namespace Go.Proofs.Ytohnfjneghbceaa
set_option maxRecDepth 100000
set_option linter.unusedVariables false
open Go.RowKit Go.Shelf Go.Sort

theorem among_yes (a b : Int) (h : 0 ≤ a ∧ a < b) (w : World) : Calls Try.prog 56 #[.int .i64 a, .int .i64 b] w fun e w' => e = .returned (.bool true) ∧ w' = w := by
  have h1 : decide (a < b) = true := decide_eq_true h.2
  have h2 : decide (0 ≤ a) = true := decide_eq_true h.1
  have h3 : decide (a ≥ 0) = true := decide_eq_true h.1
  go_enter Try.func56, Try.ntmps56
  go_wp2
  go_ret
  exact ⟨rfl, rfl⟩
theorem among_low (a b : Int) (h : a < 0) (w : World) : Calls Try.prog 56 #[.int .i64 a, .int .i64 b] w fun e w' => e = .returned (.bool false) ∧ w' = w := by
  have h3 : decide (a ≥ 0) = false := decide_eq_false (by omega)
  have h2 : decide (0 ≤ a) = false := decide_eq_false (by omega)
  go_enter Try.func56, Try.ntmps56
  go_wp2
  go_ret
  exact ⟨rfl, rfl⟩

theorem greater_any (y : Lk) (w : World) : Calls Try.prog 48 #[.agg #[.int .i64 y.b, .int .i64 y.x, .int .i64 y.h, .int .i64 y.k]] w fun e w' => e = .returned (.int .i64 y.s) ∧ Gr w w' := by
  have hm : max y.h y.k = y.s := rfl
  have HG := Lib.hid (Gr.alloc w (.cells #[.int .i64 y.b, .int .i64 y.x, .int .i64 y.h, .int .i64 y.k] 53))
  go_enter Try.func48, Try.ntmps48
  go_wp2
  go_ret
  exact ⟨rfl, HG.out⟩

theorem excl_read (s : Int) (w : World) : Calls Try.prog 57 #[.int .i64 1, .int .i64 s] w fun e w' => e = .returned (.bool (s == 2)) ∧ w' = w := by
  go_enter Try.func57, Try.ntmps57
  go_wp2
  go_ret
  exact ⟨rfl, rfl⟩
theorem excl_write (s : Int) (w : World) : Calls Try.prog 57 #[.int .i64 2, .int .i64 s] w fun e w' => e = .returned (.bool (!(s == 0))) ∧ w' = w := by
  go_enter Try.func57, Try.ntmps57
  go_wp2
  go_ret
  exact ⟨rfl, rfl⟩

theorem may_any (y : Lk) (hy : May y) (w : World) : Calls Try.prog 46 #[.agg #[.int .i64 y.b, .int .i64 y.x, .int .i64 y.h, .int .i64 y.k]] w fun e w' => e = .returned (.bool true) ∧ Gr w w' := by
  have hs : (y.s == 0) = false := by have := hy.s; simp; omega
  have hs2 : (y.s != 0) = true := by have := hy.s; simp; omega
  have h1 : 0 ≤ y.b ∧ y.b < 256 := by have := hy.b; omega
  have h2 : 0 ≤ y.x ∧ y.x < 64 := by have := hy.x; omega
  have h3 : 0 ≤ y.h ∧ y.h < 3 := by have := hy.h; omega
  have h4 : 0 ≤ y.k ∧ y.k < 3 := by have := hy.k; omega
  have H1 := Lib.hid h1
  have H2 := Lib.hid h2
  have H3 := Lib.hid h3
  have H4 := Lib.hid h4
  have HG := Lib.hid (Gr.alloc w (.cells #[.int .i64 y.b, .int .i64 y.x, .int .i64 y.h, .int .i64 y.k] 53))
  clear hy h1 h2 h3 h4
  go_enter Try.func46, Try.ntmps46
  go_wp2_with (first | (go_at_call 56; refine (among_yes _ _ (by first | exact H1.out | exact H2.out | exact H3.out | exact H4.out) _).mono ?_; rintro e w' ⟨rfl, hw'⟩; subst hw') | (go_at_call 48; refine (greater_any y _).mono ?_; rintro e w' ⟨rfl, hgw⟩; have HGW := Lib.hid hgw; clear hgw) | fail)
  go_ret
  exact ⟨rfl, HG.out.trans HGW.out⟩

set_option maxHeartbeats 1000000 in
theorem of_any (A : Option Addr) (L : List Lk) (n k : Nat) (x : Int) (hN : L.length = n) (hl : LG L) (w : World) (hL : LkAt w A L) :
    Calls Try.prog 28 #[.agg #[.slice A n k], .int .i64 x] w fun e w' => ∃ v, e = .returned v ∧ OwnLk w' w.heap.size v (ofL L x) ∧ Below w.heap.size w w' := by
  have HN := Lib.hid hN
  have HL := Lib.hid hL
  have HLEN := Lib.hid (show n ≤ 16384 by rw [← hN]; exact hl.len)
  have HB0 := Lib.hid (below_new w (.cells #[.slice A n k] 49))
  have hn16 := HLEN.out
  clear hN hL hl
  go_enter Try.func28, Try.ntmps28
  go_wp2_with fail
  go_loopw [5, 11] (fun lv iv wr => ∃ j : Nat, iv = .int .i64 (j : Int) ∧ j ≤ n ∧ Hid (OwnLk wr w.heap.size lv (ofL (L.take j) x)) ∧ Hid (Below w.heap.size w wr)) (fun _ iv _ => n - (intOf iv).toNat)
  case atStart => exact ⟨0, rfl, Nat.zero_le _, OwnLk.nil _ _, HB0.out⟩
  case round =>
    obtain ⟨j, rfl, hj, HO, HB⟩ := hrel
    clear HB0
    rcases Nat.lt_or_ge j n with hlt | hge
    · obtain ⟨y, hy⟩ : ∃ y, L[j]? = some y := ⟨L[j]'(by rw [HN.out]; exact hlt), List.getElem?_eq_getElem (by rw [HN.out]; exact hlt)⟩
      obtain ⟨b, o, rfl, hb, hc⟩ := (HL.out.below HB.out).get hy
      have hc0 := hc.c0
      have hc1 := hc.c1
      have hc2 := hc.c2
      have hc3 := hc.c3
      have htk : ofL (L.take (j + 1)) x = ofL (L.take j) x ++ (if y.x = x then [y] else []) := by
        unfold ofL
        rw [List.take_add_one, hy, List.filter_append]
        congr 1
        by_cases e : y.x = x
        · simp [e]
        · simp [e]
      have hll : (ofL (L.take j) x).length ≤ j := by unfold ofL; exact Nat.le_trans (List.length_filter_le _ _) (by simp; omega)
      have HTK := Lib.hid htk
      have HLL := Lib.hid hll
      clear hc htk hll hy
      obtain ⟨wz, hwz⟩ : ∃ wz, wz = wr := ⟨_, rfl⟩
      subst hwz
      by_cases e : y.x = x
      · have hbe : (y.x == x) = true := by simpa using e
        have HE := Lib.hid e
        clear e
        go_wp2_with (first | (at_builtin; refine wpList_append_lks rfl _ _ rfl w.heap.size _ _ [y] rfl ((HO.out.below (below_new _ _)).below (below_new _ _)) _ 1 1 rfl (LkAt.new1 _ _ y _) rfl (.inr ⟨_, _, rfl⟩) (by have := HLL.out; have := HLEN.out; simp; omega) (by have := HB.out.size; simp; omega) ?_; intro v5 w5 hown5 hg5 hat5; have HO5 := Lib.hid hown5; have HG5 := Lib.hid hg5; clear hown5 hg5 hat5) | fail)
        have hb5 := (below_new wz (.cells #[.int .i64 y.b, .int .i64 y.x, .int .i64 y.h, .int .i64 y.k] 53))
        have hB2 := Lib.hid ((((HB.out.trans (hb5.mono HB.out.size)).alloc (Nat.le_trans HB.out.size hb5.size) (.cells #[.int .i64 y.b, .int .i64 y.x, .int .i64 y.h, .int .i64 y.k] 53))).grown HG5.out (by have := HB.out.size; simp; omega) (fun q eq => (HO.out.lt q eq).1))
        clear hb5
        go_roundw
        case rel => exact ⟨j + 1, by simp, by omega, by rw [HTK.out, if_pos HE.out]; exact HO5.out, hB2.out⟩
        case measure => simp [intOf]; omega
      · have hbe : (y.x == x) = false := by simpa using e
        have HE := Lib.hid e
        clear e
        go_wp2
        have hB2 := Lib.hid (HB.out.alloc HB.out.size (.cells #[.int .i64 y.b, .int .i64 y.x, .int .i64 y.h, .int .i64 y.k] 53))
        have HO2 := Lib.hid (HO.out.below (below_new wz (.cells #[.int .i64 y.b, .int .i64 y.x, .int .i64 y.h, .int .i64 y.k] 53)))
        go_roundw
        case rel => exact ⟨j + 1, by simp, by omega, by rw [HTK.out, if_neg HE.out, List.append_nil]; exact HO2.out, hB2.out⟩
        case measure => simp [intOf]; omega
    · obtain rfl : j = n := by omega
      go_wp2
      go_ret
      have := HO.out
      rw [List.take_of_length_le (by rw [HN.out]; omega)] at this
      exact ⟨_, rfl, this, HB.out⟩
end Go.Proofs.Ytohnfjneghbceaa
