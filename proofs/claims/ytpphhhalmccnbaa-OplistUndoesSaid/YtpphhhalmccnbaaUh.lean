/-
  The document's Net.
-/
import Derived.Test.YtpphhhalmccnbaaUe
import Derived.Test.YtpphhhalmccnbaaRs
namespace Go.Proofs.Ytpphhhalmccnbaa
set_option maxRecDepth 100000
set_option linter.unusedVariables false
set_option linter.unusedSimpArgs false
open Go.RowKit

theorem netE_succ {l : List En} {k : Int} {i : Nat} {e : En} (hi : l[i]? = some e) : netE (l.take (i + 1)) k = netE (l.take i) k ++ (if e.c = k then [e.b] else []) := by
  rw [List.take_add_one, hi, Option.toList_some, netE_append]
  congr 1
  unfold netE
  by_cases h : e.c = k <;> simp [h]
set_option maxHeartbeats 4000000 in
theorem refnet_any (A : Option Addr) (n a : Nat) (l : List En) (k : Int) (hn : n ≤ 1000) (w : World) (hl : EsAt REr w A n l) :
    Calls Try.prog 17 #[liV A n a, .int .i64 k] w fun r w' => r = .returned (.tuple #[.int .i64 (sumV (netE l k)), .int .i64 (sumE (netE l k))]) ∧ Below w.heap.size w w' := by
  have HL := Lib.hid hl
  have HX := Lib.hid (Bk.new w (liC A n a) 24)
  have HB := Lib.hid (below_new w (.cells (liC A n a) 24))
  have HS := Lib.hid (show w.heap.size + 1 ≤ (w.alloc (.cells (liC A n a) 24)).heap.size from by simp)
  have hrs := fun A8 n8 c8 V (h : Ls V A8 n8 (netE l k)) => refsum_any A8 n8 c8 (netE l k) V h
  generalize sumV (netE l k) = sv at *
  generalize sumE (netE l k) = se at *
  clear hl
  have x0 := HX.out.c 0 _ rfl
  go_enter Try.func17, Try.ntmps17
  go_wp2_with fail
  clear x0
  go_loopw [6, 7] (fun v u wr => ∃ i : Nat, u = .int .i64 (i : Int) ∧ i ≤ n ∧ Hid (RI.Own wr (w.heap.size + 1) v (netE (l.take i) k)) ∧ Hid (Bk wr w.heap.size (liC A n a) 24) ∧ Hid (Below w.heap.size w wr) ∧ Hid (w.heap.size + 1 ≤ wr.heap.size)) (fun _ u _ => n - (intOf u).toNat)
  case atStart => exact ⟨0, rfl, Nat.zero_le _, Rk.Own.nil _ _ _, HX, HB, HS⟩
  case round =>
    obtain ⟨i, rfl, hi, HVi, HXi, HBi, HSi⟩ := hrel
    have x0 := HXi.out.c 0 _ rfl
    rcases Nat.lt_or_ge i n with hlt | hge
    · obtain ⟨b2, o, hA, hbl, hok, hget, h0, h1, h2, h3⟩ := HL.out.er hlt
      subst hA
      have c1 := (HBi.out.cell (p := ⟨b2, o + i * 4 + 1, none⟩) hbl).trans h1
      have c2 := (HBi.out.cell (p := ⟨b2, o + i * 4 + 2, none⟩) hbl).trans h2
      have HUP := Lib.hid (netE_succ (k := k) hget)
      have HLN := Lib.hid (show (netE (l.take i) k).length ≤ 1000 from by have h := netE_len (l.take i) k; rw [List.length_take] at h; omega)
      generalize netE (l.take i) k = acc at *
      generalize l.getD i enD = e at *
      obtain ⟨t, c, b, u⟩ := e
      simp only at c1 c2 HUP
      have hd4 : decide ((i : Int) < (n : Int)) = true := decide_eq_true (by omega)
      have hd5 : decide (i < n) = true := decide_eq_true hlt
      have hi1 : (i : Int) < (n : Int) := by omega
      clear h0 h1 h2 h3 hbl hok hget
      by_cases hc : c = k
      · have hq : (c == k) = true := by simpa using hc
        rw [if_pos hc] at HUP
        clear hc
        go_wp2_with (first
          | (at_builtin; refine Rk.wpList_append ri_ok rfl (.tmp 23) (.tmp 30) rfl (w.heap.size + 1) u6 acc [b] rfl (HVi.out.below (below_new wr (.cells #[.int .i64 b] 3))) _ 1 1 rfl (one_at wr b) rfl (.inr ⟨_, _, rfl⟩) (by have := HLN.out; rw [List.length_singleton]; omega) (Nat.le_trans HSi.out (below_new wr _).size) ?_; intro v7 w7 hx1 hg1 ha1; have HO7 := Lib.hid hx1; have HG7 := Lib.hid hg1; clear hx1 hg1 ha1)
          | fail)
        have HVL := Lib.hid (fun q (e : u6.ownBlock = some q) => (HVi.out.lt q e).1)
        exact ⟨⟨i + 1, rfl, hlt, by rw [HUP.out]; exact HO7, Lib.hid ((HXi.out.al _).far HG7.out (fun e => by have := HVL.out _ e.symm; omega)), Lib.hid (Below.grown (HBi.out.trans ((below_new wr _).mono HBi.out.size)) HG7.out (Nat.le_trans HBi.out.size (below_new wr _).size) (fun q e => by have h := HVL.out q e; omega)), Lib.hid (Nat.le_trans HSi.out (Nat.le_trans (below_new wr _).size HG7.out.size))⟩, by simp [intOf] <;> omega⟩
      · have hq : (c == k) = false := by simpa using hc
        rw [if_neg hc, List.append_nil] at HUP
        clear hc
        go_wp2_with fail
        exact ⟨⟨i + 1, rfl, hlt, by rw [HUP.out]; exact HVi, HXi, HBi, HSi⟩, by simp [intOf] <;> omega⟩
    · obtain rfl : i = n := by omega
      have hd4 : decide ((i : Int) < (i : Int)) = false := decide_eq_false (by omega)
      have hd5 : decide (i < i) = false := decide_eq_false (by omega)
      have hlt : l.take i = l := List.take_of_length_le (by have := HL.out.len; omega)
      rw [hlt] at HVi
      obtain ⟨A8, n8, c8, rfl, hn8, hls⟩ := own_ls HVi.out (netE_ok HL.out.ok k)
      have HLS := Lib.hid hls
      clear hls hn8
      go_wp2_with fail
      refine (hrs A8 n8 c8 wr HLS.out).mono ?_
      rintro r w4 ⟨rfl, hb⟩
      have HB4 := Lib.hid (HBi.out.trans (hb.mono HBi.out.size))
      clear hb
      go_wp2_with fail
      go_ret2
      exact ⟨rfl, HB4.out⟩
end Go.Proofs.Ytpphhhalmccnbaa
