/-
  What one has: the document's Of.
-/
import Derived.Test.YtogngghfdcpeaaaRe
namespace Go.Proofs.Ytogngghfdcpeaaa
set_option maxRecDepth 100000
set_option linter.unusedVariables false
set_option linter.unusedSimpArgs false
open Go.RowKit

theorem pd_at (w : World) (c x u d : Int) : RPr.At (w.alloc (.cells #[.int .i64 c, .int .i64 x, .int .i64 u, .int .i64 d] 74)) (some ⟨w.heap.size, 0, none⟩) [⟨c, x, u, d⟩] := Rk.At.new rp_okr w ⟨c, x, u, d⟩ 74
theorem ofL_take {P : List Pd} {x : Int} {i : Nat} {p : Pd} (h : P[i]? = some p) : ofL (P.take (i + 1)) x = if p.x = x then ofL (P.take i) x ++ [p] else ofL (P.take i) x := by
  unfold ofL
  rw [List.take_add_one, h, Option.toList_some, List.filter_append]
  by_cases hx : p.x = x <;> simp [hx]
theorem ofL_len (P : List Pd) (x : Int) : (ofL P x).length ≤ P.length := List.length_filter_le ..
theorem ofL_mem {P : List Pd} {x : Int} {p : Pd} (h : p ∈ ofL P x) : p ∈ P := (List.mem_filter.1 h).1

set_option maxHeartbeats 1000000 in
theorem refof13_any (A B : Option Addr) (n a m b : Nat) (t : Tb) (x : Int) (hm : m ≤ 1000) (w : World) (ht : TbAt w A n B m t) :
    Calls Try.prog 25 #[tbV A n a B m b, .int .i64 x] w fun e w' => ∃ v, e = .returned v ∧ RPr.Own w' (w.heap.size + 1) v (ofL t.P x) ∧ Below w.heap.size w w' ∧ w.heap.size + 1 ≤ w'.heap.size := by
  have HT := Lib.hid ht
  have HX := Lib.hid (Bk.new w (tbC A n a B m b) 25)
  have HB := Lib.hid (below_new w (.cells (tbC A n a B m b) 25))
  clear ht
  go_enter Try.func25, Try.ntmps25
  go_wp2_with fail
  go_loopw [5, 6] (fun v u wr => ∃ j : Nat, u = .int .i64 (j : Int) ∧ j ≤ m ∧ Hid (RPr.Own wr (w.heap.size + 1) v (ofL (t.P.take j) x)) ∧ Hid (Bk wr w.heap.size (tbC A n a B m b) 25) ∧ Hid (Below w.heap.size w wr) ∧ Hid (w.heap.size + 1 ≤ wr.heap.size)) (fun _ u _ => m - (intOf u).toNat)
  case atStart => exact ⟨0, rfl, Nat.zero_le _, Rk.Own.nil _ _ _, HX, HB, by show w.heap.size + 1 ≤ _; simp⟩
  case round =>
    obtain ⟨j, rfl, hj, HOj, HXj, HBj, HSj⟩ := hrel
    have x0 := HXj.out.t0
    have x1 := HXj.out.t1
    rcases Nat.lt_or_ge j m with hlt | hge
    · obtain ⟨b2, o, hA, hbl, hok, hget, h0, h1, h2, h3⟩ := HT.out.p hlt
      subst hA
      have HSJ := Lib.hid (ofL_take (x := x) hget)
      have HLN : Hid ((ofL (t.P.take j) x).length ≤ 1000) := by have h := ofL_len (t.P.take j) x; rw [List.length_take] at h; show _ ≤ _; omega
      generalize t.P.getD j pdD = p at *
      obtain ⟨pc, px, u, d⟩ := p
      simp only at HSJ h0 h1 h2 h3
      have c0 := (HBj.out.cell (p := ⟨b2, o + j * 4, none⟩) hbl).trans h0
      have c1 := (HBj.out.cell (p := ⟨b2, o + j * 4 + 1, none⟩) hbl).trans h1
      have c2 := (HBj.out.cell (p := ⟨b2, o + j * 4 + 2, none⟩) hbl).trans h2
      have c3 := (HBj.out.cell (p := ⟨b2, o + j * 4 + 3, none⟩) hbl).trans h3
      have hd4 : decide ((j : Int) < (m : Int)) = true := decide_eq_true (by omega)
      have hd5 : decide (j < m) = true := decide_eq_true hlt
      have hi1 : (j : Int) < (m : Int) := by omega
      generalize ofL (t.P.take j) x = acc at *
      clear h0 h1 h2 h3 hbl hok hget
      rcases Classical.em (px = x) with hk | hk
      · rw [if_pos hk] at HSJ
        have hq : (px == x) = true := by simpa using hk
        clear hk
        go_wp2_with (first
          | (at_builtin; refine Rk.wpList_append rp_okr rfl (.tmp 22) (.tmp 28) rfl (w.heap.size + 1) u5 acc [⟨pc, px, u, d⟩] rfl (HOj.out.below (below_new wr (.cells #[.int .i64 pc, .int .i64 px, .int .i64 u, .int .i64 d] 74))) _ 1 1 rfl (pd_at wr pc px u d) rfl (.inr ⟨_, _, rfl⟩) (by have := HLN.out; rw [List.length_singleton]; omega) (Nat.le_trans HSj.out (below_new wr _).size) ?_; intro v7 w7 hx1 hg1 ha1; have HO7 := Lib.hid hx1; have HG7 := Lib.hid hg1; clear hx1 hg1 ha1)
          | fail)
        have HT7 := Lib.hid (((Turn.ofBelow (S := fun q => u5.ownBlock = some q) (below_new wr (.cells #[.int .i64 pc, .int .i64 px, .int .i64 u, .int .i64 d] 74))).grown HG7.out (fun j e => .inl e)))
        exact ⟨⟨j + 1, rfl, hlt, by rw [HSJ.out]; exact HO7, Lib.hid (HXj.out.turn HT7.out (fun e => by have := (HOj.out.lt _ e).1; omega)), Lib.hid (HBj.out.trans (HT7.out.below (B := w.heap.size) (fun q e => by have := (HOj.out.lt _ e).1; omega) HBj.out.size)), Lib.hid (Nat.le_trans HSj.out HT7.out.size)⟩, by simp [intOf]; omega⟩
      · rw [if_neg hk] at HSJ
        have hq : (px == x) = false := by simpa using hk
        clear hk
        go_wp2_with fail
        exact ⟨⟨j + 1, rfl, hlt, by rw [HSJ.out]; exact HOj, HXj, HBj, HSj⟩, by simp [intOf]; omega⟩
    · obtain rfl : j = m := by omega
      have hd4 : decide ((j : Int) < (j : Int)) = false := decide_eq_false (by omega)
      have hd5 : decide (j < j) = false := decide_eq_false (by omega)
      have hlj : t.P.take j = t.P := List.take_of_length_le (by rw [HT.out.pl]; exact Nat.le_refl _)
      rw [hlj] at HOj
      clear hlj
      go_wp2_with fail
      go_ret
      exact ⟨_, rfl, HOj.out, HBj.out, HSj.out⟩
end Go.Proofs.Ytogngghfdcpeaaa
