/-
  The law's own: the document's entries as the program's.
-/
import Derived.Test.YtpphhhalmccnbaaUe
namespace Go.Proofs.Ytpphhhalmccnbaa
set_option maxRecDepth 100000
set_option linter.unusedVariables false
set_option linter.unusedSimpArgs false
open Go.RowKit

theorem EsAt.sp {R : Rk En} {W : World} {A : Option Addr} {n : Nat} {l : List En} (h : EsAt R W A n l) : l = [] ∨ Sp A := by
  rcases h.at' with h | ⟨b, o, e, _⟩
  · exact .inl h
  · exact .inr (.inr ⟨b, o, e⟩)
theorem en_ato (w : World) (e : En) : REo.At (w.alloc (.cells (etC e) 62)) (some ⟨w.heap.size, 0, none⟩) [e] := Rk.At.new re_oko w e 62

set_option maxHeartbeats 4000000 in
theorem ours_any (A : Option Addr) (n a : Nat) (l : List En) (hn : n ≤ 1000) (w : World) (hl : EsAt REr w A n l) :
    Calls Try.prog 9 #[liV A n a] w fun r w' => Below w.heap.size w w' ∧ ∃ A' c', r = .returned (liV A' n c') ∧ EsAt REo w' A' n l ∧ REo.Own w' w.heap.size (.slice A' n c') l := by
  have HL := Lib.hid hl
  have HX := Lib.hid (((Bk.new w (liC A n a) 24).al (.cells (liC none 0 0) 32)).al (.cells (liC none 0 0) 32))
  have HZ := Bk.new (w.alloc (.cells (liC A n a) 24)) (liC none 0 0) 32
  rw [size_al] at HZ
  have HZ := Lib.hid (HZ.al (.cells (liC none 0 0) 32))
  have HGo := Bk.new ((w.alloc (.cells (liC A n a) 24)).alloc (.cells (liC none 0 0) 32)) (liC none 0 0) 32
  rw [size_al, size_al] at HGo
  have HGo := Lib.hid HGo
  have HB := Lib.hid (below_two (below_two (below_new w (.cells (liC A n a) 24)) (below_new _ (.cells (liC none 0 0) 32))) (below_new _ (.cells (liC none 0 0) 32)))
  clear hl
  go_enter Try.func9, Try.ntmps9
  go_upto_region 2 with fail
  obtain ⟨go, hgo⟩ : ∃ go, go = w.heap.size + 1 + 1 := ⟨_, rfl⟩
  rw [← hgo] at HGo
  have HGZ := Lib.hid (show w.heap.size + 1 < go from by omega)
  try rw [show w.heap.size + 2 = go from by omega]
  try rw [← hgo]
  clear hgo
  generalize ((w.alloc (.cells (liC A n a) 24)).alloc (.cells (liC none 0 0) 32)).alloc (.cells (liC none 0 0) 32) = w4 at *
  have HGL := Lib.hid HGo.out.lt
  go_wp2_with fail
  go_loopw [4, 5] (fun u _ wr => ∃ (j : Nat) (cv : Value), u = .int .i64 (j : Int) ∧ j ≤ n ∧ Hid (REo.Own wr (go + 1) cv (l.take j)) ∧ Hid (Bk wr go #[cv] 32) ∧ Hid (Bk wr w.heap.size (liC A n a) 24) ∧ Hid (Bk wr (w.heap.size + 1) (liC none 0 0) 32) ∧ Hid (Below w.heap.size w wr) ∧ Hid (go + 1 ≤ wr.heap.size)) (fun u _ _ => n - (intOf u).toNat)
  case atStart => exact ⟨0, _, rfl, Nat.zero_le _, Rk.Own.nil _ _ _, HGo, HX, HZ, HB, HGL⟩
  case round =>
    obtain ⟨j, cv, rfl, hj, HOj, HKj, HXj, HZj, HBj, HSj⟩ := hrel
    have x0 := HXj.out.c 0 _ rfl
    rcases Nat.lt_or_ge j n with hlt | hge
    · obtain ⟨b2, o2, hA, hbl, hok, hget, h0, h1, h2, h3⟩ := HL.out.er hlt
      subst hA
      have c0 := (HBj.out.cell (p := ⟨b2, o2 + j * 4, none⟩) hbl).trans h0
      have c1 := (HBj.out.cell (p := ⟨b2, o2 + j * 4 + 1, none⟩) hbl).trans h1
      have c2 := (HBj.out.cell (p := ⟨b2, o2 + j * 4 + 2, none⟩) hbl).trans h2
      have c3 := (HBj.out.cell (p := ⟨b2, o2 + j * 4 + 3, none⟩) hbl).trans h3
      have HTK := Lib.hid (show l.take (j + 1) = l.take j ++ [l.getD j enD] from by rw [List.take_add_one, hget]; rfl)
      have HLN := Lib.hid (show (l.take j).length ≤ 1000 from by rw [List.length_take]; omega)
      generalize l.getD j enD = e at *
      obtain ⟨t, c, b, u⟩ := e
      simp only at c0 c1 c2 c3
      generalize l.take j = acc at *
      have hd4 : decide ((j : Int) < (n : Int)) = true := decide_eq_true (by omega)
      have hd5 : decide (j < n) = true := decide_eq_true hlt
      have hi1 : (j : Int) < (n : Int) := by omega
      clear h0 h1 h2 h3 hbl hget hok
      go_upto_region 6 with fail
      have hbw := below_new wr (.cells (etC ⟨t, c, b, u⟩) 73)
      have HEk := Lib.hid (Bk.new wr (etC ⟨t, c, b, u⟩) 73)
      have HOk := Lib.hid (HOj.out.below hbw)
      have HKk := Lib.hid (HKj.out.below hbw)
      have HXk := Lib.hid (HXj.out.below hbw)
      have HZk := Lib.hid (HZj.out.below hbw)
      have HBk := Lib.hid (HBj.out.trans (hbw.mono HBj.out.size))
      have HSk := Lib.hid (Nat.le_trans HSj.out hbw.size)
      clear hbw c0 c1 c2 c3 x0 HOj HKj HXj HZj HBj HSj
      generalize wr.heap.size = gk at *
      generalize wr.alloc (.cells #[.int .i64 t, .int .i64 c, .int .i64 b, .bool u] 73) = wk at *
      have k0 : wk.cell? ⟨gk, 0, none⟩ = some (.int .i64 t) := HEk.out.c 0 _ rfl
      have k1 : wk.cell? ⟨gk, 1, none⟩ = some (.int .i64 c) := HEk.out.c 1 _ rfl
      have k2 : wk.cell? ⟨gk, 2, none⟩ = some (.int .i64 b) := HEk.out.c 2 _ rfl
      have k3 : wk.cell? ⟨gk, 3, none⟩ = some (.bool u) := HEk.out.c 3 _ rfl
      have q0 : wk.cell? ⟨go, 0, none⟩ = some cv := HKk.out.c 0 _ rfl
      go_wp2_with (first
        | (at_builtin; refine Rk.wpList_append re_oko rfl (.tmp 20) (.tmp 30) rfl (go + 1) cv acc [⟨t, c, b, u⟩] rfl (HOk.out.below (below_new wk (.cells (etC ⟨t, c, b, u⟩) 62))) _ 1 1 rfl (en_ato wk ⟨t, c, b, u⟩) rfl (.inr ⟨_, _, rfl⟩) (by have := HLN.out; rw [List.length_singleton]; omega) (Nat.le_trans HSk.out (below_new wk _).size) ?_; intro v8 w8 hx1 hg1 ha1; obtain ⟨n8, hn8⟩ : ∃ n8, (acc ++ [(⟨t, c, b, u⟩ : En)]).length = n8 := ⟨_, rfl⟩; obtain ⟨A8, c8, rfl⟩ := own_slice re_oko hx1 hn8; clear hn8; have HO8 := Lib.hid hx1; have HG8 := Lib.hid hg1; have HK8 := Lib.hid ((HKk.out.al _).far hg1 (fun e => by have := (HOk.out.lt _ e.symm).1; omega)); have q1 : w8.cell? ⟨go, 0, none⟩ = some cv := HK8.out.c 0 _ rfl; have f1 := HK8.out.fr 0; clear hx1 hg1 ha1)
        | fail)
      have HVL := Lib.hid (fun q (e : cv.ownBlock = some q) => (HOk.out.lt q e).1)
      have hT : Turn (fun q => q = go ∨ cv.ownBlock = some q) wk (w8.setCell ⟨go, 0, none⟩ (.slice A8 n8 c8)) := (((Turn.refl (fun q => q = go ∨ cv.ownBlock = some q) wk).alloc (.cells (etC ⟨t, c, b, u⟩) 62)).grown HG8.out (fun q e => .inl (.inr e))).setCell _ _ (.inl (.inl rfl))
      have HNX := Lib.hid (show ∀ z, (z = go ∨ cv.ownBlock = some z) → w.heap.size + 1 < z from fun z h => by
        have h1 := HGZ.out
        rcases h with h | h
        · omega
        · have := HVL.out z h; omega)
      exact ⟨⟨j + 1, .slice A8 n8 c8, rfl, hlt, by rw [HTK.out]; exact HO8.out.turn (S := fun q => q = go) ((Turn.refl _ _).setCell _ _ (.inl rfl)) (fun q e h => by have := (HO8.out.lt q e).1; omega), Lib.hid (heap_setCell_same w8 go 0 _ _ (.slice A8 n8 c8) HK8.out), Lib.hid (HXk.out.turn hT (fun h => by have := HNX.out _ h; omega)), Lib.hid (HZk.out.turn hT (fun h => by have := HNX.out _ h; omega)), Lib.hid (HBk.out.trans (hT.below (B := w.heap.size) (fun z h => by have := HNX.out _ h; omega) HBk.out.size)), Lib.hid (Nat.le_trans HSk.out hT.size)⟩, by simp [intOf] <;> omega⟩
    · obtain rfl : j = n := by omega
      have hd4 : decide ((j : Int) < (j : Int)) = false := decide_eq_false (by omega)
      have hd5 : decide (j < j) = false := decide_eq_false (by omega)
      have hlj : l.take j = l := List.take_of_length_le (by have := HL.out.len; omega)
      rw [hlj] at HOj
      clear hlj
      obtain ⟨A6, c6, e6⟩ := own_slice re_oko HOj.out HL.out.len
      subst e6
      have g0 : wr.cell? ⟨go, 0, none⟩ = some (.slice A6 j c6) := HKj.out.c 0 _ rfl
      have z0 : wr.cell? ⟨w.heap.size + 1, 0, none⟩ = some (.slice none 0 0) := HZj.out.c 0 _ rfl
      have f0 := HZj.out.fr 0
      go_wp2_with fail
      have hT := (Turn.refl (fun q => q = w.heap.size + 1) wr).setCell ⟨w.heap.size + 1, 0, none⟩ (.slice A6 j c6) (.inl rfl)
      have ho := HOj.out.turn hT (fun z e h => by have h1 := (HOj.out.lt z e).1; have := HGZ.out; omega)
      refine bodyPost_ret (v := liV A6 j c6) (by rw [results_cell_one rfl]; go_simp; first | done | exact ⟨rfl, rfl⟩) rfl ⟨HBj.out.setCell (show w.heap.size ≤ w.heap.size + 1 from by omega) _, A6, c6, rfl, own_es re_oko ho HL.out.ok, ho.le (by have := HGZ.out; omega)⟩
end Go.Proofs.Ytpphhhalmccnbaa
