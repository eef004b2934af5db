/-
  The document's Ops.
-/
import Derived.Test.YtpphhhalmccnbaaUf
import Derived.Test.YtpphhhalmccnbaaRc
namespace Go.Proofs.Ytpphhhalmccnbaa
set_option maxRecDepth 100000
set_option linter.unusedVariables false
set_option linter.unusedSimpArgs false
open Go.RowKit

def RQ : Rk (Int × Int) := ⟨70, 51, 2, 16, .agg #[.int .i64 0, .int .i64 0], fun x => [.int .i64 x.1, .int .i64 x.2]⟩
theorem rq_ok : RQ.Ok := ⟨by decide, by decide, fun _ => rfl, fun x v hv => by simp [RQ] at hv; rcases hv with rfl | rfl <;> rfl, Try.underlying51, by kernel_rfl, rfl⟩
theorem op_at (w : World) (c b : Int) : RQ.At (w.alloc (.cells #[.int .i64 c, .int .i64 b] 70)) (some ⟨w.heap.size, 0, none⟩) [(c, b)] := Rk.At.new rq_ok w (c, b) 70
/-- entries as ops -/
def opsO (l : List En) : List (Int × Int) := l.map fun e => (e.c, e.b)
theorem opsO_append (l m : List En) : opsO (l ++ m) = opsO l ++ opsO m := List.map_append ..
theorem opsO_len (l : List En) : (opsO l).length = l.length := List.length_map ..

set_option maxHeartbeats 4000000 in
theorem refops_any (A : Option Addr) (n a : Nat) (l : List En) (P : List Pe) (D : Option Addr) (N d : Nat) (T : Tr) (c of : Int) (hP : openO l = some P) (hn : n ≤ 1000) (hN : N ≤ 100000) (w : World) (hl : EsAt REr w A n l) (ht : TrAt w D N T) :
    Calls Try.prog 25 #[liV A n a, trV D N d c, .int .i64 of] w fun r w' => ∃ v, r = .returned v ∧ RQ.Own w' w.heap.size v (opsO (pickO (fun e => standsR T e.t of) P)) ∧ Below w.heap.size w w' := by
  have HL := Lib.hid hl
  have HP := Lib.hid hP
  have HR := Lib.hid ht
  have HX := Lib.hid ((Bk.new w (liC A n a) 24).al (.cells (trC D N d c) 27))
  have HY := Bk.new (w.alloc (.cells (liC A n a) 24)) (trC D N d c) 27
  rw [size_al] at HY
  have HY := Lib.hid HY
  have HB := Lib.hid (below_two (below_new w (.cells (liC A n a) 24)) (below_new _ (.cells (trC D N d c) 27)))
  have HS := Lib.hid (show w.heap.size + 2 ≤ ((w.alloc (.cells (liC A n a) 24)).alloc (.cells (trC D N d c) 27)).heap.size from by simp)
  have ho := fun V hV => refopen_any A n a l hn V (HL.out.below hV)
  have HPL := Lib.hid (show P.length ≤ 1000 from by have := (open_fit hP).len; have := hl.len; omega)
  clear hl hP ht
  have x0 := HX.out.c 0 _ rfl
  go_enter Try.func25, Try.ntmps25
  go_wp2_with fail
  refine (ho _ HB.out).mono ?_
  rintro r w2 ⟨hb2, g, rfl, hgo⟩
  have HX2 := Lib.hid (HX.out.below hb2)
  have HY2 := Lib.hid (HY.out.below hb2)
  have HB2 := Lib.hid (HB.out.trans (hb2.mono HB.out.size))
  have HS2 := Lib.hid (Nat.le_trans HS.out hb2.size)
  rw [opO_some HP.out] at hgo
  have HO := Lib.hid (hgo.le HS.out)
  have HGL := Lib.hid (show w.heap.size + 2 ≤ g ∧ g < w2.heap.size from ⟨Nat.le_trans HS.out (hgo.lt g rfl).1, (hgo.lt g rfl).2⟩)
  clear ho x0 hb2 hgo
  go_wp2_with fail
  go_loopw [8, 9] (fun v u wr => ∃ i : Nat, u = .int .i64 (i : Int) ∧ i ≤ n ∧ Hid (RQ.Own wr w2.heap.size v (opsO (pickO (fun e => standsR T e.t of) (uptoO P i)))) ∧ Hid (RL.Own wr (w.heap.size + 2) (.slice (some ⟨g, 0, none⟩) n n) (isO n P)) ∧ Hid (Bk wr w.heap.size (liC A n a) 24) ∧ Hid (Bk wr (w.heap.size + 1) (trC D N d c) 27) ∧ Hid (Below w.heap.size w wr) ∧ Hid (w2.heap.size ≤ wr.heap.size)) (fun _ u _ => n - (intOf u).toNat)
  case atStart => exact ⟨0, rfl, Nat.zero_le _, by rw [uptoO_zero]; exact Rk.Own.nil _ _ _, HO, HX2, HY2, HB2, Lib.hid (Nat.le_refl _)⟩
  case round =>
    obtain ⟨i, rfl, hi, HVi, HOi, HXi, HYi, HBi, HSi⟩ := hrel
    have x0 := HXi.out.c 0 _ rfl
    rcases Nat.lt_or_ge i n with hlt | hge
    · obtain ⟨b2, o, hA, hbl, hok, hget, h0, h1, h2, h3⟩ := HL.out.er hlt
      subst hA
      have HC0 := Lib.hid ((HBi.out.cell (p := ⟨b2, o + i * 4, none⟩) hbl).trans h0)
      have HC1 := Lib.hid ((HBi.out.cell (p := ⟨b2, o + i * 4 + 1, none⟩) hbl).trans h1)
      have HC2 := Lib.hid ((HBi.out.cell (p := ⟨b2, o + i * 4 + 2, none⟩) hbl).trans h2)
      have HUP := Lib.hid (pickO_succ (fun e => standsR T e.t of) (open_fit HP.out) hget)
      have g0 := own_bool HOi.out (i := i) (by rw [isO_len]; exact hlt)
      rw [isO_getD hlt] at g0
      have HLN := Lib.hid (show (opsO (pickO (fun e => standsR T e.t of) (uptoO P i))).length ≤ 1000 from by rw [opsO_len]; have h1 := pickO_len (sel := fun e => standsR T e.t of) (P := uptoO P i); have h2 := upto_le (P := P) (i := i); have := HPL.out; omega)
      have HOP := Lib.hid (show opsO (pickO (fun e => standsR T e.t of) (uptoO P (i + 1))) = opsO (pickO (fun e => standsR T e.t of) (uptoO P i)) ++ (if decide (i ∈ plO P) && standsR T (l.getD i enD).t of then [((l.getD i enD).c, (l.getD i enD).b)] else []) from by rw [HUP.out, opsO_append]; congr 1; split <;> rfl)
      clear HUP
      generalize opsO (pickO (fun e => standsR T e.t of) (uptoO P i)) = acc at *
      generalize l.getD i enD = e at *
      obtain ⟨t, k, b, u⟩ := e
      simp only at HC0 HC1 HC2 HOP
      have HBL := Lib.hid (show b2 < w.heap.size from hbl)
      have HBLJ := Lib.hid (Nat.lt_of_lt_of_le hbl HBi.out.size)
      have hd4 : decide ((i : Int) < (n : Int)) = true := decide_eq_true (by omega)
      have hd5 : decide (i < n) = true := decide_eq_true hlt
      have hi1 : (i : Int) < (n : Int) := by omega
      clear h0 h1 h2 h3 hbl hok hget
      by_cases hp : i ∈ plO P
      · rw [decide_eq_true hp] at g0
        rw [decide_eq_true hp, Bool.true_and] at HOP
        clear hp
        have hw := fun V (hV : Below wr.heap.size wr V) => refwithin_any D N d T c t of hN V (HR.out.below (HBi.out.trans (hV.mono HBi.out.size)))
        have HG0 := Lib.hid g0
        go_upto_region 6 with fail
        clear x0 g0
        have X0 : ∀ V, Since wr V → V.cell? ⟨w.heap.size, 0, none⟩ = some (.slice (some ⟨b2, o, none⟩) n a) := fun V hV => (HXi.out.below hV).c 0 _ rfl
        have Y0 : ∀ V, Since wr V → V.cell? ⟨w.heap.size + 1, 0, none⟩ = some (.slice D N d) := fun V hV => (HYi.out.below hV).r_0
        have Y1 : ∀ V, Since wr V → V.cell? ⟨w.heap.size + 1, 1, none⟩ = some (.int .i64 c) := fun V hV => (HYi.out.below hV).r_1
        have C0 : ∀ V, Since wr V → V.cell? ⟨b2, o + i * 4, none⟩ = some (.int .i64 t) := fun V hV => (hV.cell (p := ⟨b2, o + i * 4, none⟩) HBLJ.out).trans HC0.out
        have G0 : ∀ V, Since wr V → V.cell? ⟨g, i, none⟩ = some (.bool true) := fun V hV => (hV.cell (p := ⟨g, i, none⟩) (HOi.out.lt g rfl).2).trans HG0.out
        generalize standsR T t of = sb at *
        refine wp_region_since (by kernel_rfl) ?_
        have hS : Since wr (World.drew wr) := (Below.refl _ _).drew
        refine wpAnyH_take (i := 0) (oi := ⟨some 20, _, _, _, _, _⟩) (v := ?_) rfl (by kernel_rfl) (by kernel_rfl) (by kernel_rfl) (fun _ _ _ h => h) (Or.inl ⟨by rfl, ?_⟩) hS ?_
        rotate_left
        · intro W hW; go_simp; with_reducible rfl
        try simp only [Act.put, List.setIfInBounds_toArray, List.set_cons_zero, List.set_cons_succ]
        refine wpAnyH_take (i := 1) (oi := ⟨some 21, _, _, _, _, _⟩) (v := ?_) rfl (by kernel_rfl) (by kernel_rfl) (by kernel_rfl) (fun _ _ _ h => h) (Or.inl ⟨by rfl, ?_⟩) hS ?_
        rotate_left
        · intro W hW; go_simp; with_reducible rfl
        try simp only [Act.put, List.setIfInBounds_toArray, List.set_cons_zero, List.set_cons_succ]
        refine wpAnyH_take (i := 2) (oi := ⟨some 22, _, _, _, _, _⟩) (v := ?_) rfl (by kernel_rfl) (by kernel_rfl) (by kernel_rfl) (fun _ _ _ h => h) (Or.inl ⟨by rfl, ?_⟩) hS ?_
        rotate_left
        · intro W hW; go_simp; with_reducible rfl
        try simp only [Act.put, List.setIfInBounds_toArray, List.set_cons_zero, List.set_cons_succ]
        refine wpAnyH_take (i := 3) (oi := ⟨some 23, _, _, _, _, _⟩) (v := ?_) rfl (by kernel_rfl) (by kernel_rfl) (by kernel_rfl) (fun _ _ _ h => h) (Or.inl ⟨by rfl, ?_⟩) hS ?_
        rotate_left
        · intro W hW; go_simp; with_reducible rfl
        try simp only [Act.put, List.setIfInBounds_toArray, List.set_cons_zero, List.set_cons_succ]
        refine wpAnyH_take (i := 4) (oi := ⟨some 24, _, _, _, _, _⟩) (v := ?_) rfl (by kernel_rfl) (by kernel_rfl) (by kernel_rfl) (fun _ _ _ h => h) (Or.inl ⟨by rfl, ?_⟩) hS ?_
        rotate_left
        · intro W hW; go_simp; with_reducible rfl
        try simp only [Act.put, List.setIfInBounds_toArray, List.set_cons_zero, List.set_cons_succ]
        refine wpAnyH_take (i := 5) (oi := ⟨some 25, _, _, _, _, _⟩) (v := ?_) rfl (by kernel_rfl) (by kernel_rfl) (by kernel_rfl) (fun _ _ _ h => h) (Or.inl ⟨by rfl, ?_⟩) hS ?_
        rotate_left
        · intro W hW; go_simp; with_reducible rfl
        try simp only [Act.put, List.setIfInBounds_toArray, List.set_cons_zero, List.set_cons_succ]
        refine wpAnyH_take (i := 6) (oi := ⟨some 26, _, _, _, _, _⟩) (v := ?_) rfl (by kernel_rfl) (by kernel_rfl) (by kernel_rfl) (fun _ _ _ h => h) (Or.inl ⟨by rfl, ?_⟩) hS ?_
        rotate_left
        · intro W hW; go_simp; with_reducible rfl
        try simp only [Act.put, List.setIfInBounds_toArray, List.set_cons_zero, List.set_cons_succ]
        refine wpAnyH_take (i := 7) (oi := ⟨some 27, _, _, _, _, _⟩) (v := ?_) rfl (by kernel_rfl) (by kernel_rfl) (by kernel_rfl) (fun _ _ _ h => h) (Or.inl ⟨by rfl, ?_⟩) hS ?_
        rotate_left
        · intro W hW; go_simp; with_reducible rfl
        try simp only [Act.put, List.setIfInBounds_toArray, List.set_cons_zero, List.set_cons_succ]
        refine wpAnyH_take (i := 8) (oi := ⟨some 28, _, _, _, _, _⟩) (v := ?_) rfl (by kernel_rfl) (by kernel_rfl) (by kernel_rfl) (fun _ _ _ h => h) (Or.inl ⟨by rfl, ?_⟩) hS ?_
        rotate_left
        · intro W hW; go_simp; with_reducible rfl
        try simp only [Act.put, List.setIfInBounds_toArray, List.set_cons_zero, List.set_cons_succ]
        refine wpAnyH_take (i := 9) (oi := ⟨some 29, _, _, _, _, _⟩) (v := ?_) rfl (by kernel_rfl) (by kernel_rfl) (by kernel_rfl) (fun _ _ _ h => h) (Or.inl ⟨by rfl, ?_⟩) hS ?_
        rotate_left
        · intro W hW; go_simp; with_reducible rfl
        try simp only [Act.put, List.setIfInBounds_toArray, List.set_cons_zero, List.set_cons_succ]
        refine wpAnyH_take (i := 10) (oi := ⟨some 30, _, _, _, _, _⟩) (v := ?_) rfl (by kernel_rfl) (by kernel_rfl) (by kernel_rfl) (fun _ _ _ h => h) (Or.inl ⟨by rfl, ?_⟩) hS ?_
        rotate_left
        · intro W hW; go_simp; with_reducible rfl
        try simp only [Act.put, List.setIfInBounds_toArray, List.set_cons_zero, List.set_cons_succ]
        refine wpAnyH_take (i := 11) (oi := ⟨some 31, _, _, _, _, _⟩) (v := ?_) rfl (by kernel_rfl) (by kernel_rfl) (by kernel_rfl) (fun _ _ _ h => h) (Or.inl ⟨by rfl, ?_⟩) hS ?_
        rotate_left
        · intro W hW; go_simp; with_reducible rfl
        try simp only [Act.put, List.setIfInBounds_toArray, List.set_cons_zero, List.set_cons_succ]
        refine wpAnyH_take (i := 12) (oi := ⟨some 32, _, _, _, _, _⟩) (v := ?_) rfl (by kernel_rfl) (by kernel_rfl) (by kernel_rfl) (fun _ _ _ h => h) (Or.inl ⟨by rfl, ?_⟩) hS ?_
        rotate_left
        · intro W hW; go_simp; with_reducible rfl
        try simp only [Act.put, List.setIfInBounds_toArray, List.set_cons_zero, List.set_cons_succ]
        refine wpAnyH_ready (rs := [13]) (by kernel_rfl) (by simp) ?_
        refine AllReadyH.cons (o := ⟨some 33, _, _, _, _, _⟩) rfl (fun Kr hKr => ?_) AllReadyH.nil
        -- operation 13: a call
        go_simp
        refine (hw _ hS).mono ?_
        rintro e w4 ⟨rfl, hb4⟩
        show Kr _ _
        refine hKr.out _ _ ?_ (fun _ => ?_)
        · exact since_trans hS hb4
        clear hKr Kr
        replace hS : Since wr w4 := since_trans hS hb4
        try simp only [Act.put, List.setIfInBounds_toArray, List.set_cons_zero, List.set_cons_succ]
        refine wpAnyH_take (i := 14) (oi := ⟨some 34, _, _, _, _, _⟩) (v := ?_) rfl (by kernel_rfl) (by kernel_rfl) (by kernel_rfl) (fun _ _ _ h => h) (Or.inl ⟨by rfl, ?_⟩) hS ?_
        rotate_left
        · intro W hW; go_simp; with_reducible rfl
        try simp only [Act.put, List.setIfInBounds_toArray, List.set_cons_zero, List.set_cons_succ]
        refine wpAnyH_done (by kernel_rfl) ?_ _
        clear X0 Y0 Y1 C0 G0 hw
        have HX4 := Lib.hid (HXi.out.below hS)
        have HY4 := Lib.hid (HYi.out.below hS)
        have HV4 := Lib.hid (HVi.out.below hS)
        have HO4 := Lib.hid (HOi.out.below hS)
        have HB4 := Lib.hid (HBi.out.trans (hS.mono HBi.out.size))
        have HS4 := Lib.hid (Nat.le_trans HSi.out hS.size)
        have HD1 := Lib.hid ((hS.cell (p := ⟨b2, o + i * 4 + 1, none⟩) HBLJ.out).trans HC1.out)
        have HD2 := Lib.hid ((hS.cell (p := ⟨b2, o + i * 4 + 2, none⟩) HBLJ.out).trans HC2.out)
        clear hS
        cases sb with
        | false =>
          go_wp2_with fail
          exact ⟨⟨i + 1, rfl, hlt, by rw [HOP.out]; simpa using HV4, HO4, HX4, HY4, HB4, HS4⟩, by simp [intOf] <;> omega⟩
        | true =>
          rw [if_pos rfl] at HOP
          have HVL := Lib.hid (fun q (e : u8.ownBlock = some q) => (HV4.out.lt q e).1)
          go_upto_region 7 with fail
          have X0 : ∀ V, Turn (fun q => u8.ownBlock = some q) w4 V → V.cell? ⟨w.heap.size, 0, none⟩ = some (.slice (some ⟨b2, o, none⟩) n a) := fun V hV => (HX4.out.turn hV (fun h => by have := HVL.out _ h; have := HS2.out; omega)).c 0 _ rfl
          have C1 : ∀ V, Turn (fun q => u8.ownBlock = some q) w4 V → V.cell? ⟨b2, o + i * 4 + 1, none⟩ = some (.int .i64 k) := fun V hV => hV.cell HD1.out (fun h => by have h1 := HVL.out _ h; have := HBL.out; have := HS2.out; simp only at h1; omega)
          have C2 : ∀ V, Turn (fun q => u8.ownBlock = some q) w4 V → V.cell? ⟨b2, o + i * 4 + 2, none⟩ = some (.int .i64 b) := fun V hV => hV.cell HD2.out (fun h => by have h1 := HVL.out _ h; have := HBL.out; have := HS2.out; simp only at h1; omega)
          have HBn := Lib.hid ((below_new w4 (.cells #[.int .i64 k, .int .i64 b] 70)).drew)
          refine wp_region_turn (X := (fun q => u8.ownBlock = some q)) (by kernel_rfl) ?_
          have hS : Turn (fun q => u8.ownBlock = some q) w4 (World.drew w4) := (Turn.refl _ _).drew
          refine wpAnyH_take (i := 0) (oi := ⟨some 35, _, _, _, _, _⟩) (v := ?_) rfl (by kernel_rfl) (by kernel_rfl) (by kernel_rfl) (fun _ _ _ h => h) (Or.inl ⟨by rfl, ?_⟩) hS ?_
          rotate_left
          · intro W hW; go_simp; with_reducible rfl
          try simp only [Act.put, List.setIfInBounds_toArray, List.set_cons_zero, List.set_cons_succ]
          refine wpAnyH_take (i := 1) (oi := ⟨some 36, _, _, _, _, _⟩) (v := ?_) rfl (by kernel_rfl) (by kernel_rfl) (by kernel_rfl) (fun _ _ _ h => h) (Or.inl ⟨by rfl, ?_⟩) hS ?_
          rotate_left
          · intro W hW; go_simp; with_reducible rfl
          try simp only [Act.put, List.setIfInBounds_toArray, List.set_cons_zero, List.set_cons_succ]
          refine wpAnyH_take (i := 2) (oi := ⟨some 37, _, _, _, _, _⟩) (v := ?_) rfl (by kernel_rfl) (by kernel_rfl) (by kernel_rfl) (fun _ _ _ h => h) (Or.inl ⟨by rfl, ?_⟩) hS ?_
          rotate_left
          · intro W hW; go_simp; with_reducible rfl
          try simp only [Act.put, List.setIfInBounds_toArray, List.set_cons_zero, List.set_cons_succ]
          refine wpAnyH_take (i := 3) (oi := ⟨some 38, _, _, _, _, _⟩) (v := ?_) rfl (by kernel_rfl) (by kernel_rfl) (by kernel_rfl) (fun _ _ _ h => h) (Or.inl ⟨by rfl, ?_⟩) hS ?_
          rotate_left
          · intro W hW; go_simp; with_reducible rfl
          try simp only [Act.put, List.setIfInBounds_toArray, List.set_cons_zero, List.set_cons_succ]
          refine wpAnyH_take (i := 4) (oi := ⟨some 39, _, _, _, _, _⟩) (v := ?_) rfl (by kernel_rfl) (by kernel_rfl) (by kernel_rfl) (fun _ _ _ h => h) (Or.inl ⟨by rfl, ?_⟩) hS ?_
          rotate_left
          · intro W hW; go_simp; with_reducible rfl
          try simp only [Act.put, List.setIfInBounds_toArray, List.set_cons_zero, List.set_cons_succ]
          refine wpAnyH_take (i := 5) (oi := ⟨some 40, _, _, _, _, _⟩) (v := ?_) rfl (by kernel_rfl) (by kernel_rfl) (by kernel_rfl) (fun _ _ _ h => h) (Or.inl ⟨by rfl, ?_⟩) hS ?_
          rotate_left
          · intro W hW; go_simp; with_reducible rfl
          try simp only [Act.put, List.setIfInBounds_toArray, List.set_cons_zero, List.set_cons_succ]
          refine wpAnyH_take (i := 6) (oi := ⟨some 41, _, _, _, _, _⟩) (v := ?_) rfl (by kernel_rfl) (by kernel_rfl) (by kernel_rfl) (fun _ _ _ h => h) (Or.inl ⟨by rfl, ?_⟩) hS ?_
          rotate_left
          · intro W hW; go_simp; with_reducible rfl
          try simp only [Act.put, List.setIfInBounds_toArray, List.set_cons_zero, List.set_cons_succ]
          refine wpAnyH_take (i := 7) (oi := ⟨some 42, _, _, _, _, _⟩) (v := ?_) rfl (by kernel_rfl) (by kernel_rfl) (by kernel_rfl) (fun _ _ _ h => h) (Or.inl ⟨by rfl, ?_⟩) hS ?_
          rotate_left
          · intro W hW; go_simp; with_reducible rfl
          try simp only [Act.put, List.setIfInBounds_toArray, List.set_cons_zero, List.set_cons_succ]
          refine wpAnyH_take (i := 8) (oi := ⟨some 43, _, _, _, _, _⟩) (v := ?_) rfl (by kernel_rfl) (by kernel_rfl) (by kernel_rfl) (fun _ _ _ h => h) (Or.inl ⟨by rfl, ?_⟩) hS ?_
          rotate_left
          · intro W hW; go_simp; with_reducible rfl
          try simp only [Act.put, List.setIfInBounds_toArray, List.set_cons_zero, List.set_cons_succ]
          refine wpAnyH_take (i := 9) (oi := ⟨some 44, _, _, _, _, _⟩) (v := ?_) rfl (by kernel_rfl) (by kernel_rfl) (by kernel_rfl) (fun _ _ _ h => h) (Or.inl ⟨by rfl, ?_⟩) hS ?_
          rotate_left
          · intro W hW; go_simp; with_reducible rfl
          try simp only [Act.put, List.setIfInBounds_toArray, List.set_cons_zero, List.set_cons_succ]
          refine wpAnyH_take (i := 10) (oi := ⟨some 45, _, _, _, _, _⟩) (v := ?_) rfl (by kernel_rfl) (by kernel_rfl) (by kernel_rfl) (fun _ _ _ h => h) (Or.inl ⟨by rfl, ?_⟩) hS ?_
          rotate_left
          · intro W hW; go_simp; with_reducible rfl
          try simp only [Act.put, List.setIfInBounds_toArray, List.set_cons_zero, List.set_cons_succ]
          refine wpAnyH_take (i := 11) (oi := ⟨some 46, _, _, _, _, _⟩) (v := ?_) rfl (by kernel_rfl) (by kernel_rfl) (by kernel_rfl) (fun _ _ _ h => h) (Or.inl ⟨by rfl, ?_⟩) hS ?_
          rotate_left
          · intro W hW; go_simp; with_reducible rfl
          try simp only [Act.put, List.setIfInBounds_toArray, List.set_cons_zero, List.set_cons_succ]
          refine wpAnyH_take (i := 12) (oi := ⟨some 47, _, _, _, _, _⟩) (v := ?_) rfl (by kernel_rfl) (by kernel_rfl) (by kernel_rfl) (fun _ _ _ h => h) (Or.inl ⟨by rfl, ?_⟩) hS ?_
          rotate_left
          · intro W hW; go_simp; with_reducible rfl
          try simp only [Act.put, List.setIfInBounds_toArray, List.set_cons_zero, List.set_cons_succ]
          refine wpAnyH_take (i := 13) (oi := ⟨some 48, _, _, _, _, _⟩) (v := ?_) rfl (by kernel_rfl) (by kernel_rfl) (by kernel_rfl) (fun _ _ _ h => h) (Or.inl ⟨by rfl, ?_⟩) hS ?_
          rotate_left
          · intro W hW; go_simp; with_reducible rfl
          try simp only [Act.put, List.setIfInBounds_toArray, List.set_cons_zero, List.set_cons_succ]
          refine wpAnyH_ready (rs := [14]) (by kernel_rfl) (by simp) ?_
          refine AllReadyH.cons (o := ⟨some 49, _, _, _, _, _⟩) rfl (fun Kr hKr => ?_) AllReadyH.nil
          -- operation 14: a step
          try rw [if_pos (by kernel_rfl)]
          go_simp
          show Kr _ _
          refine hKr.out _ _ ?_ (fun _ => ?_)
          · exact Turn.trans hS (Turn.ofBelow (below_new _ _))
          clear hKr Kr
          replace hS : Turn (fun q => u8.ownBlock = some q) w4 ((World.drew w4).alloc (.cells #[.int .i64 k, .int .i64 b] 70)) := Turn.trans hS (Turn.ofBelow (below_new _ _))
          try simp only [Act.put, List.setIfInBounds_toArray, List.set_cons_zero, List.set_cons_succ]
          refine wpAnyH_ready (rs := [15]) (by kernel_rfl) (by simp) ?_
          refine AllReadyH.cons (o := ⟨some 50, _, _, _, _, _⟩) rfl (fun Kr hKr => ?_) AllReadyH.nil
          -- operation 15: a step
          try rw [if_pos (by kernel_rfl)]
          refine Rk.wp_append rq_ok (.tmp 35) (.tmp 49) rfl w2.heap.size u8 acc [(k, b)] rfl (HV4.out.below HBn.out) _ 1 1 rfl (op_at (World.drew w4) k b) rfl (.inr ⟨_, _, rfl⟩) (by have := HLN.out; rw [List.length_singleton]; omega) (Nat.le_trans HS4.out HBn.out.size) ?_
          intro v8 w8 hx1 hg1 ha1
          have HO8 := Lib.hid hx1
          show Kr _ _
          refine hKr.out _ _ ?_ (fun _ => ?_)
          · exact Turn.trans hS (Turn.grown (Turn.refl _ _) hg1 (fun j e => .inl e))
          clear hKr Kr
          replace hS : Turn (fun q => u8.ownBlock = some q) w4 w8 := Turn.trans hS (Turn.grown (Turn.refl _ _) hg1 (fun j e => .inl e))
          try simp only [Act.put, List.setIfInBounds_toArray, List.set_cons_zero, List.set_cons_succ]
          refine wpAnyH_take (i := 16) (oi := ⟨some 8, _, _, _, _, _⟩) (v := ?_) rfl (by kernel_rfl) (by kernel_rfl) (by kernel_rfl) (fun _ _ _ h => h) (Or.inl ⟨by rfl, ?_⟩) hS ?_
          rotate_left
          · intro W hW; go_simp; with_reducible rfl
          try simp only [Act.put, List.setIfInBounds_toArray, List.set_cons_zero, List.set_cons_succ]
          refine wpAnyH_done (by kernel_rfl) ?_ _
          have HT9 := Lib.hid hS
          clear hS X0 C1 C2 hg1 ha1 hx1
          go_wp2_with fail
          exact ⟨⟨i + 1, rfl, hlt, by rw [HOP.out]; exact HO8, Lib.hid (HO4.out.turn HT9.out (fun q e h => by injection e with e; have e : g = q := e; have := HVL.out q h; have := HGL.out.2; omega)), Lib.hid (HX4.out.turn HT9.out (fun h => by have := HVL.out _ h; have := HS2.out; omega)), Lib.hid (HY4.out.turn HT9.out (fun h => by have := HVL.out _ h; have := HS2.out; omega)), Lib.hid (HB4.out.trans (HT9.out.below (B := w.heap.size) (fun z h => by have := HVL.out z h; have := HS2.out; omega) HB4.out.size)), Lib.hid (Nat.le_trans HS4.out HT9.out.size)⟩, by simp [intOf] <;> omega⟩
      · rw [decide_eq_false hp] at g0
        rw [decide_eq_false hp, Bool.false_and] at HOP
        clear hp
        go_upto_region 6 with fail
        go_quiet (fail)
        go_wp2_with fail
        exact ⟨⟨i + 1, rfl, hlt, by rw [HOP.out]; simpa using Lib.hid (HVi.out.below (below_drewN (Below.refl _ _) _)), Lib.hid (HOi.out.below (below_drewN (Below.refl _ _) _)), Lib.hid (HXi.out.below (below_drewN (Below.refl _ _) _)), Lib.hid (HYi.out.below (below_drewN (Below.refl _ _) _)), Lib.hid (below_drewN HBi.out _), Lib.hid (Nat.le_trans HSi.out (below_drewN (Below.refl wr.heap.size wr) _).size)⟩, by simp [intOf] <;> omega⟩
    · obtain rfl : i = n := by omega
      have hd4 : decide ((i : Int) < (i : Int)) = false := decide_eq_false (by omega)
      have hd5 : decide (i < i) = false := decide_eq_false (by omega)
      go_wp2_with fail
      go_ret
      refine ⟨u8, rfl, ?_, HBi.out⟩
      have hall := uptoO_all (open_fit HP.out)
      rw [HL.out.len] at hall
      have h := HVi.out.le (b := w.heap.size) (by have := HS2.out; omega)
      rw [hall] at h
      exact h
end Go.Proofs.Ytpphhhalmccnbaa
