/-
  Put, in the words' form.
-/
import Derived.Test.YtnpgmiokimahiaaQk
namespace Go.Proofs.Ytnpgmiokimahiaa
set_option maxRecDepth 100000
set_option linter.unusedVariables false
set_option linter.unusedSimpArgs false
open Go.RowKit Pl

section
variable {w W : World} {p n v L M : Nat} {m m' : Pm} {l l' : List Fq} {A : Option Addr} {N c h h' : Nat} {x y : Fq} {j : Nat} {D D' : Dv}

theorem wp_copy_fq {o : Oper} {a : Act} {K : Act → World → Prop} {Q : Exit → Act → World → Prop} (s y : Operand) (ho : o.op = .call { callee := .builtin .copy, args := #[s, y], argTypes := #[33, 33] })
    (f : FAt w x) {B : Nat} {A : Option Addr} {b : List UInt8} (hr : Rd w B A b) (n c : Nat) (hn : b.length = n) (hl : n ≤ 64) (hs : a.eval s = .slice (some ⟨x.g, 1, none⟩) 64 64) (hx : a.eval y = .slice A n c)
    (h : K (a.put o.dst (.int .i64 (n : Int))) (w.setRow x.g (fqC { x with b := b ++ x.b.drop n }))) : o.wp Try.prog a w K Q := by
  unfold Oper.wp execOp
  simp only [ho, resolve, invoke, builtin, Sem.run_bind, Sem.run_pure, Result.andThen_ok, List.map_toArray, List.map_cons, List.map_nil, hs, hx, run_copy_fq f hr n c hn hl]
  exact h
theorem wp_clear_behind {o : Oper} {a : Act} {K : Act → World → Prop} {Q : Exit → Act → World → Prop} (y : Operand) (ho : o.op = .call { callee := .builtin .clear, args := #[y], argTypes := #[33] })
    (f : FAt w x) (n : Nat) (hn : n ≤ 64) (hy : a.eval y = behind x.g n)
    (h : K (a.put o.dst (.tuple #[])) (w.setRow x.g (fqC { x with b := x.b.take n ++ List.replicate (64 - n) 0 }))) : o.wp Try.prog a w K Q := by
  unfold Oper.wp execOp
  simp only [ho, resolve, invoke, builtin, Sem.run_bind, Sem.run_pure, Result.andThen_ok, List.map_toArray, List.map_cons, List.map_nil, hy, run_clear_behind f n hn]
  exact h

/-- a frame put -/
def putQ (x : Fq) (b : List UInt8) (lsn : Int) : Fq := { x with b := Dv.pad b, dirty := true, lsn := max x.lsn lsn }
theorem put_ring {f : Fr} {b : List UInt8} {lsn : Int} (h : Ring n m l) (hx : l[j]? = some x) (hf : m.F x.at_ = some f) (hb : b.length ≤ 64) (h0 : 0 ≤ lsn) (h1 : lsn ≤ 9223372036854775807) : Ring n (m.lay x.at_ b lsn) (l.set j (putQ x b lsn)) := by
  have ha := h.frame (List.mem_of_getElem? hx) hf
  obtain ⟨_, h2, c, d⟩ := h.ok.fr _ _ hf
  have e : m.lay x.at_ b lsn = m.set x.at_ ⟨Dv.pad b, true, if f.dirty then max lsn f.lsn else lsn, f.pins⟩ := by unfold Pm.lay; rw [hf]
  rw [e]
  refine h.put hx rfl rfl ⟨rfl, rfl, ha.pins, ?_⟩ (set_ok h.ok hf (Dv.len_pad b hb) ?_ ?_)
  · show max x.lsn lsn = if true = true then (if f.dirty then max lsn f.lsn else lsn) else 0
    rw [if_pos rfl, ha.lsn, ha.dirty]
    cases x.dirty
    · simp only [Bool.false_eq_true, if_false]; omega
    · simp only [if_true]; omega
  · show 0 ≤ if f.dirty then max lsn f.lsn else lsn
    split <;> omega
  · show (if f.dirty then max lsn f.lsn else lsn) ≤ _
    split <;> omega

set_option maxHeartbeats 4000000 in
theorem put_any : PutOk lay := by
  intro w p L M v D m T a lsn A0 N0 c0 b hp ha hl hfi hlen hc0
  obtain ⟨l, A, N, c, h, q, rfl⟩ := hp.pat
  have HU := Lib.hid (use_any q hp.dev hp.spent hp.reads a ha)
  have HFI := Lib.hid hfi
  have HLN := Lib.hid hlen
  have HOL := Lib.hid hl
  have HN0 : Hid (∃ T', Nx lay w w p L M v (Tq v A (l.map Fq.g)) D m T') := Lib.hid ⟨_, PoolAt.nx q hp.dev (fun k hk => .inl hk) (Turn.refl _ _)⟩
  clear hp ha hl q hfi hlen
  by_cases h64 : 64 < N0
  · have d1 : decide ((64 : Int) < (N0 : Int)) = true := decide_eq_true (by omega)
    have HB := Lib.hid h64
    clear h64
    go_enter Try.func12, Try.ntmps12
    go_wp2_with fail
    go_ret
    obtain ⟨T', hx⟩ := HN0.out
    exact ⟨1, D, m, T', .bad (.inl (by rw [HLN.out]; exact HB.out)), rfl, hx⟩
  · have d1 : decide ((64 : Int) < (N0 : Int)) = false := decide_eq_false (by omega)
    have hN64 : N0 ≤ 64 := by omega
    by_cases h0 : lsn < 0
    · have d2 : decide (lsn < 0) = true := decide_eq_true h0
      have HB := Lib.hid h0
      clear h64 h0
      go_enter Try.func12, Try.ntmps12
      go_wp2_with fail
      go_ret
      obtain ⟨T', hx⟩ := HN0.out
      exact ⟨1, D, m, T', .bad (.inr HB.out), rfl, hx⟩
    · have d2 : decide (lsn < 0) = false := decide_eq_false h0
      have HB : Hid (0 ≤ lsn) := Lib.hid (by omega)
      clear h64 h0 HN0
      go_enter Try.func12, Try.ntmps12
      go_wp2_with fail
      refine HU.out.mono ?_
      rintro e w1 ⟨E, D', m', l', A', N', c', h', hh, hq, hv, hn, ht, hend⟩
      have HH := Lib.hid hh
      have HQ := Lib.hid hq
      have HV := Lib.hid hv
      have HN := Lib.hid hn
      have HT := Lib.hid ht
      clear hh hq hv hn ht HU
      rcases hend with ⟨rfl, j, x, hx, hax, rfl⟩ | ⟨hE, rfl⟩
      · have hxm := List.mem_of_getElem? hx
        obtain ⟨f, hf, hag⟩ := HQ.out.ring.has x hxm
        have HX := Lib.hid hx
        have HFF := Lib.hid hf
        have HAT : Hid (a.toNat = x.at_) := Lib.hid (by omega)
        have HFA : Hid (FAt (World.drew w1) x) := Lib.hid ((HQ.out.f hxm).turn (S := fun _ => False) (Turn.refl _ _).drew (fun h => h))
        have HRD : Hid (Rd (World.drew w1) (World.drew w1).heap.size A0 b) := Lib.hid (HFI.out _ HT.out.drew)
        obtain ⟨g, hg⟩ : ∃ g, g = x.g := ⟨_, rfl⟩
        rw [← hg]
        have HG := Lib.hid hg
        clear hx hax hxm hf hag hg d1 d2
        go_upto_region 8 with fail
        refine wp_region_turn (X := (· = g)) (by kernel_rfl) ?_
        have hS : Turn (· = g) w1 (World.drew w1) := (Turn.refl _ _).drew
        refine wpAnyH_take (i := 0) (oi := ⟨some 29, _, _, _, _, _⟩) (v := ?_) rfl (by kernel_rfl) (by kernel_rfl) (by kernel_rfl) (fun _ _ _ h => h) (Or.inl ⟨by rfl, ?_⟩) hS ?_
        rotate_left
        · intro W hW; go_simp; with_reducible rfl
        try simp only [Act.put, List.setIfInBounds_toArray, List.set_cons_zero, List.set_cons_succ]
        refine wpAnyH_take (i := 1) (oi := ⟨some 30, _, _, _, _, _⟩) (v := ?_) rfl (by kernel_rfl) (by kernel_rfl) (by kernel_rfl) (fun _ _ _ h => h) (Or.inl ⟨by rfl, ?_⟩) hS ?_
        rotate_left
        · intro W hW; go_simp; with_reducible rfl
        try simp only [Act.put, List.setIfInBounds_toArray, List.set_cons_zero, List.set_cons_succ]
        refine wpAnyH_take (i := 2) (oi := ⟨some 31, _, _, _, _, _⟩) (v := ?_) rfl (by kernel_rfl) (by kernel_rfl) (by kernel_rfl) (fun _ _ _ h => h) (Or.inl ⟨by rfl, ?_⟩) hS ?_
        rotate_left
        · intro W hW; go_simp; with_reducible rfl
        try simp only [Act.put, List.setIfInBounds_toArray, List.set_cons_zero, List.set_cons_succ]
        refine wpAnyH_take (i := 3) (oi := ⟨some 32, _, _, _, _, _⟩) (v := ?_) rfl (by kernel_rfl) (by kernel_rfl) (by kernel_rfl) (fun _ _ _ h => h) (Or.inl ⟨by rfl, ?_⟩) hS ?_
        rotate_left
        · intro W hW; go_simp; with_reducible rfl
        try simp only [Act.put, List.setIfInBounds_toArray, List.set_cons_zero, List.set_cons_succ]
        refine wpAnyH_take (i := 4) (oi := ⟨some 33, _, _, _, _, _⟩) (v := ?_) rfl (by kernel_rfl) (by kernel_rfl) (by kernel_rfl) (fun _ _ _ h => h) (Or.inl ⟨by rfl, ?_⟩) hS ?_
        rotate_left
        · intro W hW; go_simp; with_reducible rfl
        try simp only [Act.put, List.setIfInBounds_toArray, List.set_cons_zero, List.set_cons_succ]
        refine wpAnyH_take (i := 5) (oi := ⟨some 34, _, _, _, _, _⟩) (v := ?_) rfl (by kernel_rfl) (by kernel_rfl) (by kernel_rfl) (fun _ _ _ h => h) (Or.inl ⟨by rfl, ?_⟩) hS ?_
        rotate_left
        · intro W hW; go_simp; with_reducible rfl
        try simp only [Act.put, List.setIfInBounds_toArray, List.set_cons_zero, List.set_cons_succ]
        refine wpAnyH_take (i := 6) (oi := ⟨some 35, _, _, _, _, _⟩) (v := ?_) rfl (by kernel_rfl) (by kernel_rfl) (by kernel_rfl) (fun _ _ _ h => h) (Or.inl ⟨by rfl, ?_⟩) hS ?_
        rotate_left
        · intro W hW; go_simp; with_reducible rfl
        try simp only [Act.put, List.setIfInBounds_toArray, List.set_cons_zero, List.set_cons_succ]
        refine wpAnyH_take (i := 7) (oi := ⟨some 36, _, _, _, _, _⟩) (v := ?_) rfl (by kernel_rfl) (by kernel_rfl) (by kernel_rfl) (fun _ _ _ h => h) (Or.inl ⟨by rfl, ?_⟩) hS ?_
        rotate_left
        · intro W hW; go_simp; with_reducible rfl
        try simp only [Act.put, List.setIfInBounds_toArray, List.set_cons_zero, List.set_cons_succ]
        refine wpAnyH_ready (rs := [8]) (by kernel_rfl) (by simp) ?_
        refine AllReadyH.cons (o := ⟨some 37, _, _, _, _, _⟩) rfl (fun Kr hKr => ?_) AllReadyH.nil
        -- operation 8: a step
        rw [if_pos (by kernel_rfl)]
        refine wp_copy_fq _ _ rfl (x := x) HFA.out HRD.out N0 c0 HLN.out hN64 (by rw [← HG.out]; rfl) rfl ?_
        have ht2 : Turn (· = g) (World.drew w1) ((World.drew w1).setRow x.g (fqC { x with b := b ++ x.b.drop N0 })) := (Turn.refl _ _).setRow _ _ (.inl HG.out.symm)
        have HFA2 : Hid (FAt ((World.drew w1).setRow x.g (fqC { x with b := b ++ x.b.drop N0 })) { x with b := b ++ x.b.drop N0 }) := Lib.hid (HFA.out.data (by rw [List.length_append, List.length_drop, HFA.out.l64, HLN.out]; omega))
        generalize (World.drew w1).setRow x.g (fqC { x with b := b ++ x.b.drop N0 }) = w2 at *
        show Kr _ _
        refine hKr.out _ _ ?_ (fun _ => ?_)
        · exact Turn.trans hS ht2
        clear hKr Kr
        refine wpAnyH_turn (Turn.trans hS ht2) ?_
        clear hS
        have hS : Turn (· = g) w2 w2 := Turn.refl _ _
        try simp only [Act.put, List.setIfInBounds_toArray, List.set_cons_zero, List.set_cons_succ]
        refine wpAnyH_take (i := 9) (oi := ⟨some 38, _, _, _, _, _⟩) (v := behind g N0) rfl (by kernel_rfl) (by kernel_rfl) (by kernel_rfl) (fun _ _ _ h => h) (Or.inl ⟨by rfl, fun W hW => exec_slice rfl rfl rfl (run_behind W g N0 hN64)⟩) hS ?_
        try simp only [Act.put, List.setIfInBounds_toArray, List.set_cons_zero, List.set_cons_succ]
        refine wpAnyH_ready (rs := [10]) (by kernel_rfl) (by simp) ?_
        refine AllReadyH.cons (o := ⟨none, _, _, _, _, _⟩) rfl (fun Kr hKr => ?_) AllReadyH.nil
        -- operation 10: a step
        rw [if_pos (by kernel_rfl)]
        refine wp_clear_behind _ rfl (x := { x with b := b ++ x.b.drop N0 }) HFA2.out N0 hN64 (by show _ = behind x.g N0; rw [← HG.out]; rfl) ?_
        have ht3 : Turn (· = g) w2 (w2.setRow x.g (fqC { x with b := (b ++ x.b.drop N0).take N0 ++ List.replicate (64 - N0) 0 })) := (Turn.refl _ _).setRow _ _ (.inl HG.out.symm)
        have HFA3 : Hid (FAt (w2.setRow x.g (fqC { x with b := (b ++ x.b.drop N0).take N0 ++ List.replicate (64 - N0) 0 })) { x with b := (b ++ x.b.drop N0).take N0 ++ List.replicate (64 - N0) 0 }) := Lib.hid (HFA2.out.data (by rw [List.length_append, List.length_take, List.length_replicate, HFA2.out.l64]; omega))
        show Kr _ (w2.setRow x.g (fqC { x with b := (b ++ x.b.drop N0).take N0 ++ List.replicate (64 - N0) 0 }))
        generalize w2.setRow x.g (fqC { x with b := (b ++ x.b.drop N0).take N0 ++ List.replicate (64 - N0) 0 }) = w3 at *
        show Kr _ _
        refine hKr.out _ _ ?_ (fun _ => ?_)
        · exact Turn.trans hS ht3
        clear hKr Kr
        refine wpAnyH_turn (Turn.trans hS ht3) ?_
        clear hS
        have hS : Turn (· = g) w3 w3 := Turn.refl _ _
        try simp only [Act.put, List.setIfInBounds_toArray, List.set_cons_zero, List.set_cons_succ]
        refine wpAnyH_done (by kernel_rfl) ?_ _
        clear hS
        have hbp : (b ++ x.b.drop N0).take N0 ++ List.replicate (64 - N0) 0 = Dv.pad b := by
          have hl := HLN.out
          rw [List.take_left' hl]
          unfold Dv.pad
          rw [hl]
        rw [hbp] at HFA3
        have hT3 : Turn (· = g) w1 w3 := ((Turn.refl (· = g) w1).drew.trans ht2).trans ht3
        have HT3 := Lib.hid hT3
        have c65 : w3.cell? ⟨g, 65, none⟩ = some (.bool x.dirty) := by rw [HG.out]; exact HFA3.out.c65
        have c66 : w3.cell? ⟨g, 66, none⟩ = some (.int .i64 x.lsn) := by rw [HG.out]; exact HFA3.out.c66
        have fr65 : w3.frozen? ⟨g, 65, none⟩ = false := by rw [HG.out]; exact HFA3.out.bk.fr 65
        have fr66 : w3.frozen? ⟨g, 66, none⟩ = false := by rw [HG.out]; exact HFA3.out.bk.fr 66
        obtain ⟨u, hu⟩ : ∃ u, u = x.lsn := ⟨_, rfl⟩
        rw [← hu] at c66
        have HUU := Lib.hid hu
        obtain ⟨dd, hdd⟩ : ∃ dd, dd = x.dirty := ⟨_, rfl⟩
        rw [← hdd] at c65
        clear hbp hT3 ht2 ht3 HFA2 hu hdd
        go_wp2_with fail
        go_ret
        have hg := HG.out
        subst hg
        have hu := HUU.out
        subst hu
        have hF4 := HFA3.out.dirt true (max x.lsn lsn)
        have hT4 : Turn (· = x.g) w3 ((w3.setCell ⟨x.g, 65, none⟩ (.bool true)).setCell ⟨x.g, 66, none⟩ (.int .i64 (max x.lsn lsn))) := ((Turn.refl (· = x.g) w3).setCell ⟨x.g, 65, none⟩ _ (.inl rfl)).setCell ⟨x.g, 66, none⟩ _ (.inl rfl)
        have hT := HT3.out.trans hT4
        have hxm := List.mem_of_getElem? HX.out
        have hTx : Tq v A' (l'.map Fq.g) x.g := .inr (.inr (List.mem_map.2 ⟨x, hxm, rfl⟩))
        have hnd := HQ.out.off HV.out x.g hTx
        have hgs : (l'.set j (putQ x b lsn)).map Fq.g = l'.map Fq.g := upd_gs HX.out rfl
        have hpr := put_ring HQ.out.ring HX.out HFF.out (b := b) (lsn := lsn) (by rw [HLN.out]; exact hN64) HB.out HOL.out.2
        have hme : (m'.lay x.at_ b lsn).room = m'.room ∧ (m'.lay x.at_ b lsn).safe = m'.safe ∧ (m'.lay x.at_ b lsn).reads = m'.reads := by
          unfold Pm.lay
          rw [HFF.out]
          exact ⟨rfl, rfl, rfl⟩
        refine ⟨0, D', m'.lay a.toNat b lsn, Tq v A' ((l'.set j (putQ x b lsn)).map Fq.g), .yes ⟨by rw [HLN.out]; exact hN64, HB.out⟩ HH.out, rfl, PoolAt.nx (N' := N') (c' := c') (h' := h') ?_ ?_ (fun k hk => by rw [hgs] at hk; exact HN.out k hk) (use_turn HQ.out HN.out HT.out hT hTx)⟩
        · rw [HAT.out]
          exact HQ.out.upd HX.out rfl hT hF4.bk hpr hme.1 hme.2.1 hme.2.2
        · exact HV.out.turn hT (fun e => hnd (.inl e.symm)) (fun e => hnd (.inr (.inl e.symm))) (fun e => hnd (.inr (.inr e.symm)))
      · have HE := Lib.hid hE
        have e1 : (E == 0) = false := by simpa using hE
        have e2 : (E != 0) = true := by simpa using hE
        clear hE
        go_wp2_with fail
        go_ret
        exact ⟨E, D', m', Tq v A' (l'.map Fq.g), .no ⟨by rw [HLN.out]; exact hN64, HB.out⟩ HH.out HE.out, rfl, PoolAt.nx HQ.out HV.out HN.out HT.out⟩
end
end Go.Proofs.Ytnpgmiokimahiaa
