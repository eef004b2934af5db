/-
  settle: which entries are open, and whether each one with Undo undoes one.
-/
import Derived.Test.YtpphhhalmccnbaaQc
namespace Go.Proofs.Ytpphhhalmccnbaa
set_option maxRecDepth 100000
set_option linter.unusedVariables false
set_option linter.unusedSimpArgs false
open Go.RowKit

section
variable {P : Program} {w w' : World} {o : Oper} {a : Act} {ops : Array Oper} {rest : List Oper} {Q : Exit → Act → World → Prop}
theorem wpList_entry (hgd : o.guard = none) (m k : Operand) (t : TypeId) (ho : o.op = .mapEntry t m k) {y z v : Value} (hm : a.eval m = y) (hk : a.eval k = z)
    (hrun : (Instr.mapEntry t y z).run P w = .ok v w') (h : wpList P ops Q rest (a.put o.dst v) w') : wpList P ops Q (o :: rest) a w := by
  refine wpList_plain hgd fun K hK => ?_
  unfold Oper.wp
  simp [execOp, ho, hm, hk, hrun, Result.andThen]
  exact hK _ _ h
theorem wpList_estore (hgd : o.guard = none) (m s x : Operand) (t : TypeId) (ho : o.op = .entryStore t m s x) {y z v : Value} (hm : a.eval m = y) (hs : a.eval s = z) (hx : a.eval x = v)
    (hrun : (Instr.entryStore t y z v).run P w = .ok () w') (h : wpList P ops Q rest (a.put o.dst undef) w') : wpList P ops Q (o :: rest) a w := by
  refine wpList_plain hgd fun K hK => ?_
  unfold Oper.wp
  simp [execOp, ho, hm, hs, hx, hrun, Result.andThen]
  exact hK _ _ h
theorem wpList_look (hgd : o.guard = none) (m k : Operand) (t : TypeId) (b : Bool) (ho : o.op = .lookup t m k b) {y z v : Value} (hm : a.eval m = y) (hk : a.eval k = z)
    (hrun : (Instr.lookup t y z b).run P w = .ok v w') (h : wpList P ops Q rest (a.put o.dst v) w') : wpList P ops Q (o :: rest) a w := by
  refine wpList_plain hgd fun K hK => ?_
  unfold Oper.wp
  simp [execOp, ho, hm, hk, hrun, Result.andThen]
  exact hK _ _ h
theorem wp_upd {K : Act → World → Prop} (m x v : Operand) (t : TypeId) (ho : o.op = Op.mapUpdate t m x v) {y z u : Value} (hm : a.eval m = y) (hx : a.eval x = z) (hv : a.eval v = u)
    (hrun : (Instr.mapUpdate t y z u).run P w = .ok () w') (h : K (a.put o.dst undef) w') : o.wp P a w K Q := by
  unfold Oper.wp
  simp [execOp, ho, hm, hx, hv, hrun, Result.andThen]
  exact h
end
/-- 'l[:k]' of a row with room -/
theorem run_cut_int (g n c k : Nat) (hk : k ≤ c) (hc : 0 < c) (V : World) : (Instr.slice 28 (.slice (some ⟨g, 0, none⟩) n c) none (some (.int .i64 (k : Int))) none).run Try.prog V = .ok (.slice (some ⟨g, 0, none⟩) k c) V := by
  have hsz : (Go.sizeOf (Try.prog.elem 28)).run Try.prog V = .ok 1 V := Try.sizeOf3 V
  rw [run_slice_h V 28 (some ⟨g, 0, none⟩) n c Try.underlying28 .i64 (k : Int) (by omega) (by omega), hsz]
  simp only [Result.andThen, sliced]
  rw [if_neg (by omega), Nat.zero_mul, Option.map_some, addr_add]; simp

set_option maxHeartbeats 4000000 in
theorem settle_any (A : Option Addr) (n a : Nat) (l : List En) (hn : n ≤ 1000) (w : World) (hl : EsAt REo w A n l) :
    Calls Try.prog 33 #[liV A n a] w fun r w' => Below w.heap.size w w' ∧ ∃ P ev g, r = .returned (.tuple #[.slice (some ⟨g, 0, none⟩) n n, .bool ev]) ∧ Sd l n P ev ∧ RL.Own w' (w.heap.size + 1) (.slice (some ⟨g, 0, none⟩) n n) (isO n P) := by
  have HL := Lib.hid hl
  have HX := Lib.hid (Bk.new w (liC A n a) 32)
  have HB0 := Lib.hid (below_new w (.cells (liC A n a) 32))
  obtain ⟨w2, hmk, ho2, hb2⟩ := Rk.run_make rl_ok (w.alloc (.cells (liC A n a) 32)) n false rl_zero (by show 1 * n ≤ _; omega) (by omega)
  rw [size_al] at hmk ho2
  obtain ⟨g, hg⟩ : ∃ g, g = w.heap.size + 1 := ⟨_, rfl⟩
  rw [← hg] at hmk ho2
  replace hmk : (Instr.makeSlice 77 (.int .i64 (n : Int)) (.int .i64 (n : Int))).run Try.prog (w.alloc (.cells (liC A n a) 32)) = .ok (.slice (some ⟨g, 0, none⟩) n n) w2 := hmk
  have hgl : g < w2.heap.size := (ho2.lt g rfl).2
  obtain ⟨bm, hbm⟩ : ∃ bm, bm = w2.heap.size := ⟨_, rfl⟩
  rw [← hbm] at hgl
  have HG := Lib.hid hg
  have HBM := Lib.hid hbm
  have b3 := below_new w2 (.map #[] 0)
  have HO3 := Lib.hid (show RL.Own (w2.alloc (.map #[] 0)) g (.slice (some ⟨g, 0, none⟩) n n) (isO n []) from by rw [isO_nil]; exact ho2.below b3)
  have HM3 := Lib.hid (show Ms (w2.alloc (.map #[] 0)) bm 0 (bm + 1) [] from ⟨⟨fun _ => nilI, by rw [hbm]; exact Km.made w2, Sk.nil _ _⟩, by omega⟩)
  have HB2 := Lib.hid (show Below w.heap.size w w2 from HB0.out.trans (hb2.mono (by simp)))
  have HB3 := Lib.hid (show Below w.heap.size w (w2.alloc (.map #[] 0)) from HB2.out.trans (b3.mono HB2.out.size))
  have HS3 := Lib.hid (show bm + 1 ≤ (w2.alloc (.map #[] 0)).heap.size from by rw [size_al, hbm]; omega)
  have hmm : (Instr.makeMap 114 none).run Try.prog w2 = .ok (.map (some bm)) (w2.alloc (.map #[] 0)) := by rw [hbm]; exact run_makeMap _ _
  have HX2 := Lib.hid (HX.out.below hb2)
  have HX3 := Lib.hid (HX2.out.below b3)
  have HGB := Lib.hid (show g < bm ∧ w.heap.size < g from ⟨hgl, by omega⟩)
  clear hl ho2 hb2 b3 hgl
  have x0 := HX.out.c 0 _ rfl
  have x2 := HX2.out.c 0 _ rfl
  have x3 := HX3.out.c 0 _ rfl
  generalize hw3 : w2.alloc (.map #[] 0) = w3 at *
  go_enter Try.func33, Try.ntmps33
  clear hg hbm hw3
  go_wp2_with fail
  clear x0 x2 x3 hmk hmm HX HX2 HX3 HB0 HB2 HG HBM
  go_loopw [5, 20] (fun v u wr => ∃ (i : Nat) (P : List Pe) (ev : Bool), v = .bool ev ∧ u = .int .i64 (i : Int) ∧ i ≤ n ∧ Hid (Sd l i P ev) ∧ Hid (RL.Own wr g (.slice (some ⟨g, 0, none⟩) n n) (isO n P)) ∧ Hid (Ms wr bm i (bm + 1) P) ∧ Hid (Below w.heap.size w wr) ∧ Hid (bm + 1 ≤ wr.heap.size)) (fun _ u _ => n - (intOf u).toNat)
  case atStart => exact ⟨0, [], true, rfl, rfl, Nat.zero_le _, Lib.hid (Sd.zero l), HO3, HM3, HB3, HS3⟩
  case round =>
    obtain ⟨i, P, ev, rfl, rfl, hi, HDi, HOi, HMi, HBi, HSi⟩ := hrel
    clear HO3 HM3 HB3 HS3
    rcases Nat.lt_or_ge i n with hlt | hge
    · obtain ⟨b2, o, hA, hbl, hok, hget, h0, h1, h2, h3⟩ := HL.out.eo hlt
      subst hA
      have c0 := (HBi.out.cell (p := ⟨b2, o + i * 4, none⟩) hbl).trans h0
      have c1 := (HBi.out.cell (p := ⟨b2, o + i * 4 + 1, none⟩) hbl).trans h1
      have c2 := (HBi.out.cell (p := ⟨b2, o + i * 4 + 2, none⟩) hbl).trans h2
      have c3 := (HBi.out.cell (p := ⟨b2, o + i * 4 + 3, none⟩) hbl).trans h3
      have HG2 := Lib.hid hget
      have HOK := Lib.hid hok
      have HPL := Lib.hid (show P.length ≤ 1000 from by have := HDi.out.fit.len; rw [List.length_take] at this; omega)
      generalize l.getD i enD = e at *
      obtain ⟨t, c, b, u⟩ := e
      simp only at c0 c1 c2 c3
      have hd4 : decide ((i : Int) < (n : Int)) = true := decide_eq_true (by omega)
      have hd5 : decide (i < n) = true := decide_eq_true hlt
      have hi1 : (i : Int) < (n : Int) := by omega
      have hbw := below_new wr (.cells (etC ⟨t, c, b, u⟩) 62)
      have HKk := Lib.hid (Bk.new wr (etC ⟨t, c, b, u⟩) 62)
      have HOk := Lib.hid (HOi.out.below hbw)
      have HMk := Lib.hid (HMi.out.below hbw)
      have HBk := Lib.hid (HBi.out.trans (hbw.mono HBi.out.size))
      have HSk := Lib.hid (Nat.le_trans HSi.out hbw.size)
      have HGK := Lib.hid HSi.out
      clear h0 h1 h2 h3 hbl hok hget hbw
      cases u with
      | false =>
        go_upto_region 7 with fail
        clear c0 c1 c2 c3 HOi HMi HBi HSi
        generalize wr.heap.size = gk at *
        generalize wr.alloc (.cells #[.int .i64 t, .int .i64 c, .int .i64 b, .bool false] 62) = wk at *
        have k0 : wk.cell? ⟨gk, 0, none⟩ = some (.int .i64 t) := HKk.out.c 0 _ rfl
        have k1 : wk.cell? ⟨gk, 1, none⟩ = some (.int .i64 c) := HKk.out.c 1 _ rfl
        have k2 : wk.cell? ⟨gk, 2, none⟩ = some (.int .i64 b) := HKk.out.c 2 _ rfl
        have k3 : wk.cell? ⟨gk, 3, none⟩ = some (.bool false) := HKk.out.c 3 _ rfl
        obtain ⟨V, hkm, hsk⟩ := HMk.out.ex
        have hb7 := below_new wk (.cells #[.int .i64 (i : Int)] 3)
        obtain ⟨st, W1, hE, hg1, hs1, hS⟩ := (hkm.below hb7).entry (by omega) HOK.out.kd
        have t1 : Turn (fun q => q = bm) (wk.alloc (.cells #[.int .i64 (i : Int)] 3)) W1 := (Turn.refl _ _).grown hg1 (fun q e => .inl (by injection e with e; exact e.symm))
        have T1 := Lib.hid (show Turn (fun q => q = bm) wk W1 from (Turn.ofBelow hb7).trans t1)
        have hsk1 := hsk.turn T1.out (fun q h1 _ h2 => by omega)
        have hat : RI.At W1 (some ⟨wk.heap.size, 0, none⟩) [(i : Int)] := (Rk.At.new ri_ok wk (i : Int) 3).turn t1 (fun b o e => .inr (fun h => by injection e with e; injection e with e; have := HSk.out; omega))
        have how := hsk1.own (⟨t, c, b, false⟩ : En).kd
        have hlow : ∀ q, (V (⟨t, c, b, false⟩ : En).kd).ownBlock = some q → bm + 1 ≤ q := fun q e => (how.lt q e).1
        have HE := Lib.hid hE
        have HSS := Lib.hid hS
        have HSK1 := Lib.hid hsk1
        have HAT := Lib.hid hat
        have HOW := Lib.hid how
        have HLOW := Lib.hid hlow
        have HSZ1 := Lib.hid (show bm + 1 ≤ W1.heap.size from Nat.le_trans HSk.out T1.out.size)
        have HKM := Lib.hid (show bm < W1.heap.size from by have := HSZ1.out; omega)
        have HLN := Lib.hid (show (nI (stkO P (⟨t, c, b, false⟩ : En).kd)).length ≤ 1000 from by rw [nI_len]; have h1 := stkO_len (P := P) (k := (⟨t, c, b, false⟩ : En).kd); have := HPL.out; omega)
        clear hkm hsk hb7 hE hg1 hs1 hS t1 hsk1 hat how hlow
        go_upto_region 8 with (first
          | (refine wpList_entry rfl (.tmp 28) (.tmp 29) 114 rfl rfl rfl HE.out ?_)
          | (at_builtin; refine Rk.wpList_append ri_ok rfl (.tmp 30) (.tmp 32) rfl (bm + 1) (V (⟨t, c, b, false⟩ : En).kd) (nI (stkO P (⟨t, c, b, false⟩ : En).kd)) [(i : Int)] rfl HOW.out _ 1 1 rfl HAT.out rfl (.inr ⟨_, _, rfl⟩) (by have := HLN.out; rw [List.length_singleton]; omega) HSZ1.out ?_; intro v5 w5 hx5 hg5 ha5; have HX5 := Lib.hid hx5; have HG5 := Lib.hid hg5; have HA5 := Lib.hid ha5; obtain ⟨W3, hr3, hk3, hg3, hs3⟩ := HSS.out w5 v5 (hg5.block bm HKM.out (fun e => by have := HLOW.out bm e.symm; omega)); have HR3 := Lib.hid hr3; have HK3 := Lib.hid hk3; have HG3 := Lib.hid hg3; clear hx5 hg5 ha5 hr3 hk3 hg3 hs3)
          | (refine wpList_estore rfl (.tmp 28) (.tmp 35) (.tmp 34) 114 rfl rfl rfl rfl HR3.out ?_)
          | fail)
        have t5 : Turn (fun q => (V (⟨t, c, b, false⟩ : En).kd).ownBlock = some q) W1 w5 := (Turn.refl _ _).grown HG5.out (fun q e => .inl e)
        have t3 : Turn (fun q => q = bm) w5 W3 := (Turn.refl _ _).grown HG3.out (fun q e => .inl (by injection e with e; exact e.symm))
        have HT := Lib.hid (show Turn (fun q => bm ≤ q) wk W3 from ((T1.out.mono (fun q e => by omega)).trans (t5.mono (fun q e => by have := HLOW.out q e; omega))).trans (t3.mono (fun q e => by omega)))
        have HO3 := Lib.hid (HOk.out.turn HT.out (fun q e h => by injection e with e; have e : g = q := e; have := HGB.out.1; omega))
        have HB3 := Lib.hid (show Below w.heap.size w W3 from HBk.out.trans (HT.out.below (fun q h => by have := HGB.out; omega) HBk.out.size))
        have HS3 := Lib.hid (show bm + 1 ≤ W3.heap.size from Nat.le_trans HSk.out HT.out.size)
        have HM3 := Lib.hid (show Ms W3 bm (i + 1) (bm + 1) (P ++ [(i, ⟨t, c, b, false⟩)]) from ⟨⟨_, HK3.out, (HSK1.out.step (k0 := (⟨t, c, b, false⟩ : En).kd) (by rw [stkO_push, nI_snoc]; exact HX5.out) t5 (by rcases HA5.out with h | h; exact .inl h; exact .inr ⟨_, h, Nat.le_refl _⟩) (fun k hk => stkO_oth hk)).turn t3 (fun q h1 _ h2 => by omega)⟩, by omega⟩)
        clear t5 t3 k0 k1 k2 k3 HE HSS HSK1 HAT HOW HLOW HX5 HG5 HA5 HR3 HK3 HG3 T1 HLN HKM HSZ1
        have hlq : i < (isO n P).length := by rw [isO_len]; exact hlt
        have g0 := own_bool HO3.out hlq
        have gf := HO3.out.fr i
        have HOS := Lib.hid (show RL.Own (W3.setCell ⟨g, i, none⟩ (.bool true)) g (.slice (some ⟨g, 0, none⟩) n n) (isO n (P ++ [(i, ⟨t, c, b, false⟩)])) from by rw [isO_snoc]; exact own_bool_set HO3.out hlq true)
        have HBS := Lib.hid (show Below w.heap.size w (W3.setCell ⟨g, i, none⟩ (.bool true)) from HB3.out.setCell (by have := HGB.out.2; show _ ≤ g; omega) _)
        have HMS := Lib.hid (show Ms (W3.setCell ⟨g, i, none⟩ (.bool true)) bm (i + 1) (bm + 1) (P ++ [(i, ⟨t, c, b, false⟩)]) from HM3.out.turn (S := fun q => q = g) ((Turn.refl _ _).setCell _ _ (.inl rfl)) (fun q e => by have := HGB.out.1; omega))
        have HSS := Lib.hid (show bm + 1 ≤ (W3.setCell ⟨g, i, none⟩ (.bool true)).heap.size from by simpa [World.setCell] using HS3.out)
        have HDS := Lib.hid (HDi.out.push HG2.out rfl)
        clear hlq
        go_wp2_with fail
        exact ⟨⟨i + 1, _, ev, rfl, rfl, hlt, HDS, HOS, HMS, HBS, HSS⟩, by simp [intOf] <;> omega⟩
      | true =>
        have HAG := Lib.hid (fun V => show Calls Try.prog 40 #[.agg #[.int .i64 t, .int .i64 c, .int .i64 b, .bool true]] V fun r w' => r = .returned (.agg #[.int .i64 t, .int .i64 c, .int .i64 (wneg b), .bool false]) ∧ Below V.heap.size V w' from against_any ⟨t, c, b, true⟩ HOK.out.b V)
        have HKU := Lib.hid (HOK.out.kdU)
        obtain ⟨nb, hnb⟩ : ∃ nb, nb = wneg b := ⟨_, rfl⟩
        have HNB := Lib.hid (show (⟨t, c, b, true⟩ : En).kdU = ⟨t, c, nb⟩ from by rw [hnb]; rfl)
        rw [← hnb] at HAG
        clear hnb
        go_upto_region 9 with fail
        clear c0 c1 c2 c3 HOi HMi HBi HSi
        generalize wr.heap.size = gk at *
        generalize wr.alloc (.cells #[.int .i64 t, .int .i64 c, .int .i64 b, .bool true] 62) = wk at *
        have k0 : wk.cell? ⟨gk, 0, none⟩ = some (.int .i64 t) := HKk.out.c 0 _ rfl
        have k1 : wk.cell? ⟨gk, 1, none⟩ = some (.int .i64 c) := HKk.out.c 1 _ rfl
        have k2 : wk.cell? ⟨gk, 2, none⟩ = some (.int .i64 b) := HKk.out.c 2 _ rfl
        have k3 : wk.cell? ⟨gk, 3, none⟩ = some (.bool true) := HKk.out.c 3 _ rfl
        go_wp2_with fail
        refine (HAG.out _).mono ?_
        rintro r w4 ⟨rfl, hb4⟩
        have hbw := below_new w4 (.cells (etC ⟨t, c, nb, false⟩) 62)
        have hb5 := hb4.trans (hbw.mono hb4.size)
        have HK5 := Lib.hid (Bk.new w4 (etC ⟨t, c, nb, false⟩) 62)
        have HO5 := Lib.hid (HOk.out.below hb5)
        have HM5 := Lib.hid (HMk.out.below hb5)
        have HB5 := Lib.hid (HBk.out.trans (hb5.mono HBk.out.size))
        have HS5 := Lib.hid (Nat.le_trans HSk.out hb5.size)
        have HGZ := Lib.hid (Nat.le_trans HSk.out hb4.size)
        clear hb4 hbw hb5 k0 k1 k2 k3 HAG
        go_upto_region 10 with fail
        clear HOk HMk HBk HSk HKk HGK
        generalize w4.heap.size = gz at *
        generalize w4.alloc (.cells #[.int .i64 t, .int .i64 c, .int .i64 nb, .bool false] 62) = wz at *
        have k0 : wz.cell? ⟨gz, 0, none⟩ = some (.int .i64 t) := HK5.out.c 0 _ rfl
        have k1 : wz.cell? ⟨gz, 1, none⟩ = some (.int .i64 c) := HK5.out.c 1 _ rfl
        have k2 : wz.cell? ⟨gz, 2, none⟩ = some (.int .i64 nb) := HK5.out.c 2 _ rfl
        have k3 : wz.cell? ⟨gz, 3, none⟩ = some (.bool false) := HK5.out.c 3 _ rfl
        obtain ⟨V, hkm, hsk⟩ := HM5.out.ex
        rw [HNB.out] at HKU
        have hlook := hkm.look HKU.out
        have how := hsk.own ⟨t, c, nb⟩
        rcases List.eq_nil_or_concat (stkO P ⟨t, c, nb⟩) with hst | ⟨s, j, hst⟩
        · rw [hst] at how
          obtain ⟨A2, c2, hv, _, _, _⟩ := how.form ri_ok
          rw [hv] at hlook
          have HLK := Lib.hid (show (Instr.lookup 114 (.map (some bm)) (.agg #[.int .i64 t, .int .i64 c, .int .i64 nb, .bool false]) false).run Try.prog wz = .ok (.slice A2 0 c2) wz from hlook)
          have HDS := Lib.hid (HDi.out.lost HG2.out rfl (by rw [HNB.out]; exact hst))
          have HM6 := Lib.hid (show Ms wz bm (i + 1) (bm + 1) P from ⟨⟨V, hkm.mono (Nat.le_succ _), hsk⟩, by omega⟩)
          clear hkm hsk hlook how hst hv
          go_wp2_with (first
            | (refine wpList_look rfl (.tmp 41) (.tmp 42) 114 false rfl rfl rfl HLK.out ?_)
            | fail)
          exact ⟨⟨i + 1, _, false, rfl, rfl, hlt, HDS, HO5, HM6, HB5, HS5⟩, by simp [intOf] <;> omega⟩
        · rw [List.concat_eq_append] at hst
          rw [hst, nI_snoc] at how
          have hpop := stkO_pop (i := i) HDi.out.fit (e := ⟨t, c, b, true⟩) rfl (by rw [HNB.out]; exact hst)
          have hjl : j < i := by have h := hpop.2.1; rw [List.length_take] at h; omega
          obtain ⟨m, hm⟩ : ∃ m, m = (nI s).length := ⟨_, rfl⟩
          obtain ⟨A2, c2, hv, hmc, hat, hA2⟩ := how.form ri_ok
          rw [List.length_append, List.length_singleton, ← hm] at hv hmc
          obtain ⟨b6, o6, he6, _, hc6⟩ := hat.get ri_ok (i := m) (x := (j : Int)) (by rw [hm]; simp)
          obtain ⟨sg, hsg⟩ : ∃ sg, A2 = some ⟨sg, 0, none⟩ := by
            rcases hA2 with h | ⟨g2, h, _⟩
            · rw [h] at he6; cases he6
            · exact ⟨g2, h⟩
          subst hsg
          injection he6 with he6
          injection he6 with he6 he7
          subst he6; subst he7
          have kc : wz.cell? ⟨sg, m, none⟩ = some (.int .i64 (j : Int)) := by have h := hc6 0 _ rfl; rwa [show 0 + (m * RI.m + 0) = m from by show 0 + (m * 1 + 0) = m; omega] at h
          rw [hv] at hlook
          have HLK := Lib.hid (show (Instr.lookup 114 (.map (some bm)) (.agg #[.int .i64 t, .int .i64 c, .int .i64 nb, .bool false]) false).run Try.prog wz = .ok (.slice (some ⟨sg, 0, none⟩) (m + 1) c2) wz from hlook)
          have HDS := Lib.hid (HDi.out.pop HG2.out rfl (by rw [HNB.out]; exact hst))
          have hsgl : bm + 1 ≤ sg := (how.lt sg (by rw [hv]; rfl)).1
          have hmb : m ≤ 1000 := by have h1 := stkO_len (P := P) (k := (⟨t, c, nb⟩ : Kd)); rw [hst, List.length_append] at h1; rw [hm, nI_len]; have := HPL.out; omega
          have HPOP := Lib.hid hpop
          have HSK := Lib.hid hsk
          have HKM := Lib.hid hkm
          have HOW := Lib.hid (show RI.Own wz (bm + 1) (.slice (some ⟨sg, 0, none⟩) (m + 1) c2) (nI s ++ [(j : Int)]) from hv ▸ how)
          have HV := Lib.hid hv
          have HM := Lib.hid hm
          clear hkm hsk hlook how hst hv hat hA2 hc6 hpop hm
          have hwm : IntKind.i64.wrap (((m + 1 : Nat) : Int) - 1) = (m : Int) := by rw [IntKind.wrap_i64]; omega
          have hjn : j < n := by omega
          have hlq : j < (isO n P).length := by rw [isO_len]; exact hjn
          have g0 := own_bool HO5.out hlq
          have gf := HO5.out.fr j
          have HNE := Lib.hid (show g < bm ∧ bm < gz from ⟨HGB.out.1, by have := HGZ.out; omega⟩)
          go_upto_region 15 with (first
            | (refine wpList_look rfl (.tmp 41) (.tmp 42) 114 false rfl rfl rfl HLK.out ?_)
            | fail)
          have tw : Turn (fun q => q = g) wz (wz.setCell ⟨g, j, none⟩ (.bool false)) := (Turn.refl _ _).setCell _ _ (.inl rfl)
          have HO6 := Lib.hid (show RL.Own (wz.setCell ⟨g, j, none⟩ (.bool false)) g (.slice (some ⟨g, 0, none⟩) n n) (isO n (P.filter fun p => !decide (p.1 = j))) from by rw [isO_cut]; exact own_bool_set HO5.out hlq false)
          have HB6 := Lib.hid (show Below w.heap.size w (wz.setCell ⟨g, j, none⟩ (.bool false)) from HB5.out.setCell (by have := HGB.out.2; show _ ≤ g; omega) _)
          have HSK6 := Lib.hid (HSK.out.turn tw (fun q h1 _ h2 => by have := HGB.out.1; omega))
          have HKM6 := Lib.hid (HKM.out.turn tw (fun h => by have := HGB.out.1; omega))
          have HOW6 := Lib.hid (HOW.out.turn tw (fun q e h => by injection e with e; have e : sg = q := e; have := HGB.out.1; omega))
          have HK6 := Lib.hid (HK5.out.turn tw (fun h => by have := HNE.out; omega))
          have HS6 := Lib.hid (show bm + 1 ≤ (wz.setCell ⟨g, j, none⟩ (.bool false)).heap.size from by simpa [World.setCell] using HS5.out)
          clear tw kc g0 gf k0 k1 k2 k3 hlq HLK HSK HKM HOW HK5 HO5 HM5 HB5 HS5
          generalize wz.setCell ⟨g, j, none⟩ (.bool false) = ws at *
          obtain ⟨W9, hr9, hk9, hg9, hs9⟩ := (show Km (World.drew ws) bm i V from HKM6.out).upd (by omega) HKU.out (.slice (some ⟨sg, 0, none⟩) m c2)
          have t9 : Turn (fun q => q = bm) ws W9 := ((Turn.refl (fun q => q = bm) ws).drew).grown hg9 (fun q e => .inl (by injection e with e; exact e.symm))
          have HR9 := Lib.hid (show (Instr.mapUpdate 114 (.map (some bm)) (.agg #[.int .i64 t, .int .i64 c, .int .i64 nb, .bool false]) (.slice (some ⟨sg, 0, none⟩) m c2)).run Try.prog (World.drew ws) = .ok () W9 from hr9)
          have T9 := Lib.hid t9
          have hcut := (HOW6.out.cut ri_ok (k := m) (by omega))
          rw [List.take_left' HM.out.symm] at hcut
          have hsk9 := (HSK6.out.step (W' := ws) (P' := P.filter fun p => !decide (p.1 = j)) (k0 := ⟨t, c, nb⟩) (v := .slice (some ⟨sg, 0, none⟩) m c2) (by have h := HPOP.out.2.2.1; rw [HNB.out] at h; rw [h]; exact hcut) (Turn.refl _ _) (.inl (by rw [HV.out]; rfl)) (fun k hk => HPOP.out.2.2.2 k (by rw [HNB.out]; exact hk))).turn t9 (fun q h1 _ h2 => by omega)
          have HM9 := Lib.hid (show Ms W9 bm (i + 1) (bm + 1) (P.filter fun p => !decide (p.1 = j)) from ⟨⟨_, hk9, hsk9⟩, by omega⟩)
          have HO9 := Lib.hid (HO6.out.turn t9 (fun q e h => by injection e with e; have e : g = q := e; have := HGB.out.1; omega))
          have HB9 := Lib.hid (show Below w.heap.size w W9 from HB6.out.trans (t9.below (fun q h => by have := HGB.out; omega) HB6.out.size))
          have HS9 := Lib.hid (show bm + 1 ≤ W9.heap.size from Nat.le_trans HS6.out t9.size)
          have hne : ¬ (gz = bm) := by have := HNE.out; omega
          have k0 : ws.cell? ⟨gz, 0, none⟩ = some (.int .i64 t) := HK6.out.c 0 _ rfl
          have k1 : ws.cell? ⟨gz, 1, none⟩ = some (.int .i64 c) := HK6.out.c 1 _ rfl
          have k2 : ws.cell? ⟨gz, 2, none⟩ = some (.int .i64 nb) := HK6.out.c 2 _ rfl
          have k3 : ws.cell? ⟨gz, 3, none⟩ = some (.bool false) := HK6.out.c 3 _ rfl
          clear hr9 hk9 hg9 hs9 t9 hcut hsk9 hwm
          refine wp_region_turn (X := (fun q => q = bm)) (by kernel_rfl) ?_
          have hS : Turn (fun q => q = bm) ws (World.drew ws) := (Turn.refl _ _).drew
          refine wpAnyH_take (i := 0) (oi := ⟨some 56, _, _, _, _, _⟩) (v := ?_) rfl (by kernel_rfl) (by kernel_rfl) (by kernel_rfl) (fun _ _ _ h => h) (Or.inl ⟨by rfl, ?_⟩) hS ?_
          rotate_left
          · intro W hW; go_simp; with_reducible rfl
          try simp only [Act.put, List.setIfInBounds_toArray, List.set_cons_zero, List.set_cons_succ]
          refine wpAnyH_take (i := 1) (oi := ⟨some 57, _, _, _, _, _⟩) (v := ?_) rfl (by kernel_rfl) (by kernel_rfl) (by kernel_rfl) (fun _ _ _ h => h) (Or.inl ⟨by rfl, ?_⟩) hS ?_
          rotate_left
          · intro W hW
            have q0 := hW.cell k0 hne
            have q1 := hW.cell k1 hne
            have q2 := hW.cell k2 hne
            have q3 := hW.cell k3 hne
            go_simp
            with_reducible rfl
          try simp only [Act.put, List.setIfInBounds_toArray, List.set_cons_zero, List.set_cons_succ]
          refine wpAnyH_take (i := 2) (oi := ⟨some 58, _, _, _, _, _⟩) (v := ?_) rfl (by kernel_rfl) (by kernel_rfl) (by kernel_rfl) (fun _ _ _ h => h) (Or.inl ⟨by rfl, ?_⟩) hS ?_
          rotate_left
          · intro W hW; go_simp; with_reducible rfl
          try simp only [Act.put, List.setIfInBounds_toArray, List.set_cons_zero, List.set_cons_succ]
          refine wpAnyH_take (i := 3) (oi := ⟨some 59, _, _, _, _, _⟩) (v := ?_) rfl (by kernel_rfl) (by kernel_rfl) (by kernel_rfl) (fun _ _ _ h => h) (Or.inl ⟨by rfl, ?_⟩) hS ?_
          rotate_left
          · intro W hW; go_simp; with_reducible rfl
          try simp only [Act.put, List.setIfInBounds_toArray, List.set_cons_zero, List.set_cons_succ]
          refine wpAnyH_take (i := 4) (oi := ⟨some 60, _, _, _, _, _⟩) (v := .slice (some ⟨sg, 0, none⟩) m c2) rfl (by kernel_rfl) (by kernel_rfl) (by kernel_rfl) (fun _ _ _ h => h) (Or.inl ⟨by rfl, fun W hW => by have hcut := run_cut_int sg (m + 1) c2 m (by omega) (by omega) W; go_simp⟩) hS ?_
          try simp only [Act.put, List.setIfInBounds_toArray, List.set_cons_zero, List.set_cons_succ]
          refine wpAnyH_ready (rs := [5]) (by kernel_rfl) (by simp) ?_
          refine AllReadyH.cons (o := ⟨none, _, _, _, _, _⟩) rfl (fun Kr hKr => ?_) AllReadyH.nil
          -- operation 5: a step
          refine wp_upd (.tmp 56) (.tmp 57) (.tmp 60) 114 rfl rfl rfl rfl HR9.out ?_
          show Kr _ _
          refine hKr.out _ _ ?_ (fun _ => ?_)
          · exact T9.out
          clear hKr Kr
          replace hS : Turn (fun q => q = bm) ws W9 := T9.out
          try simp only [Act.put, List.setIfInBounds_toArray, List.set_cons_zero, List.set_cons_succ]
          refine wpAnyH_done (by kernel_rfl) ?_ _
          clear hS k0 k1 k2 k3
          go_wp2_with fail
          exact ⟨⟨i + 1, _, ev, rfl, rfl, hlt, HDS, HO9, HM9, HB9, HS9⟩, by simp [intOf] <;> omega⟩
    · obtain rfl : i = n := by omega
      have hd4 : decide ((i : Int) < (i : Int)) = false := decide_eq_false (by omega)
      have hd5 : decide (i < i) = false := decide_eq_false (by omega)
      go_wp2_with fail
      go_ret2
      exact ⟨HBi.out, P, ev, g, rfl, HDi.out, HOi.out.le (by have := HGB.out; omega)⟩
end Go.Proofs.Ytpphhhalmccnbaa
