/-
  The kids of each, the last to end first: what the library sorts and the map holds.
-/
import Derived.Test.YtohnfjneghbceaaMp
import Derived.Maps.AppendAt
import Derived.Carry
namespace Go.Proofs.Ytohnfjneghbceaa
set_option maxRecDepth 100000
set_option linter.unusedVariables false
open Go.RowKit Go.Shelf Go.Sort Go.Maps

/-- 'append(ids, x)', as an equation -/
theorem run_append_id {w : World} {base : Nat} {v : Value} {l : List Nat} (hown : OwnId w base v l) (g z : Nat) (hc : w.cell? ⟨g, 0, none⟩ = some (.int .i64 (z : Int))) (hlen : l.length ≤ 100000) (hbase : base ≤ w.heap.size) (ty : TypeId) :
    ∃ v' w', (Builtin.append_ #[28, 28] ty #[v, .slice (some ⟨g, 0, none⟩) 1 1]).run Try.prog w = .ok v' w' ∧ OwnId w' base v' (l ++ [z]) ∧ w.grownBy w' v.ownBlock ∧ (v'.ownBlock = v.ownBlock ∨ v'.ownBlock = some w.heap.size) := by
  obtain ⟨i0, hi, hz, hs1, hb⟩ := parts_of int_facts
  obtain ⟨v', w', h1, h2, h3, _, h5⟩ := run_append_own_at w base 28 ty 3 i0 (.int .i64 0) 1 8 Try.underlying28 hi hz hs1 hb rfl (by decide) v l.length (idC l) hown ⟨g, 0, none⟩ 1 1 [.int .i64 (z : Int)] rfl (fun j u hu => by
    match j, hu with
    | 0, hu => injection hu with hu; subst hu; exact hc
    | j + 1, hu => simp at hu) (by simp [Value.oneCell']) (by unfold maxLen; omega) (by omega) hbase
  refine ⟨v', w', h1, ?_, h3, h5⟩
  unfold OwnId idC
  rw [List.length_append, List.map_append]
  exact h2

/-- all that are done -/
def Tr.dn (T : Tr) (n : Nat) : List Nat := (List.range n).filter (fun j => decide ((T.tx j).s = 2))
theorem dn_succ (T : Tr) (n : Nat) : T.dn (n + 1) = if (T.tx n).s = 2 then T.dn n ++ [n] else T.dn n := by
  unfold Tr.dn
  rw [List.range_succ, List.filter_append]
  by_cases h : (T.tx n).s = 2
  · rw [if_pos h]; simp [h]
  · rw [if_neg h]; simp [h]
theorem dn_len (T : Tr) (n : Nat) : (T.dn n).length ≤ n := by unfold Tr.dn; have := List.length_filter_le (fun j => decide ((T.tx j).s = 2)) (List.range n); simpa using this
theorem mem_dn {T : Tr} {n x : Nat} : x ∈ T.dn n ↔ x < n ∧ (T.tx x).s = 2 := by unfold Tr.dn; rw [List.mem_filter, List.mem_range]; simp
theorem dn_nodup (T : Tr) (n : Nat) : (T.dn n).Nodup := List.Pairwise.filter _ List.nodup_range

/-- sorted whatever it holds -/
theorem sorted_any (A : Option Addr) (T : Tr) (N k : Nat) (c : Int) (g base : Nat) (v : Value) (L0 : List Nat) (hN : T.l.length = N) (hn64 : N ≤ 64) (hL : ∀ x ∈ L0, x < N) (hlen : L0.length ≤ 64) (w : World) (hT : TB w g A N k c) (hX : TxAt w A T.l) (hgq : g < base) (hAq : ∀ b o, A = some ⟨b, o, none⟩ → b < base)
    (hO : OwnId w base v L0) :
    Calls Try.prog 58 #[v, .func (.func 59) #[] #[.pointer (some ⟨g, 0, none⟩)]] w fun e w' => e = .returned (.tuple #[]) ∧ Turn (fun b => base ≤ b) w w' ∧ ∃ A' c' L, v = .slice A' L.length c' ∧ L.Perm L0 ∧ Sd T L ∧ IdAt w' A' L := by
  obtain ⟨A', c', rfl, hI, hb⟩ := hO.form
  rcases Nat.eq_zero_or_pos L0.length with h0 | h0
  · have e0 : L0 = [] := List.eq_nil_of_length_eq_zero h0
    subst e0
    refine Calls.mono (AnyF.slices_SortFunc_none (P := Try.prog) (ρ := Try.sortL_ren) { Try.sortL with } A' c' (.func (.func 59) #[] #[.pointer (some ⟨g, 0, none⟩)]) w) ?_
    rintro e w' ⟨rfl, rfl⟩
    exact ⟨rfl, Turn.refl _ _, A', c', [], rfl, List.Perm.refl _, List.Pairwise.nil, hI⟩
  · rcases hO.2 with ⟨e, h1⟩ | ⟨q, cap, cur, e, hq, _⟩
    · omega
    · injection e with e1 e2 e3
      subst e1
      refine Calls.mono (sort_any A T N k c g q c' L0 hN hn64 hL hlen h0 w hT hX (by omega) (fun b o e => by have := hAq b o e; omega) hI (fun j hj => World.ownsRow.frozenAt hO j)) ?_
      rintro e w' ⟨rfl, ht, L, hp, hs, hi⟩
      exact ⟨rfl, ht.mono (fun b e => by omega), _, c', L, by rw [hp.length_eq], hp, hs, hi⟩

/-- so sorted they are what goes down -/
theorem Lo.of {T : Tr} (hG : Good T) {N : Nat} (hN : T.l.length = N) {L : List Nat} (hp : L.Perm (T.dn N)) (hs : Sd T L) : Lo T L := by
  have hm : ∀ x, x ∈ L ↔ x < T.l.length ∧ (T.tx x).s = 2 := fun x => by rw [hp.mem_iff, mem_dn, hN]
  refine ⟨hp.nodup_iff.2 (dn_nodup T N), hm, ?_⟩
  have hnd : L.Nodup := hp.nodup_iff.2 (dn_nodup T N)
  have h2 := List.Pairwise.and_mem.1 (List.Pairwise.and hnd hs)
  refine h2.imp ?_
  rintro x y ⟨hx, hy, hne, hn⟩
  have hx2 := (hm x).1 hx
  have hy2 := (hm y).1 hy
  by_cases he : (T.tx x).e = (T.tx y).e
  · exfalso
    rcases Nat.lt_or_ge x y with h | h
    · have := hG.apart x y h hy2.1 (by rw [hx2.2]; decide) (by rw [hy2.2]; decide) he
      rw [hx2.2] at this; exact absurd this.1 (by decide)
    · have := hG.apart y x (by omega) hx2.1 (by rw [hy2.2]; decide) (by rw [hx2.2]; decide) he.symm
      rw [hx2.2] at this; exact absurd this.2 (by decide)
  · omega

theorem wp_append_ {P : Program} {o : Oper} {a : Act} {w w' : World} {K : Act → World → Prop} {Q : Exit → Act → World → Prop} (s x : Operand) (t : TypeId) (ho : o.op = .call { callee := .builtin .append, args := #[s, x], argTypes := #[t, t] }) {y z v : Value} (hs : a.eval s = y) (hx : a.eval x = z)
    (hrun : (Builtin.append_ #[t, t] o.type #[y, z]).run P w = .ok v w') (h : K (a.put o.dst v) w') : o.wp P a w K Q := by
  unfold Oper.wp
  simp [execOp, ho, resolve, invoke, builtin, hs, hx, hrun, Result.andThen]
  exact h
theorem wp_upd {P : Program} {o : Oper} {a : Act} {w w' : World} {K : Act → World → Prop} {Q : Exit → Act → World → Prop} (m x v : Operand) (t : TypeId) (ho : o.op = Op.mapUpdate t m x v) {y z u : Value} (hm : a.eval m = y) (hx : a.eval x = z) (hv : a.eval v = u)
    (hrun : (Instr.mapUpdate t y z u).run P w = .ok () w') (h : K (a.put o.dst undef) w') : o.wp P a w K Q := by
  unfold Oper.wp
  simp [execOp, ho, hm, hx, hv, hrun, Result.andThen]
  exact h

theorem kids_take {T : Tr} {L : List Nat} {i x : Nat} (hx : L[i]? = some x) (q : Int) : kids T (L.take (i + 1)) q = if q = (T.tx x).p then kids T (L.take i) q ++ [x] else kids T (L.take i) q := by
  unfold kids
  rw [List.take_add_one, hx, List.filter_append]
  by_cases h : q = (T.tx x).p
  · subst h; simp
  · rw [if_neg h]
    have h' : ¬ (T.tx x).p = q := fun e => h e.symm
    simp [h']

/-- the rows that the map holds -/
structure Rws (T : Tr) (W : World) (b : Nat) (V : Int → Value) (L : List Nat) : Prop where
  own : ∀ p, OwnId W (b + 1) (V p) (kids T L p)
  apart : ∀ p q k, (V p).ownBlock = some k → (V q).ownBlock = some k → p = q

theorem Rws.turn {T : Tr} {W W' : World} {b : Nat} {V : Int → Value} {L : List Nat} {S : Nat → Prop} (h : Rws T W b V L) (ht : Turn S W W') (hS : ∀ k, b < k → ¬ S k) : Rws T W' b V L :=
  ⟨fun p => (h.own p).turn ht (fun k e => hS k (by have := ((h.own p).lt k e).1; omega)), h.apart⟩

theorem Rws.step {T : Tr} {wa w5 w6 : World} {b i x : Nat} {V : Int → Value} {L : List Nat} (hx : L[i]? = some x) (h : Rws T wa b V (L.take i)) {v5 : Value} (ho5 : OwnId w5 (b + 1) v5 (kids T (L.take i) (T.tx x).p ++ [x])) (hg5 : wa.grownBy w5 (V (T.tx x).p).ownBlock)
    (hat5 : v5.ownBlock = (V (T.tx x).p).ownBlock ∨ v5.ownBlock = some wa.heap.size) (hg6 : w5.grownBy w6 (some b)) : Rws T w6 b (fun q => if q = (T.tx x).p then v5 else V q) (L.take (i + 1)) := by
  have t6 : Turn (fun k => k = b) w5 w6 := (Turn.refl _ w5).grown hg6 (fun j e => .inl (by injection e with e; exact e.symm))
  have t5 : Turn (fun k => (V (T.tx x).p).ownBlock = some k) wa w5 := (Turn.refl _ wa).grown hg5 (fun j e => .inl e)
  have lt5 : ∀ q k, (V q).ownBlock = some k → k < wa.heap.size := fun q k e => ((h.own q).lt k e).2
  refine ⟨fun q => ?_, fun q r k e1 e2 => ?_⟩
  · rw [kids_take hx]
    by_cases hq : q = (T.tx x).p
    · subst hq
      simp only [if_true]
      exact ho5.turn t6 (fun k e => by have := (ho5.lt k e).1; omega)
    · simp only [if_neg hq]
      have h5 := (h.own q).turn t5 (fun k e e' => hq (h.apart _ _ k e e'))
      exact h5.turn t6 (fun k e => by have := (h5.lt k e).1; omega)
  · have key : ∀ q, ¬ q = (T.tx x).p → ∀ k, v5.ownBlock = some k → (V q).ownBlock = some k → False := fun q hq k e e' => by
      rcases hat5 with h1 | h1
      · exact hq (h.apart _ _ k e' (by rw [← h1]; exact e))
      · rw [h1] at e
        injection e with e
        have := lt5 q k e'
        omega
    by_cases hq : q = (T.tx x).p
    · by_cases hr : r = (T.tx x).p
      · rw [hq, hr]
      · simp only [if_pos hq, if_neg hr] at e1 e2
        exact (key r hr k e1 e2).elim
    · by_cases hr : r = (T.tx x).p
      · simp only [if_neg hq, if_pos hr] at e1 e2
        exact (key q hq k e2 e1).elim
      · simp only [if_neg hq, if_neg hr] at e1 e2
        exact h.apart _ _ k e1 e2

set_option maxHeartbeats 4000000 in
theorem piles_any (A : Option Addr) (T : Tr) (N cap : Nat) (c : Int) (hN : T.l.length = N) (hG : Good T) (w : World) (hT : TxAt w A T.l) :
    Calls Try.prog 36 #[.agg #[.slice A N cap, .int .i64 c]] w fun e w' => ∃ b n V L, e = .returned (.map (some b)) ∧ w.heap.size ≤ b ∧ MpAt w' b n V ∧ Lo T L ∧ Below w.heap.size w w' ∧ Rws T w' b V L := by
  have hn64 : N ≤ 64 := by have := hG.n; omega
  have hb0 := below_new w (.cells #[.slice A N cap, .int .i64 c] 26)
  have ht0 := TB.new w A N cap c
  have k0 := ht0.c0
  have HG := Lib.hid hG
  have HN := Lib.hid hN
  have HT := Lib.hid hT
  have HB0 := Lib.hid hb0
  have HT0 := Lib.hid ht0
  clear hG hN hT hb0 ht0
  go_enter Try.func36, Try.ntmps36
  have hs0 : (w.alloc (.cells #[.slice A N cap, .int .i64 c] 26)).heap.size = w.heap.size + 1 := by simp
  have HS0 := Lib.hid hs0
  clear hs0
  go_upto_region 1 with fail
  generalize w.alloc (.cells #[.slice A N cap, .int .i64 c] 26) = w0 at *
  have HL0 := Lib.hid (show w.heap.size + 1 ≤ w0.heap.size by rw [HS0.out]; exact Nat.le_refl _)
  clear HS0
  go_wp2_with fail
  go_loopw [3, 12] (fun ids iv wr => ∃ (j : Nat), iv = .int .i64 (j : Int) ∧ j ≤ N ∧ Hid (OwnId wr (w.heap.size + 1) ids (T.dn j)) ∧ Hid (Below w.heap.size w wr) ∧ Hid (TB wr w.heap.size A N cap c) ∧ Hid (w.heap.size + 1 ≤ wr.heap.size)) (fun _ iv _ => N - (intOf iv).toNat)
  case atStart => exact ⟨0, rfl, Nat.zero_le _, OwnId.nil _ _, HB0.out, HT0.out, HL0.out⟩
  case round =>
    obtain ⟨j, rfl, hj, hown, hbl, htb, hsz⟩ := hrel
    clear HB0 HT0 HL0
    rcases Nat.lt_or_ge j N with hlt | hge
    · have hjl : j < T.l.length := by rw [HN.out]; exact hlt
      obtain ⟨b, hAe, hb, q0, q1, q2, q3⟩ := (HT.out.below hbl.out).get hjl
      subst hAe
      have HBB := Lib.hid hb
      obtain ⟨xp, hxp⟩ : ∃ q, q = (T.tx j).p := ⟨_, rfl⟩
      obtain ⟨xs, hxs⟩ : ∃ q, q = (T.tx j).s := ⟨_, rfl⟩
      obtain ⟨xb, hxb⟩ : ∃ q, q = (T.tx j).b := ⟨_, rfl⟩
      obtain ⟨xe, hxe⟩ : ∃ q, q = (T.tx j).e := ⟨_, rfl⟩
      rw [← hxp] at q0
      rw [← hxs] at q1
      rw [← hxb] at q2
      rw [← hxe] at q3
      have HXS := Lib.hid hxs
      clear hxp hxs hxb hxe hb hjl
      obtain ⟨wz, hwz⟩ : ∃ wz, wz = wr := ⟨_, rfl⟩
      subst hwz
      go_upto_region 5 with (first | (refine wpList_store_x rfl (.tmp 5) (.tmp 16) rfl rfl (y := ⟨xp, xs, xb, xe⟩) rfl (XB.new wz) ?_; intro w1 hx1 hg1; have HX1 := Lib.hid hx1; have HG1 := Lib.hid hg1; clear hx1 hg1) | fail)
      have hb1 : Below wz.heap.size wz w1 := (below_new wz _).grown HG1.out (by simp) (fun k e => by injection e with e; omega)
      have HB1 := Lib.hid hb1
      have x1 := HX1.out.c1
      simp only at x1
      clear q0 q1 q2 q3 hb1
      by_cases h2 : xs = 2
      · have h2b : (xs == 2) = true := by simpa using h2
        have H2 := Lib.hid h2
        clear h2
        go_wp2_with (first | (at_builtin; refine wpList_append_id rfl _ _ rfl (w.heap.size + 1) _ (T.dn j) rfl ((hown.out.below HB1.out).below (below_new _ _)) _ j rfl ((cell_new w1 _ _ 0).trans rfl) (by have := dn_len T j; omega) (Nat.le_trans hsz.out (Nat.le_trans HB1.out.size (by simp))) ?_; intro v' w5 hown5 hg5 hat5; have HO5 := Lib.hid hown5; have HG5 := Lib.hid hg5; clear hown5 hg5 hat5) | fail)
        go_roundw
        case rel =>
          have t5 : Turn (fun r => w.heap.size + 1 ≤ r) wz w5 := ((Turn.ofBelow HB1.out).alloc _).grown HG5.out (fun r e => .inl (hown.out.lt r e).1)
          exact ⟨j + 1, rfl, by omega, by rw [dn_succ, if_pos (by rw [← HXS.out]; exact H2.out)]; exact HO5.out, hbl.out.trans (t5.below (fun k e => by omega) hbl.out.size), htb.out.turn t5 (by omega), Nat.le_trans hsz.out t5.size⟩
        case measure => simp [intOf]; omega
      · have h2b : (xs == 2) = false := by simpa using h2
        have H2 := Lib.hid h2
        clear h2
        go_wp2
        go_roundw
        case rel => exact ⟨j + 1, rfl, by omega, by rw [dn_succ, if_neg (by rw [← HXS.out]; exact H2.out)]; exact hown.out.below HB1.out, hbl.out.trans (HB1.out.mono hbl.out.size), htb.out.below HB1.out, Nat.le_trans hsz.out HB1.out.size⟩
        case measure => simp [intOf]; omega
    · obtain rfl : j = N := by omega
      have hso := sorted_any A T j cap c w.heap.size (w.heap.size + 1) _ (T.dn j) HN.out hn64 (fun x hx => (mem_dn.1 hx).1) (by have := dn_len T j; omega) wr htb.out (HT.out.below hbl.out) (by omega) (fun b o e => by rcases HT.out with ⟨h, _⟩ | ⟨q', e', h, _⟩; (rw [h] at e; cases e); (rw [e'] at e; injection e with e; injection e with e; omega)) hown.out
      have HSO := Lib.hid hso
      clear hso
      go_wp2_with fail
      refine HSO.out.mono ?_
      rintro e w3 ⟨rfl, ht3, A3, c3, L, rfl, hp, hs, hi⟩
      have HW3 := Lib.hid (hbl.out.trans (ht3.below (fun k e => by omega) hbl.out.size))
      have HTB3 := Lib.hid (htb.out.turn ht3 (by omega))
      have hn3 : w.heap.size + 1 ≤ w3.heap.size := Nat.le_trans hsz.out ht3.size
      have HP := Lib.hid hp
      have HS := Lib.hid hs
      have HI3 := Lib.hid hi
      have hLn : L.length ≤ 64 := by rw [hp.length_eq]; have := dn_len T j; omega
      clear ht3 hp hs hi hbl htb hown HSO hsz k0
      obtain ⟨b, hb⟩ : ∃ b, b = w3.heap.size := ⟨_, rfl⟩
      have hbn := below_new w3 (.map #[] 0)
      have HM4 := Lib.hid (show MpAt (w3.alloc (.map #[] 0)) b 0 (fun _ => nilId) from by rw [hb]; exact MpAt.made w3)
      have HTB4 := Lib.hid (HTB3.out.below hbn)
      have HI4 := Lib.hid (HI3.out.below hbn)
      have HW4 := Lib.hid (HW3.out.trans (hbn.mono HW3.out.size))
      have HBL := Lib.hid (show b + 1 ≤ (w3.alloc (.map #[] 0)).heap.size by rw [hb]; simp)
      have HBW := Lib.hid (show w.heap.size + 1 ≤ b by rw [hb]; exact hn3)
      have HAL := Lib.hid (show ∀ q o, A3 = some ⟨q, o, none⟩ → q < b from fun q o e => by rw [hb]; rcases HI3.out with ⟨h, _⟩ | ⟨q', e', h, _⟩; (rw [h] at e; cases e); (rw [e'] at e; injection e with e; injection e with e; omega))
      clear hbn HTB3 HI3 HW3 hn3
      have hmk : (Instr.makeMap 73 none).run Try.prog w3 = .ok (.map (some b)) (w3.alloc (.map #[] 0)) := by rw [hb]; exact run_makeMap _ w3
      go_upto_region 10 with fail
      rw [← hb]
      clear hb hmk
      generalize w3.alloc (.map #[] 0) = w4 at *
      have HR4 := Lib.hid (show Rws T w4 b (fun _ => nilId) (L.take 0) from ⟨fun p => OwnId.nil _ _, fun p q k e => by cases e⟩)
      go_wp2_with fail
      go_loopw [31] (fun iv wr => ∃ (i : Nat) (V : Int → Value), iv = .int .i64 (i : Int) ∧ i ≤ L.length ∧ Hid (MpAt wr b i V) ∧ Hid (Rws T wr b V (L.take i)) ∧ Hid (Turn (fun k => b ≤ k) w4 wr)) (fun iv _ => L.length - (intOf iv).toNat)
      case atStart => exact ⟨0, _, rfl, Nat.zero_le _, HM4.out, HR4.out, Turn.refl _ _⟩
      case round =>
        obtain ⟨i, V, rfl, hi, hm, hr, ht⟩ := hrel
        clear HM4 HR4
        rcases Nat.lt_or_ge i L.length with hlt | hge2
        · obtain ⟨wz, hwz⟩ : ∃ wz, wz = wr := ⟨_, rfl⟩
          subst hwz
          have HTBz := Lib.hid (HTB4.out.turn ht.out (by have := HBW.out; omega))
          have HWz := Lib.hid (HW4.out.trans (ht.out.below (fun k e => by have := HBW.out; omega) HW4.out.size))
          obtain ⟨q3, hA3, hq3, cx⟩ := (HI4.out.turn ht.out (fun q o e => by have := HAL.out q o e; omega)).get hlt
          obtain ⟨x, hx⟩ : ∃ x, x = L[i] := ⟨_, rfl⟩
          rw [← hx] at cx
          have hxl : L[i]? = some x := by rw [List.getElem?_eq_getElem hlt, hx]
          have hxm : x < T.l.length ∧ (T.tx x).s = 2 := by have h := (HP.out.mem_iff).1 (List.mem_of_getElem? hxl); have h2 := mem_dn.1 h; exact ⟨by rw [HN.out]; exact h2.1, h2.2⟩
          have HXL := Lib.hid hxl
          obtain ⟨b', hAe, hb', p0, _, _, _⟩ := (HT.out.below HWz.out).get hxm.1
          subst hA3
          subst hAe
          have hpb := HG.out.par x hxm.1
          obtain ⟨p, hp⟩ : ∃ p, p = (T.tx x).p := ⟨_, rfl⟩
          rw [← hp] at p0 hpb
          have HPX := Lib.hid hp
          have hbw : b' < b := by rcases HT.out.lt b' 0 rfl with h | h; (rw [h] at hxm; simp at hxm); (have := HBW.out; omega)
          have hp64 : -1 ≤ p ∧ p ≤ 64 := by have h := hxm.1; rw [HN.out] at h; omega
          have hxN : x < j := by have h := hxm.1; rw [HN.out] at h; exact h
          clear hx hxl hxm hp hpb
          go_upto_region 13 with fail
          have hat : Turn (fun _ => False) wz ((World.drew wz).alloc (.cells #[.int .i64 (x : Int)] 3)) := (Turn.refl _ wz).drew.alloc _
          have hm1 := hm.out.turn hat (fun h => h)
          have hr1 := hr.out.turn hat (fun _ _ h => h)
          have hl0 : (Instr.lookup 73 (.map (some b)) (.int .i64 p) false).run Try.prog (World.drew wz) = .ok (V p) (World.drew wz) := MpAt.look (W := World.drew wz) (hm.out.turn ((Turn.refl (fun _ => False) wz).drew) (fun h => h)) p hp64.1 hp64.2
          have hl1 : (Instr.lookup 73 (.map (some b)) (.int .i64 p) false).run Try.prog (World.drew (wz.alloc (.cells #[.int .i64 (x : Int)] 3))) = .ok (V p) (World.drew (wz.alloc (.cells #[.int .i64 (x : Int)] 3))) := hm1.look p hp64.1 hp64.2
          obtain ⟨v5, w5, hrun, ho5, hg5, hat5⟩ := run_append_id (hr1.own p) (World.drew wz).heap.size x ((cell_new (World.drew wz) _ _ 0).trans rfl) (by have h := List.length_filter_le (fun x => decide ((T.tx x).p = p)) (L.take i); have h2 := List.length_take_le i L; unfold kids; omega) (Nat.le_trans HBL.out (Nat.le_trans ht.out.size hat.size)) 28
          have t5 : Turn (fun k => b + 1 ≤ k) ((World.drew wz).alloc (.cells #[.int .i64 (x : Int)] 3)) w5 := (Turn.refl _ _).grown hg5 (fun k e => .inl ((hr1.own p).lt k e).1)
          obtain ⟨w6, hrun2, hm6, hg6⟩ := (hm1.turn t5 (by omega)).upd (by omega) p hp64.1 hp64.2 v5
          have hr6 := Rws.step HXL.out hr1 (v5 := v5) (by rw [← HPX.out]; exact ho5) (by rw [← HPX.out]; exact hg5) (by rw [← HPX.out]; exact hat5) hg6
          rw [← HPX.out] at hr6
          have HO1 := Lib.hid (hr1.own p)
          have HRUN := Lib.hid hrun
          have HRUN2 := Lib.hid hrun2
          have HG5 := Lib.hid hg5
          have HG6 := Lib.hid hg6
          have HM6 := Lib.hid hm6
          have HR6 := Lib.hid hr6
          have HT6 := Lib.hid (((ht.out.trans ((Turn.refl (fun k => b ≤ k) wz).drew.alloc _)).trans (t5.mono (fun k h => by omega))).grown hg6 (fun k e => .inl (by injection e with e; omega)))
          obtain ⟨vp, hvp⟩ : ∃ vp, vp = V p := ⟨_, rfl⟩
          rw [← hvp] at hl0 hl1 HRUN HG5 HO1
          clear hat hm1 hr1 hrun ho5 hg5 hat5 t5 hrun2 hm6 hg6 hr6 hvp
          have k0 := fun U (h : Turn (fun k => b ≤ k) wz U) => (HTBz.out.turn h (by have := HBW.out; omega)).c0
          have pp := fun U (h : Turn (fun k => b ≤ k) wz U) => h.cell p0 (by show ¬ b ≤ b'; omega)
          clear p0
          refine wp_region_turn (X := (fun k => b ≤ k)) (by kernel_rfl) ?_
          have hS : Turn (fun k => b ≤ k) wz (World.drew wz) := (Turn.refl _ _).drew
          refine wpAnyH_take (i := 0) (oi := ⟨some 35, _, _, _, _, _⟩) (v := ?_) rfl (by kernel_rfl) (by kernel_rfl) (by kernel_rfl) (fun _ _ _ h => h) (Or.inl ⟨by rfl, ?_⟩) hS ?_
          rotate_left
          · intro W hW; go_simp; with_reducible rfl
          try simp only [Act.put, List.setIfInBounds_toArray, List.set_cons_zero, List.set_cons_succ]
          refine wpAnyH_take (i := 1) (oi := ⟨some 36, _, _, _, _, _⟩) (v := ?_) rfl (by kernel_rfl) (by kernel_rfl) (by kernel_rfl) (fun _ _ _ h => h) (Or.inl ⟨by rfl, ?_⟩) hS ?_
          rotate_left
          · intro W hW; go_simp; with_reducible rfl
          try simp only [Act.put, List.setIfInBounds_toArray, List.set_cons_zero, List.set_cons_succ]
          refine wpAnyH_take (i := 2) (oi := ⟨some 37, _, _, _, _, _⟩) (v := ?_) rfl (by kernel_rfl) (by kernel_rfl) (by kernel_rfl) (fun _ _ _ h => h) (Or.inl ⟨by rfl, ?_⟩) hS ?_
          rotate_left
          · intro W hW; go_simp; with_reducible rfl
          try simp only [Act.put, List.setIfInBounds_toArray, List.set_cons_zero, List.set_cons_succ]
          refine wpAnyH_take (i := 3) (oi := ⟨some 38, _, _, _, _, _⟩) (v := ?_) rfl (by kernel_rfl) (by kernel_rfl) (by kernel_rfl) (fun _ _ _ h => h) (Or.inl ⟨by rfl, ?_⟩) hS ?_
          rotate_left
          · intro W hW; go_simp; with_reducible rfl
          try simp only [Act.put, List.setIfInBounds_toArray, List.set_cons_zero, List.set_cons_succ]
          refine wpAnyH_take (i := 4) (oi := ⟨some 39, _, _, _, _, _⟩) (v := ?_) rfl (by kernel_rfl) (by kernel_rfl) (by kernel_rfl) (fun _ _ _ h => h) (Or.inl ⟨by rfl, ?_⟩) hS ?_
          rotate_left
          · intro W hW; go_simp; with_reducible rfl
          try simp only [Act.put, List.setIfInBounds_toArray, List.set_cons_zero, List.set_cons_succ]
          refine wpAnyH_take (i := 5) (oi := ⟨some 40, _, _, _, _, _⟩) (v := ?_) rfl (by kernel_rfl) (by kernel_rfl) (by kernel_rfl) (fun _ _ _ h => h) (Or.inl ⟨by rfl, ?_⟩) hS ?_
          rotate_left
          · intro W hW; go_simp; with_reducible rfl
          try simp only [Act.put, List.setIfInBounds_toArray, List.set_cons_zero, List.set_cons_succ]
          refine wpAnyH_take (i := 6) (oi := ⟨some 41, _, _, _, _, _⟩) (v := ?_) rfl (by kernel_rfl) (by kernel_rfl) (by kernel_rfl) (fun _ _ _ h => h) (Or.inl ⟨by rfl, ?_⟩) hS ?_
          rotate_left
          · intro W hW; go_simp; with_reducible rfl
          try simp only [Act.put, List.setIfInBounds_toArray, List.set_cons_zero, List.set_cons_succ]
          refine wpAnyH_take (i := 7) (oi := ⟨some 42, _, _, _, _, _⟩) (v := ?_) rfl (by kernel_rfl) (by kernel_rfl) (by kernel_rfl) (fun _ _ _ h => h) (Or.inl ⟨by rfl, ?_⟩) hS ?_
          rotate_left
          · intro W hW; go_simp; with_reducible rfl
          try simp only [Act.put, List.setIfInBounds_toArray, List.set_cons_zero, List.set_cons_succ]
          refine wpAnyH_take (i := 8) (oi := ⟨some 43, _, _, _, _, _⟩) (v := ?_) rfl (by kernel_rfl) (by kernel_rfl) (by kernel_rfl) (fun _ _ _ h => h) (Or.inl ⟨by rfl, ?_⟩) hS ?_
          rotate_left
          · intro W hW; go_simp; with_reducible rfl
          try simp only [Act.put, List.setIfInBounds_toArray, List.set_cons_zero, List.set_cons_succ]
          refine wpAnyH_take (i := 9) (oi := ⟨some 44, _, _, _, _, _⟩) (v := ?_) rfl (by kernel_rfl) (by kernel_rfl) (by kernel_rfl) (fun _ _ _ h => h) (Or.inl ⟨by rfl, ?_⟩) hS ?_
          rotate_left
          · intro W hW; go_simp; with_reducible rfl
          try simp only [Act.put, List.setIfInBounds_toArray, List.set_cons_zero, List.set_cons_succ]
          refine wpAnyH_take (i := 10) (oi := ⟨some 45, _, _, _, _, _⟩) (v := ?_) rfl (by kernel_rfl) (by kernel_rfl) (by kernel_rfl) (fun _ _ _ h => h) (Or.inl ⟨by rfl, ?_⟩) hS ?_
          rotate_left
          · intro W hW; go_simp; with_reducible rfl
          try simp only [Act.put, List.setIfInBounds_toArray, List.set_cons_zero, List.set_cons_succ]
          refine wpAnyH_take (i := 11) (oi := ⟨some 46, _, _, _, _, _⟩) (v := ?_) rfl (by kernel_rfl) (by kernel_rfl) (by kernel_rfl) (fun _ _ _ h => h) (Or.inl ⟨by rfl, ?_⟩) hS ?_
          rotate_left
          · intro W hW; go_simp; with_reducible rfl
          try simp only [Act.put, List.setIfInBounds_toArray, List.set_cons_zero, List.set_cons_succ]
          refine wpAnyH_take (i := 12) (oi := ⟨some 47, _, _, _, _, _⟩) (v := ?_) rfl (by kernel_rfl) (by kernel_rfl) (by kernel_rfl) (fun _ _ _ h => h) (Or.inl ⟨by rfl, ?_⟩) hS ?_
          rotate_left
          · intro W hW; go_simp; with_reducible rfl
          try simp only [Act.put, List.setIfInBounds_toArray, List.set_cons_zero, List.set_cons_succ]
          refine wpAnyH_take (i := 13) (oi := ⟨some 48, _, _, _, _, _⟩) (v := ?_) rfl (by kernel_rfl) (by kernel_rfl) (by kernel_rfl) (fun _ _ _ h => h) (Or.inl ⟨by rfl, ?_⟩) hS ?_
          rotate_left
          · intro W hW; go_simp; with_reducible rfl
          try simp only [Act.put, List.setIfInBounds_toArray, List.set_cons_zero, List.set_cons_succ]
          refine wpAnyH_take (i := 15) (oi := ⟨some 50, _, _, _, _, _⟩) (v := ?_) rfl (by kernel_rfl) (by kernel_rfl) (by kernel_rfl) (fun _ _ _ h => h) (Or.inl ⟨by rfl, ?_⟩) hS ?_
          rotate_left
          · intro W hW; go_simp; with_reducible rfl
          try simp only [Act.put, List.setIfInBounds_toArray, List.set_cons_zero, List.set_cons_succ]
          refine wpAnyH_ready (rs := [14, 16]) (by kernel_rfl) (by simp) ?_
          refine AllReadyH.cons (o := ⟨some 49, _, _, _, _, _⟩) rfl (fun Kr hKr => ?_) (AllReadyH.cons (o := ⟨some 51, _, _, _, _, _⟩) rfl (fun Kr hKr => ?_) AllReadyH.nil)
          · skip
            -- operation 14: a step
            go_simp
            show Kr _ _
            refine hKr.out _ _ ?_ (fun _ => ?_)
            · exact hS
            clear hKr Kr
            try simp only [Act.put, List.setIfInBounds_toArray, List.set_cons_zero, List.set_cons_succ]
            refine wpAnyH_ready (rs := [16]) (by kernel_rfl) (by simp) ?_
            refine AllReadyH.cons (o := ⟨some 51, _, _, _, _, _⟩) rfl (fun Kr hKr => ?_) AllReadyH.nil
            -- operation 16: a step
            go_simp
            show Kr _ _
            refine hKr.out _ _ ?_ (fun _ => ?_)
            · exact hS.alloc _
            clear hKr Kr
            replace hS : Turn (fun k => b ≤ k) wz ((World.drew wz).alloc (.cells #[.int .i64 (x : Int)] 3)) := hS.alloc _
            try simp only [Act.put, List.setIfInBounds_toArray, List.set_cons_zero, List.set_cons_succ]
            refine wpAnyH_ready (rs := [17]) (by kernel_rfl) (by simp) ?_
            refine AllReadyH.cons (o := ⟨some 52, _, _, _, _, _⟩) rfl (fun Kr hKr => ?_) AllReadyH.nil
            -- operation 17: a step
            rw [if_pos (by kernel_rfl)]
            refine wp_append_ _ _ 28 rfl rfl rfl HRUN.out ?_
            show Kr _ _
            refine hKr.out _ _ ?_ (fun _ => ?_)
            · exact hS.grown HG5.out (fun k e => .inl (by have := (HO1.out.lt k e).1; omega))
            clear hKr Kr
            replace hS : Turn (fun k => b ≤ k) wz w5 := hS.grown HG5.out (fun k e => .inl (by have := (HO1.out.lt k e).1; omega))
            try simp only [Act.put, List.setIfInBounds_toArray, List.set_cons_zero, List.set_cons_succ]
            refine wpAnyH_ready (rs := [18]) (by kernel_rfl) (by simp) ?_
            refine AllReadyH.cons (o := ⟨none, _, _, _, _, _⟩) rfl (fun Kr hKr => ?_) AllReadyH.nil
            -- operation 18: a step
            rw [if_pos (by kernel_rfl)]
            refine wp_upd _ _ _ 73 rfl rfl rfl rfl HRUN2.out ?_
            show Kr _ _
            refine hKr.out _ _ ?_ (fun _ => ?_)
            · exact hS.grown HG6.out (fun k e => .inl (by injection e with e; omega))
            clear hKr Kr
            replace hS : Turn (fun k => b ≤ k) wz w6 := hS.grown HG6.out (fun k e => .inl (by injection e with e; omega))
            try simp only [Act.put]
            refine wpAnyH_done (by kernel_rfl) ?_ _
            go_wp2
            go_roundw
            case rel => exact ⟨i + 1, _, rfl, by omega, HM6.out, HR6.out, HT6.out⟩
            case measure => simp [intOf]; omega
          · skip
            -- operation 16: a step
            go_simp
            show Kr _ _
            refine hKr.out _ _ ?_ (fun _ => ?_)
            · exact hS.alloc _
            clear hKr Kr
            replace hS : Turn (fun k => b ≤ k) wz ((World.drew wz).alloc (.cells #[.int .i64 (x : Int)] 3)) := hS.alloc _
            try simp only [Act.put, List.setIfInBounds_toArray, List.set_cons_zero, List.set_cons_succ]
            refine wpAnyH_ready (rs := [14]) (by kernel_rfl) (by simp) ?_
            refine AllReadyH.cons (o := ⟨some 49, _, _, _, _, _⟩) rfl (fun Kr hKr => ?_) AllReadyH.nil
            -- operation 14: a step
            go_simp
            show Kr _ _
            refine hKr.out _ _ ?_ (fun _ => ?_)
            · exact hS
            clear hKr Kr
            try simp only [Act.put, List.setIfInBounds_toArray, List.set_cons_zero, List.set_cons_succ]
            refine wpAnyH_ready (rs := [17]) (by kernel_rfl) (by simp) ?_
            refine AllReadyH.cons (o := ⟨some 52, _, _, _, _, _⟩) rfl (fun Kr hKr => ?_) AllReadyH.nil
            -- operation 17: a step
            rw [if_pos (by kernel_rfl)]
            refine wp_append_ _ _ 28 rfl rfl rfl HRUN.out ?_
            show Kr _ _
            refine hKr.out _ _ ?_ (fun _ => ?_)
            · exact hS.grown HG5.out (fun k e => .inl (by have := (HO1.out.lt k e).1; omega))
            clear hKr Kr
            replace hS : Turn (fun k => b ≤ k) wz w5 := hS.grown HG5.out (fun k e => .inl (by have := (HO1.out.lt k e).1; omega))
            try simp only [Act.put, List.setIfInBounds_toArray, List.set_cons_zero, List.set_cons_succ]
            refine wpAnyH_ready (rs := [18]) (by kernel_rfl) (by simp) ?_
            refine AllReadyH.cons (o := ⟨none, _, _, _, _, _⟩) rfl (fun Kr hKr => ?_) AllReadyH.nil
            -- operation 18: a step
            rw [if_pos (by kernel_rfl)]
            refine wp_upd _ _ _ 73 rfl rfl rfl rfl HRUN2.out ?_
            show Kr _ _
            refine hKr.out _ _ ?_ (fun _ => ?_)
            · exact hS.grown HG6.out (fun k e => .inl (by injection e with e; omega))
            clear hKr Kr
            replace hS : Turn (fun k => b ≤ k) wz w6 := hS.grown HG6.out (fun k e => .inl (by injection e with e; omega))
            try simp only [Act.put]
            refine wpAnyH_done (by kernel_rfl) ?_ _
            go_wp2
            go_roundw
            case rel => exact ⟨i + 1, _, rfl, by omega, HM6.out, HR6.out, HT6.out⟩
            case measure => simp [intOf]; omega
        · obtain rfl : i = L.length := by omega
          have hW := HW4.out.trans (ht.out.below (fun k e => by have := HBW.out; omega) HW4.out.size)
          have HLO := Lib.hid (Lo.of HG.out HN.out HP.out HS.out)
          have HWW := Lib.hid hW
          have hr2 := hr.out
          rw [List.take_length] at hr2
          have HR2 := Lib.hid hr2
          clear hW hr2
          go_wp2
          go_ret
          exact ⟨b, _, V, L, rfl, by have := HBW.out; omega, hm.out, HLO.out, HWW.out, HR2.out⟩

end Go.Proofs.Ytohnfjneghbceaa
