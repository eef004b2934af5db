/-
  A sector read into a frame of its own: behind all, or in place of another.
-/
import Derived.Test.YtnpgmiokimahiaaQh
namespace Go.Proofs.Ytnpgmiokimahiaa
set_option maxRecDepth 100000
set_option linter.unusedVariables false
set_option linter.unusedSimpArgs false
open Go.RowKit Pl

def freshQ (g i : Nat) : Fq := ⟨g, i, Dv.zeros, false, 0, 0, true⟩
theorem fq_built (i : Nat) : Try.prog.built FT [(0, .int .i64 (i : Int)), (5, .bool true)] = some (fqC (freshQ 0 i)) := by kernel_rfl
theorem wpList_build_fq {w : World} {ops : Array Oper} {rest : List Oper} {o : Oper} {a : Act} {Q : Exit → Act → World → Prop} (hgd : o.guard = none) (x y : Operand) (ho : o.op = .build FT #[(0, x), (5, y)]) (i : Nat) (hx : a.eval x = .int .i64 (i : Int)) (hy : a.eval y = .bool true)
    (h : wpList Try.prog ops Q rest (a.put o.dst (.agg (fqC (freshQ 0 i)))) w) : wpList Try.prog ops Q (o :: rest) a w := by
  have e : (Try.prog.built FT ((#[(0, x), (5, y)] : Array (Nat × Operand)).map fun (i, x) => (i, a.eval x)).toList) = some (fqC (freshQ 0 i)) := by
    have := fq_built i
    simpa [hx, hy] using this
  refine wpList_build hgd _ _ ho (by rw [e]; rfl) ?_
  rw [e]
  exact h

section
variable {w W : World} {p n v L M : Nat} {m m' : Pm} {l l' : List Fq} {A : Option Addr} {N c h h' : Nat} {x y : Fq} {j : Nat} {D : Dv}

theorem read_at (hg : D.gone = false) {i : Nat} (hi : i < D.n) : D.read (i : Int) = sec D i := by
  unfold Dv.read
  rw [hg, if_neg Bool.false_ne_true, Dv.has_of hi]
  rfl
/-- the frame that is read -/
def newQ (D : Dv) (g i : Nat) : Fq := ⟨g, i, sec D i, false, 0, 0, true⟩

theorem own_blk {w : World} {A : Option Addr} {N c : Nat} {gs : List Nat} (ho : RF.Own w 0 (.slice A N c) gs) {k : Nat} (hk : (Value.slice A N c).ownBlock = some k) : A = some ⟨k, 0, none⟩ ∧ ∃ cs, Bk w k cs 57 := by
  rcases ho.2 with ⟨e, _⟩ | ⟨g2, cap, cur, e, _, hh, _⟩
  · injection e with e; subst e; cases hk
  · injection e with e1 e2 e3
    subst e1
    have e4 : g2 = k := Option.some.inj hk
    subst e4
    exact ⟨rfl, cur, hh⟩

/-- a frame behind all -/
theorem append_at {w4 w6 : World} {z : Fq} {v' : Value} (q : PoolAt w4 p n v m l A N c h) (f : FAt w4 z) (hr : Ring n m' (l ++ [z])) (e1 : m'.room = m.room) (e2 : m'.safe = m.safe) (e3 : m'.reads = m.reads)
    (ho : RF.Own w6 0 v' (l.map Fq.g ++ [z.g])) (hg : (w4.alloc (.cells #[ptr z.g] 57)).grownBy w6 (Value.slice A N c).ownBlock) (ha : v'.ownBlock = (Value.slice A N c).ownBlock ∨ v'.ownBlock = some (w4.alloc (.cells #[ptr z.g] 57)).heap.size) :
    ∃ A' c', v' = .slice A' (N + 1) c' ∧ w6.cell? ⟨v, 2, none⟩ = some (.slice A N c) ∧ w6.frozen? ⟨v, 2, none⟩ = false ∧ PoolAt (w6.setCell ⟨v, 2, none⟩ (.slice A' (N + 1) c')) p n v m' (l ++ [z]) A' (N + 1) c' h ∧
      (∀ k, (∃ o, A' = some ⟨k, o, none⟩) → (∃ o, A = some ⟨k, o, none⟩) ∨ w4.heap.size ≤ k) ∧ Turn (Tq v A (l.map Fq.g)) w4 (w6.setCell ⟨v, 2, none⟩ (.slice A' (N + 1) c')) := by
  obtain ⟨A', c', rfl, _, _, hA'⟩ := Rk.Own.form rf_ok ho
  have hlen : (l.map Fq.g ++ [z.g]).length = N + 1 := by rw [List.length_append, List.length_map, q.len]; rfl
  rw [hlen] at ho ha ⊢
  have hsz : (w4.alloc (.cells #[ptr z.g] 57)).heap.size = w4.heap.size + 1 := by simp
  have hvr : some v ≠ (Value.slice A N c).ownBlock := fun e => by
    obtain ⟨hA, _⟩ := own_blk q.own e.symm
    exact (q.nr hA).1 rfl
  have hb6 : Bk w6 v _ PT := (q.bk.al (.cells #[ptr z.g] 57)).far hg hvr
  have hT6 : Turn (Tq v A (l.map Fq.g)) w4 w6 := ((Turn.refl _ w4).alloc _).grown hg (fun j e => .inl (.inr (.inl ⟨0, (own_blk q.own e).1⟩)))
  have hv' : ∀ k, (Value.slice A' (N + 1) c').ownBlock = some k → k ≠ v := fun k hk e => by
    subst e
    rcases ha with ha | ha
    · exact hvr (by rw [← ha]; exact hk.symm)
    · rw [hk, hsz] at ha
      have := Option.some.inj ha
      have := q.bk.lt
      omega
  have hfr : ∀ x ∈ l ++ [z], Bk w6 x.g (fqC x) FT := fun x hx => by
    rcases List.mem_append.1 hx with hx | hx
    · exact ((q.fr x hx).al _).far hg (fun e => (q.nr (own_blk q.own e.symm).1).2 x hx rfl)
    · obtain rfl := List.mem_singleton.1 hx
      refine (f.bk.al _).far hg (fun e => ?_)
      obtain ⟨_, cs, hb⟩ := own_blk q.own e.symm
      exact absurd (bk_type f.bk hb) (by decide)
  have hTv : Turn (· = v) w6 (w6.setCell ⟨v, 2, none⟩ (.slice A' (N + 1) c')) := (Turn.refl (· = v) w6).setCell ⟨v, 2, none⟩ _ (.inl rfl)
  refine ⟨A', c', rfl, hb6.c 2 _ rfl, hb6.fr 2, ⟨?_, ?_, by rw [List.length_append, q.len]; rfl, fun x hx => ?_, hr, ?_⟩, ?_, hT6.trans (hTv.mono (fun _ e => .inl e))⟩
  · have := heap_setCell_same w6 v 2 _ _ (.slice A' (N + 1) c') hb6
    rw [e1, e2, e3]
    exact this
  · rw [List.map_append]
    exact ho.turn hTv hv'
  · refine (hfr x hx).turn hTv (fun e => ?_)
    have h1 := hfr x hx
    rw [e] at h1
    exact absurd (bk_type h1 hb6) (by decide)
  · rcases q.hand with e | e
    · exact .inl e
    · exact .inr (by omega)
  · rintro k ⟨o, e⟩
    rcases ha with ha | ha
    · left
      have hk : (Value.slice A N c).ownBlock = some k := by rw [← ha, e]; rfl
      exact ⟨0, (own_blk q.own hk).1⟩
    · right
      have hk : (Value.slice A' (N + 1) c').ownBlock = some k := by rw [e]; rfl
      rw [hk, hsz] at ha
      have := Option.some.inj ha
      omega

/-- a frame in place of another -/
theorem over_at {w4 : World} {z : Fq} (q : PoolAt w4 p n v m l A N c h) (hx : l[j]? = some x) (f : FAt w4 z) (hr : Ring n m' (l.set j z)) (e1 : m'.room = m.room) (e2 : m'.safe = m.safe) (e3 : m'.reads = m.reads) {g0 : Nat} (hA : A = some ⟨g0, 0, none⟩) :
    PoolAt (w4.setCell ⟨g0, j, none⟩ (ptr z.g)) p n v m' (l.set j z) A N c h ∧ Turn (Tq v A (l.map Fq.g)) w4 (w4.setCell ⟨g0, j, none⟩ (ptr z.g)) := by
  have hT : Turn (· = g0) w4 (w4.setCell ⟨g0, j, none⟩ (ptr z.g)) := (Turn.refl (· = g0) w4).setCell ⟨g0, j, none⟩ _ (.inl rfl)
  obtain ⟨_, cs, hb0⟩ := q.row hA
  refine ⟨⟨by rw [e1, e2, e3]; exact q.bk.turn hT (fun e => (q.nr hA).1 e.symm), ?_, by rw [List.length_set]; exact q.len, fun y hy => ?_, hr, q.hand⟩, hT.mono (fun k e => .inr (.inl ⟨0, by rw [hA, e]⟩))⟩
  · subst hA
    have hx2 : (l.map Fq.g)[j]? = some x.g := by rw [List.getElem?_map, hx]; rfl
    have := Rk.Own.set rf_ok (k := 0) (i := j) (by decide) (v := ptr z.g) (x' := z.g) q.own hx2 rfl
    rw [List.map_set]
    rwa [show j * RF.m + 0 = j from by show j * 1 + 0 = j; omega] at this
  · rcases List.mem_or_eq_of_mem_set hy with hy | rfl
    · exact (q.fr y hy).turn hT ((q.nr hA).2 y hy)
    · exact f.bk.turn hT (fun e => by
        have h1 := f.bk
        rw [e] at h1
        exact absurd (bk_type h1 hb0) (by decide))

/-- a sector read -/
inductive GotOut (w : World) (p v L M : Nat) (D : Dv) (m : Pm) (l : List Fq) (A : Option Addr) (N c h i pl : Nat) (e : Ending) (w' : World) : Prop
  | add (hpl : pl = N) (g c' : Nat) (A' : Option Addr) (he : e = .returned (.tuple #[ptr g, .int .i64 0])) (hg : w.heap.size ≤ g) (hp : PoolAt w' p D.n v (m.take D i) (l ++ [newQ D g i]) A' (N + 1) c' h) (hv : IsDev w' p L M D)
      (hA : ∀ k, (∃ o, A' = some ⟨k, o, none⟩) → (∃ o, A = some ⟨k, o, none⟩) ∨ w.heap.size ≤ k)
  | over (x : Fq) (hx : l[pl]? = some x) (g : Nat) (he : e = .returned (.tuple #[ptr g, .int .i64 0])) (hg : w.heap.size ≤ g) (hp : PoolAt w' p D.n v ((m.drop x.at_).take D i) (l.set pl (newQ D g i)) A N c h) (hv : IsDev w' p L M D)

set_option maxHeartbeats 4000000 in
theorem read_any (q : PoolAt w p D.n v m l A N c h) (hv : IsDev w p L M D) (hgone : D.gone = false) {i : Nat} (hi : i < D.n) (hf : m.F i = none) (hr : m.reads ≤ 1000000) (pl : Nat) (hpl : (pl = N ∧ N < m.room) ∨ ∃ x, l[pl]? = some x) :
    Calls Try.prog 35 #[ptr v, .int .i64 (i : Int), .int .i64 (pl : Int)] w fun e w' => GotOut w p v L M D m l A N c h i pl e w' ∧ Turn (Tq v A (l.map Fq.g)) w w' := by
  have hle := q.le
  have hlen := q.len
  have hplN : pl ≤ 64 := by
    rcases hpl with e | ⟨x, hx⟩
    · omega
    · have := (List.getElem?_eq_some_iff.1 hx).1; omega
  have HPL := Lib.hid hpl
  have HRG := Lib.hid q.ring
  have HOK := Lib.hid hv.ok
  clear hpl
  have c0 := q.c0
  have h64 := sec_len hv.ok hi
  have htop := hv.ok.top
  have HR := Lib.hid (read_sec hv (i : Int) (read_at hgone hi) h64)
  have HQ := Lib.hid q
  have HV := Lib.hid hv
  have HI := Lib.hid hi
  have HF := Lib.hid hf
  have HLE := Lib.hid hle
  have HL := Lib.hid hlen
  clear q hv hgone hi hf hlen
  go_enter Try.func35, Try.ntmps35
  go_wp2_with fail
  refine HR.out.mono ?_
  rintro e w1 ⟨g1, rfl, hg1, hb1, hbl⟩
  have ht1 : Turn (fun _ => False) w w1 := Turn.ofBelow hbl
  have HQ1 := Lib.hid (HQ.out.keep ht1)
  have HV1 := Lib.hid (HV.out.turn ht1 (fun h => h) (fun h => h) (fun h => h))
  have HT1 := Lib.hid ht1
  have HG1 := Lib.hid hg1
  have HB1 : Hid (Bk w1 g1 (secC (sec D i)) 60) := Lib.hid hb1
  clear ht1 hg1 hb1 hbl c0 HR HQ HV
  obtain ⟨r, hr2⟩ : ∃ r : Int, r = (m.reads : Int) := ⟨_, rfl⟩
  have c5 := HQ1.out.c5
  rw [← hr2] at c5
  have hrb : 0 ≤ r ∧ r ≤ 1000000 := by omega
  have HRR := Lib.hid hr2
  have fr5 : w1.frozen? ⟨v, 5, none⟩ = false := HQ1.out.bk.fr 5
  clear hr2 hr
  go_upto_region 5 with fail
  have HQ2 : Hid (PoolAt (w1.setCell ⟨v, 5, none⟩ (.int .i64 (r + 1))) p D.n v { m with reads := m.reads + 1 } l A N c h) := Lib.hid (by
    have hr := HRR.out
    refine HQ1.out.struct ((Turn.refl (· = v) w1).setCell ⟨v, 5, none⟩ _ (.inl rfl)) ?_ ⟨⟨HQ1.out.ring.ok.fr, HQ1.out.ring.ok.room, HQ1.out.ring.ok.few, HQ1.out.ring.ok.safe⟩, HQ1.out.ring.has, HQ1.out.ring.of, HQ1.out.ring.ats, HQ1.out.ring.gs⟩ HQ1.out.hand
    have h1 := heap_setCell_same w1 v 5 _ _ (.int .i64 (r + 1)) HQ1.out.bk
    rw [show r + 1 = ((m.reads + 1 : Nat) : Int) by omega] at h1 ⊢
    exact h1)
  have ht2 : Turn (· = v) w1 (w1.setCell ⟨v, 5, none⟩ (.int .i64 (r + 1))) := (Turn.refl (· = v) w1).setCell ⟨v, 5, none⟩ _ (.inl rfl)
  have hnv : g1 ≠ v := fun e => absurd (bk_type (by rw [e] at HB1; exact HB1.out) HQ1.out.bk) (by decide)
  have HB2 := Lib.hid (HB1.out.turn ht2 hnv)
  have HV2 := Lib.hid (HV1.out.turn ht2 (fun e => HQ1.out.off HV1.out v (.inl rfl) (.inl e.symm)) (fun e => HQ1.out.off HV1.out v (.inl rfl) (.inr (.inl e.symm))) (fun e => HQ1.out.off HV1.out v (.inl rfl) (.inr (.inr e.symm))))
  have HT2 : Hid (Turn (Tq v A (l.map Fq.g)) w (w1.setCell ⟨v, 5, none⟩ (.int .i64 (r + 1)))) := Lib.hid ((HT1.out.mono (fun _ h => absurd h (fun h => h))).trans (ht2.mono (fun _ e => .inl e)))
  clear ht2 hnv HQ1 HV1 HT1 HB1 c5 fr5
  generalize w1.setCell ⟨v, 5, none⟩ (.int .i64 (r + 1)) = w2 at *
  go_upto_region 6 with (first | (refine wpList_build_fq rfl _ _ rfl i rfl rfl ?_) | fail)
  have hnew := below_new w2 (.cells (fqC (freshQ 0 i)) FT)
  have HQ3 := Lib.hid (HQ2.out.keep (Turn.ofBelow hnew))
  have HV3 := Lib.hid (HV2.out.turn (S := fun _ => False) (Turn.ofBelow hnew) (fun h => h) (fun h => h) (fun h => h))
  have HB3 := Lib.hid (HB2.out.below hnew)
  have HT3 := Lib.hid (HT2.out.trans (Turn.ofBelow hnew))
  have HF3 : Hid (FAt (w2.alloc (.cells (fqC (freshQ 0 i)) FT)) (freshQ w2.heap.size i)) := Lib.hid ⟨Bk.new w2 _ _, Dv.len_zeros⟩
  have HGN : Hid (∀ k, Tq v A (l.map Fq.g) k → k ≠ w2.heap.size) := Lib.hid (fun k hk e => by have := HQ2.out.lt k hk; omega)
  have HGV : Hid (¬ DS p L M w2.heap.size) := Lib.hid (fun hk => by have h1 := HV2.out.lt; rcases hk with e | e | e <;> omega)
  have HGW : Hid (w.heap.size ≤ w2.heap.size) := Lib.hid HT2.out.size
  have HN1 : Hid (g1 ≠ w2.heap.size) := Lib.hid (fun e => by have := HB2.out.lt; omega)
  clear hnew HQ2 HV2 HB2 HT2
  generalize w2.alloc (.cells (fqC (freshQ 0 i)) FT) = w3 at *
  generalize w2.heap.size = g at *
  have HRD : Hid (Rd w3 w3.heap.size (some ⟨g1, 0, none⟩) (sec D i)) := Lib.hid (.inr ⟨g1, 0, rfl, HB3.out.lt, fun j y hy => by
    rw [Nat.zero_add]
    refine HB3.out.c j _ ?_
    unfold secC byteVs
    rw [List.getElem?_toArray, List.getElem?_map, hy]; rfl⟩)
  go_upto_region 7 with (first | (refine wpList_copy_fq rfl _ _ rfl HF3.out HRD.out 64 64 h64 (by omega) rfl rfl ?_) | fail)
  have hd64 : sec D i ++ (freshQ g i).b.drop 64 = sec D i := by rw [show (freshQ g i).b.drop 64 = [] from List.drop_eq_nil_of_le (by show Dv.zeros.length ≤ 64; rw [Dv.len_zeros]; exact Nat.le_refl _), List.append_nil]
  rw [hd64]
  have HF4 : Hid (FAt (w3.setRow (freshQ g i).g (fqC { freshQ g i with b := sec D i })) (newQ D g i)) := Lib.hid (HF3.out.data h64)
  have ht4 : Turn (· = g) w3 (w3.setRow (freshQ g i).g (fqC { freshQ g i with b := sec D i })) := (Turn.refl (· = g) w3).setRow _ _ (.inl rfl)
  have HQ4 := Lib.hid (HQ3.out.turn ht4 (fun k hk e => HGN.out k hk e))
  have HV4 := Lib.hid (HV3.out.turn ht4 (fun e => HGV.out (.inl e.symm)) (fun e => HGV.out (.inr (.inl e.symm))) (fun e => HGV.out (.inr (.inr e.symm))))
  have HT4 := Lib.hid (HT3.out.grown (row := some g) ⟨ht4.os, ht4.tape, ht4.output, ht4.size, fun k hk hne => ht4.block k hk (fun e => hne (by rw [e]))⟩ (fun j e => .inr (by have := HGW.out; have e := Option.some.inj e; omega)))
  clear ht4 hd64 HF3 HQ3 HV3 HT3 HB3 HRD
  generalize w3.setRow (freshQ g i).g (fqC { freshQ g i with b := sec D i }) = w4 at *
  have c2 := HQ4.out.c2
  have HNG : Hid (∀ x ∈ l, x.g ≠ g) := Lib.hid (fun x hx => HGN.out x.g (.inr (.inr (List.mem_map.2 ⟨x, hx, rfl⟩))))
  by_cases hp : pl = N
  · have hb : ((pl : Int) == (N : Int)) = true := by rw [hp]; simp
    have hb2 : (pl == N) = true := by rw [hp]; simp
    have HP := Lib.hid hp
    have HRN : Hid (Ring D.n (m.take D i) (l ++ [newQ D g i])) := Lib.hid (HRG.out.add HOK.out HI.out HF.out (by
      rcases HPL.out with e | ⟨x, hx⟩
      · rw [HL.out]; exact e.2
      · have := (List.getElem?_eq_some_iff.1 hx).1; have := HL.out; omega) HNG.out true)
    clear hp
    go_wp2_with (first
      | (at_builtin; refine Rk.wpList_append rf_ok rfl (.tmp 50) (.tmp 52) rfl 0 (.slice A N c) (l.map Fq.g) [g] rfl (HQ4.out.own.below (below_new w4 _)) (some ⟨w4.heap.size, 0, none⟩) 1 1 rfl (Rk.At.new rf_ok w4 g _) rfl (.inr ⟨_, _, rfl⟩) (by rw [List.length_map]; have := HL.out; have := HLE.out; show _ + 1 ≤ _; omega) (Nat.zero_le _) ?_; intro v6 w6 ho hg ha; obtain ⟨A6, c6, hv6, c26, fr26, hp6, hA6, ht6⟩ := append_at (z := newQ D g i) HQ4.out HF4.out HRN.out rfl rfl rfl ho hg ha; subst hv6; have HP6 := Lib.hid hp6; have HA6 := Lib.hid hA6; have HT6 := Lib.hid ht6; clear ho hg ha hp6 hA6 ht6)
      | fail)
    go_ret2
    refine ⟨.add HP.out g c6 A6 rfl HGW.out HP6.out ?_ (fun k hk => ?_), HT4.out.trans HT6.out⟩
    · exact HV4.out.turn HT6.out (fun h => HQ4.out.off HV4.out p h (.inl rfl)) (fun h => HQ4.out.off HV4.out L h (.inr (.inl rfl))) (fun h => HQ4.out.off HV4.out M h (.inr (.inr rfl)))
    · rcases HA6.out k hk with h | h
      · exact .inl h
      · exact .inr (Nat.le_trans HT4.out.size h)
  · have hb : ((pl : Int) == (N : Int)) = false := by simp; omega
    have hb2 : (pl == N) = false := by simp; omega
    obtain ⟨x, hx⟩ : ∃ x, l[pl]? = some x := by
      rcases HPL.out with e | e
      · exact absurd e.1 hp
      · exact e
    obtain ⟨g0, hA, hj, cg⟩ := HQ4.out.at_ hx
    have HX := Lib.hid hx
    have HRN : Hid (Ring D.n ((m.drop x.at_).take D i) (l.set pl (newQ D g i))) := Lib.hid (HRG.out.over HOK.out hx HI.out HF.out HNG.out true)
    obtain ⟨hp5, ht5⟩ := over_at (z := newQ D g i) HQ4.out hx HF4.out HRN.out rfl rfl rfl hA
    have HP5 := Lib.hid hp5
    have HT5 := Lib.hid ht5
    have fr0 : w4.frozen? ⟨g0, pl, none⟩ = false := by
      obtain ⟨_, cs, hb0⟩ := HQ4.out.row hA
      exact Bk.fr hb0 pl
    have hdi : (pl : Int) < (N : Int) := by omega
    have HA := Lib.hid hA
    rw [hA] at c2
    clear hx hp5 ht5 hA hp
    generalize x.g = xg at cg
    go_wp2_with fail
    go_ret2
    refine ⟨.over x HX.out g rfl HGW.out HP5.out ?_, HT4.out.trans HT5.out⟩
    exact HV4.out.turn HT5.out (fun h => HQ4.out.off HV4.out p h (.inl rfl)) (fun h => HQ4.out.off HV4.out L h (.inr (.inl rfl))) (fun h => HQ4.out.off HV4.out M h (.inr (.inr rfl)))
end
end Go.Proofs.Ytnpgmiokimahiaa
