/-
  IDs in a row; all that stand in one.
-/
import Derived.Test.YtohnfjneghbceaaSettle
import Derived.Test.YtohnfjneghbceaaNext
namespace Go.Proofs.Ytohnfjneghbceaa
set_option maxRecDepth 100000
set_option linter.unusedVariables false
open Go.RowKit Go.Shelf

def idC (l : List Nat) : List Value := l.map fun x : Nat => .int .i64 (x : Int)
/-- IDs in a row -/
def IdAt (W : World) (A : Option Addr) (l : List Nat) : Prop :=
  (A = none ∧ l = []) ∨ ∃ b, A = some ⟨b, 0, none⟩ ∧ b < W.heap.size ∧ ∀ (j x : Nat), l[j]? = some x → W.cell? ⟨b, j, none⟩ = some (.int .i64 (x : Int))
/-- a row of the call's own -/
def OwnId (w : World) (base : Nat) (v : Value) (l : List Nat) : Prop := w.ownsRow base 3 1 v l.length (idC l)
theorem IdAt.below {W V : World} {A : Option Addr} {l : List Nat} (h : IdAt W A l) (hb : Below W.heap.size W V) : IdAt V A l := by
  rcases h with h | ⟨b, e, hl, hc⟩
  · exact .inl h
  · exact .inr ⟨b, e, Nat.lt_of_lt_of_le hl hb.size, fun j x hx => (hb.cell (p := ⟨b, j, none⟩) hl).trans (hc j x hx)⟩
theorem IdAt.turn {S : Nat → Prop} {W V : World} {A : Option Addr} {l : List Nat} (h : IdAt W A l) (ht : Turn S W V) (hS : ∀ b o, A = some ⟨b, o, none⟩ → ¬ S b) : IdAt V A l := by
  rcases h with h | ⟨b, e, hl, hc⟩
  · exact .inl h
  · exact .inr ⟨b, e, Nat.lt_of_lt_of_le hl ht.size, fun j x hx => ht.cell (hc j x hx) (hS b 0 e)⟩
theorem IdAt.get {W : World} {A : Option Addr} {l : List Nat} (h : IdAt W A l) {j : Nat} (hj : j < l.length) : ∃ b, A = some ⟨b, 0, none⟩ ∧ b < W.heap.size ∧ W.cell? ⟨b, j, none⟩ = some (.int .i64 ((l[j]) : Int)) := by
  rcases h with h | ⟨b, e, hl, hc⟩
  · rw [h.2] at hj; simp at hj
  · exact ⟨b, e, hl, hc j _ (List.getElem?_eq_getElem hj)⟩
theorem IdAt.get2 {W : World} {A : Option Addr} {l : List Nat} (h : IdAt W A l) {j x : Nat} (hx : l[j]? = some x) : ∃ b, A = some ⟨b, 0, none⟩ ∧ b < W.heap.size ∧ W.cell? ⟨b, j, none⟩ = some (.int .i64 (x : Int)) := by
  rcases h with h | ⟨b, e, hl, hc⟩
  · rw [h.2] at hx; simp at hx
  · exact ⟨b, e, hl, hc j x hx⟩
section
variable {w w' : World} {base : Nat} {v : Value} {l : List Nat}
theorem OwnId.nil (w : World) (base : Nat) : OwnId w base (.slice none 0 0) [] := World.ownsRow_nil _ _ _ _
theorem OwnId.form (h : OwnId w base v l) : ∃ A c, v = .slice A l.length c ∧ IdAt w A l ∧ ∀ b o, A = some ⟨b, o, none⟩ → base ≤ b := by
  rcases h.2 with ⟨rfl, hn⟩ | ⟨g, cap, cur, rfl, hg, _, hnc, _⟩
  · have : l = [] := List.eq_nil_of_length_eq_zero hn
    subst this
    exact ⟨none, 0, rfl, .inl ⟨rfl, rfl⟩, fun b o e => by cases e⟩
  · refine ⟨_, cap, rfl, .inr ⟨g, rfl, (h.lt g rfl).2, fun j x hx => ?_⟩, fun b o e => by injection e with e; injection e with e1; omega⟩
    have hj : j < l.length := (List.getElem?_eq_some_iff.1 hx).1
    refine (h.cellAt j (by omega)).trans ?_
    unfold idC
    rw [List.getElem?_map, hx]; rfl
theorem OwnId.turn {S : Nat → Prop} (h : OwnId w base v l) (ht : Turn S w w') (hS : ∀ k, v.ownBlock = some k → ¬ S k) : OwnId w' base v l := by
  refine ⟨h.1, ?_⟩
  rcases h.2 with h2 | ⟨g, c, cur, e, hg, hh, rest⟩
  · exact .inl h2
  · exact .inr ⟨g, c, cur, e, hg, (ht.block g (lt_of_block hh) (hS g (by rw [e]; rfl))).trans hh, rest⟩
theorem OwnId.below (h : OwnId w base v l) (hb : Below w.heap.size w w') : OwnId w' base v l := h.turn (S := fun _ => False) (Turn.ofBelow hb) (fun _ _ h => h)
theorem OwnId.lt (h : OwnId w base v l) : ∀ k, v.ownBlock = some k → base ≤ k ∧ k < w.heap.size := World.ownsRow.lt h
end
theorem int_facts : (Try.prog.info? 3).map (fun i => (i.zero, i.size, i.bytes)) = some (some (.int .i64 0), 1, 8) := by kernel_rfl
theorem place_facts : (Try.prog.info? 103).map (fun i => (i.zero, i.size, i.bytes)) = some (some (.int .i64 0), 1, 8) := by kernel_rfl
theorem parts_of {e : TypeId} {z : Option Value} {s b : Nat} (h : (Try.prog.info? e).map (fun i => (i.zero, i.size, i.bytes)) = some (z, s, b)) : ∃ i0, Try.prog.info? e = some i0 ∧ i0.zero = z ∧ i0.size = s ∧ i0.bytes = b := by
  cases hq : Try.prog.info? e with
  | none => rw [hq] at h; cases h
  | some i0 => rw [hq] at h; simp only [Option.map_some, Option.some.injEq, Prod.mk.injEq] at h; exact ⟨i0, rfl, h.1, h.2.1, h.2.2⟩

/-- 'append(ids, x)' onto the call's own -/
theorem wpList_append_id {ops : Array Oper} {rest : List Oper} {o : Oper} {a : Act} {w : World} {Q : Exit → Act → World → Prop} (hgd : o.guard = none) (s x : Operand)
    (ho : o.op = .call { callee := .builtin .append, args := #[s, x], argTypes := #[28, 28] }) (base : Nat) (v : Value) (l : List Nat) (hs : a.eval s = v) (hown : OwnId w base v l)
    (g z : Nat) (hx : a.eval x = .slice (some ⟨g, 0, none⟩) 1 1) (hc : w.cell? ⟨g, 0, none⟩ = some (.int .i64 (z : Int))) (hlen : l.length ≤ 100000) (hbase : base ≤ w.heap.size)
    (h : ∀ v' w', OwnId w' base v' (l ++ [z]) → w.grownBy w' v.ownBlock → (v'.ownBlock = v.ownBlock ∨ v'.ownBlock = some w.heap.size) → wpList Try.prog ops Q rest (a.put o.dst v') w') : wpList Try.prog ops Q (o :: rest) a w := by
  obtain ⟨i0, hi, hz, hs1, hb⟩ := parts_of int_facts
  refine wpList_append_own_at w hgd s x _ ho base 3 i0 (.int .i64 0) 1 8 Try.underlying28 hi hz hs1 hb rfl (by decide) v l.length (idC l) hs hown ⟨g, 0, none⟩ 1 1 [.int .i64 (z : Int)] hx rfl ?_ (by simp [Value.oneCell']) (by unfold maxLen; omega) (by omega) hbase ?_
  · intro j u hu
    match j, hu with
    | 0, hu => injection hu with hu; subst hu; exact hc
    | j + 1, hu => simp at hu
  · intro v' w' hown' hg' _ hat
    refine h v' w' ?_ hg' hat
    unfold OwnId idC
    rw [List.length_append, List.map_append]
    exact hown'

/-- all that stand in one -/
def Tr.kin (T : Tr) (of n : Nat) : List Nat := (List.range n).filter (fun j => decide (T.inn of j))
theorem kin_succ (T : Tr) (of n : Nat) : T.kin of (n + 1) = if T.inn of n then T.kin of n ++ [n] else T.kin of n := by
  unfold Tr.kin
  rw [List.range_succ, List.filter_append]
  by_cases h : T.inn of n
  · rw [if_pos h]; simp [h]
  · rw [if_neg h]; simp [h]
theorem kin_len (T : Tr) (of n : Nat) : (T.kin of n).length ≤ n := by unfold Tr.kin; have := List.length_filter_le (fun j => decide (T.inn of j)) (List.range n); simpa using this

theorem made_pl {W : World} {P N : Nat} (h : W.ownsRow P 103 1 (.slice (some ⟨P, 0, none⟩) N N) N (madeCells (Value.int .i64 0).cells (N * 1)).toList) : Pl W P N (fun _ => 0) := by
  refine ⟨(h.lt P rfl).2, fun j hj => ⟨?_, h.frozenAt j⟩⟩
  rw [h.cellAt j (by omega)]
  simp [madeCells, Value.cells, hj, Nat.mod_one]

set_option maxHeartbeats 4000000 in
theorem innOf_any (A : Option Addr) (T : Tr) (N cap : Nat) (c : Int) (of : Nat) (hof : of < N) (hN : T.l.length = N) (hG : Good T) (w : World) (hT : TxAt w A T.l) :
    Calls Try.prog 45 #[.agg #[.slice A N cap, .int .i64 c], .int .i64 (of : Int)] w fun e w' => ∃ A' k' m, e = .returned (.slice A' m k') ∧ m = (T.kin of N).length ∧ IdAt w' A' (T.kin of N) ∧ Below w.heap.size w w' ∧ ∀ b o, A' = some ⟨b, o, none⟩ → w.heap.size ≤ b := by
  have hn64 : N ≤ 64 := by have := hG.n; omega
  have hb0 := below_new w (.cells #[.slice A N cap, .int .i64 c] 26)
  have ht0 := TB.new w A N cap c
  have k0 := ht0.c0
  have HG := Lib.hid hG
  have HN := Lib.hid hN
  have HT := Lib.hid hT
  have HB0 := Lib.hid hb0
  have HT0 := Lib.hid ht0
  clear hG hN hT hb0 ht0
  obtain ⟨i0, hi, hz0, hz1, hz2⟩ := parts_of place_facts
  go_enter Try.func45, Try.ntmps45
  have hs0 : (w.alloc (.cells #[.slice A N cap, .int .i64 c] 26)).heap.size = w.heap.size + 1 := by simp
  have HS0 := Lib.hid hs0
  clear hs0
  go_upto_region 1 with fail
  generalize w.alloc (.cells #[.slice A N cap, .int .i64 c] 26) = w0 at *
  go_wp2_with (refine wpList_make_full _ rfl _ _ _ rfl w0.heap.size 103 i0 _ 1 Try.underlying102 hi hz0 hz1 _ _ _ _ N rfl rfl rfl rfl (by rw [hz2]; omega) (by unfold maxLen; omega) (Nat.le_refl _) ?_; intro w1 hown1 hg1; have hpl := made_pl hown1; obtain ⟨kc, kf⟩ := hpl.2 of hof; have HPL := Lib.hid hpl; have HG1 := Lib.hid hg1; have HT1 := Lib.hid (HT0.out.far hg1 (by simp)); have k1 := (World.cell?_setCell_far w1 ⟨w0.heap.size, of, none⟩ ⟨w.heap.size, 0, none⟩ (.int .i64 1) (by have := HS0.out; simp only [ne_eq]; omega)).trans HT1.out.c0; clear hown1 hg1 hpl hi hz0 hz1 hz2 k0)
  have HP1 := Lib.hid (HPL.out.set (g := fun j => if j = of then 1 else 0) hof (d := 1) (fun j => rfl))
  have HB1 := Lib.hid ((HB0.out.grown HG1.out HB0.out.size (by simp)).setCell (p := ⟨w0.heap.size, of, none⟩) (by have := HS0.out; simp; omega) (.int .i64 1))
  have HT2 := Lib.hid (show TB (w1.setCell ⟨w0.heap.size, of, none⟩ (.int .i64 1)) w.heap.size A N cap c from (Below.heap_setCell _ _ _ _ (by have := HS0.out; simp; omega)).trans HT1.out)
  have HK0 := Lib.hid (show Pk T of (fun j => if j = of then (1 : Int) else 0) from ⟨fun j hj => by by_cases h : j = of <;> simp [h], fun j hj e => by (by_cases h : j = of; (subst h; exact wayN_self _ _); (simp [h] at e)), fun j hj e => by (by_cases h : j = of <;> simp [h] at e), by simp⟩)
  have HL1 := Lib.hid (show w0.heap.size + 1 ≤ (w1.setCell ⟨w0.heap.size, of, none⟩ (.int .i64 1)).heap.size from HP1.out.1)
  clear kc kf k1 HPL HG1 HT1
  generalize w1.setCell ⟨w0.heap.size, of, none⟩ (.int .i64 1) = w2 at *
  obtain ⟨P, hP⟩ : ∃ P, P = w0.heap.size := ⟨_, rfl⟩
  have HPW := Lib.hid (show P = w.heap.size + 1 from by rw [hP]; exact HS0.out)
  clear HS0
  rw [← hP] at HP1 HL1 ⊢
  clear hP
  go_loopw [6, 18] (fun ids iv wr => ∃ (j : Nat) (f : Nat → Int), iv = .int .i64 (j : Int) ∧ j ≤ N ∧ Hid (OwnId wr (P + 1) ids (T.kin of j)) ∧ Hid (Pl wr P N f) ∧ Hid (Pk T of f) ∧ Hid (Below w.heap.size w wr) ∧ Hid (TB wr w.heap.size A N cap c) ∧ Hid (P + 1 ≤ wr.heap.size)) (fun _ iv _ => N - (intOf iv).toNat)
  case atStart => exact ⟨0, _, rfl, Nat.zero_le _, OwnId.nil _ _, HP1.out, HK0.out, HB1.out, HT2.out, HL1.out⟩
  case round =>
    obtain ⟨j, f, rfl, hj, hown, hpl, hpk, hbl, htb, hsz⟩ := hrel
    clear HP1 HK0 HB1 HT2 HL1
    rcases Nat.lt_or_ge j N with hlt | hge
    · have c0 := htb.out.c0
      have c1 := htb.out.c1
      have hset := settle_any A T N cap N P c j of hlt f HN.out HG.out wr ((HT.out.below hbl.out)) hpl.out hpk.out (fun b o e => by have h1 := HT.out.lt b o e; have h2 := HPW.out; rcases h1 with h | h; (have h3 := HN.out; rw [h] at h3; simp at h3; omega); omega)
      have HSE := Lib.hid hset
      clear hset
      go_wp2_with fail
      refine HSE.out.mono ?_
      rintro e w3 ⟨rfl, ht3, f', hpl3, hpk3, hf3⟩
      have htb3 := htb.out.turn ht3 (by have := HPW.out; omega)
      have hown3 := hown.out.turn ht3 (fun k e h => by have := (hown.out.lt k e).1; omega)
      have hbl3 : Below w.heap.size w w3 := hbl.out.trans (ht3.below (fun k e => by have := HPW.out; omega) hbl.out.size)
      have hsz3 : P + 1 ≤ w3.heap.size := Nat.le_trans hsz.out ht3.size
      obtain ⟨kp, _⟩ := hpl3.2 j hlt
      have HPL3 := Lib.hid hpl3
      have HPK3 := Lib.hid hpk3
      have HTB3 := Lib.hid htb3
      have HOW3 := Lib.hid hown3
      have HBL3 := Lib.hid hbl3
      have HSZ3 := Lib.hid hsz3
      clear HSE ht3 hpl3 hpk3 htb3 hown3 hbl3 hsz3 c0 c1 hown hpl hpk hbl htb hsz
      have hjl : j < T.l.length := by rw [HN.out]; exact hlt
      rcases hf3 with hf3 | hf3
      · have HIN := Lib.hid (HPK3.out.yes j hjl hf3)
        rw [hf3] at kp
        clear hf3 hjl
        go_wp2_with (first | (at_builtin; refine wpList_append_id rfl _ _ rfl (P + 1) _ (T.kin of j) rfl (HOW3.out.below (below_new _ _)) _ j rfl ((cell_new w3 _ _ 0).trans rfl) (by have := kin_len T of j; omega) (Nat.le_trans HSZ3.out (by simp)) ?_; intro v' w5 hown5 hg5 hat5; have HO5 := Lib.hid hown5; have HG5 := Lib.hid hg5; clear hown5 hg5 hat5) | fail)
        go_roundw
        case rel =>
          have t5 : Turn (fun r => P + 1 ≤ r) w3 w5 := ((Turn.refl _ w3).alloc _).grown HG5.out (fun r e => .inl (HOW3.out.lt r e).1)
          exact ⟨j + 1, f', rfl, by omega, by rw [kin_succ, if_pos HIN.out]; exact HO5.out, HPL3.out.turn t5 (fun e => by omega), HPK3.out, HBL3.out.trans (t5.below (fun k e => by have := HPW.out; omega) HBL3.out.size), HTB3.out.turn t5 (fun e => by have := HPW.out; omega), Nat.le_trans HSZ3.out t5.size⟩
        case measure => simp [intOf]; omega
      · have HIN := Lib.hid (HPK3.out.no j hjl hf3)
        rw [hf3] at kp
        clear hf3 hjl
        go_wp2
        go_roundw
        case rel => exact ⟨j + 1, f', rfl, by omega, by rw [kin_succ, if_neg HIN.out]; exact HOW3.out, HPL3.out, HPK3.out, HBL3.out, HTB3.out, HSZ3.out⟩
        case measure => simp [intOf]; omega
    · obtain rfl : j = N := by omega
      go_wp2
      go_ret
      obtain ⟨A', k', rfl, hid, hlo⟩ := hown.out.form
      exact ⟨A', k', _, rfl, rfl, hid, hbl.out, fun b o e => by have := hlo b o e; have := HPW.out; omega⟩

end Go.Proofs.Ytohnfjneghbceaa
