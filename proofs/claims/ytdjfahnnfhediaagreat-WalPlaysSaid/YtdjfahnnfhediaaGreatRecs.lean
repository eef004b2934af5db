/-
  Records in a row: a place and bytes each; a row of the call's own, and one that a call has answered.
-/
import Derived.Test.YtdjfahnnfhediaaGreatSectors
import Derived.Maps.AppendAt
import Derived.Laws.OwnMore
namespace Go.Proofs.YtdjfahnnfhediaaGreat
set_option maxRecDepth 100000
open Go.RowKit

theorem Lies.turn {w w' : World} {X : Nat → Prop} {base n c : Nat} {A : Option Addr} {l : List UInt8} (h : Lies w A c n l) (hu : Up base A l) (ht : Turn X w w') (hX : ∀ k, X k → k < base) : Lies w' A c n l := by
  refine ⟨?_, h.len, h.cap⟩
  rcases h.rd with h0 | ⟨b, o, e, hb, hc⟩
  · exact .inl h0
  · rcases hu with h0 | hu
    · exact .inl h0
    · refine .inr ⟨b, o, e, Nat.lt_of_lt_of_le hb ht.size, fun j x hx => ?_⟩
      exact ht.cell (hc j x hx) (fun hx2 => by have h1 := hX b hx2; have h2 := hu _ e; simp only at h2; omega)
theorem LsN.turn {w w' : World} {X : Nat → Prop} {base : Nat} {A : Option Addr} {ls : List (List UInt8)} (h : LsN w base A ls) (ht : Turn X w w') (hX : ∀ k, X k → k < base) : LsN w' base A ls := by
  rcases h with h | ⟨b, o, e, hb, hp⟩
  · exact .inl h
  · refine .inr ⟨b, o, e, ⟨hb.1, Nat.lt_of_lt_of_le hb.2 ht.size⟩, fun j x hx => ?_⟩
    obtain ⟨Ax, n, c, h1, h2, h3⟩ := hp j x hx
    exact ⟨Ax, n, c, ht.cell h1 (fun hx2 => by have := hX b hx2; omega), h2.turn h3 ht hX, h3⟩
theorem LsN.up {w w' : World} {base : Nat} {A : Option Addr} {ls : List (List UInt8)} (h : LsN w base A ls) (hb : Below w.heap.size w w') : LsN w' base A ls :=
  h.turn (X := fun _ => False) ⟨hb.os, hb.tape, hb.output, hb.size, fun k hk _ => hb.block k hk⟩ (fun _ h => h.elim)
/-- the slices from one on -/
theorem LsN.drop {w : World} {base : Nat} {A : Option Addr} {ls : List (List UInt8)} (h : LsN w base A ls) (k : Nat) (A2 : Option Addr) (hA : ∀ b o, A = some ⟨b, o, none⟩ → k < ls.length → A2 = some ⟨b, o + k, none⟩) : LsN w base A2 (ls.drop k) := by
  rcases Nat.lt_or_ge k ls.length with hk | hk
  · rcases h with h | ⟨b, o, e, hb, hp⟩
    · rw [h] at hk; simp at hk
    · refine .inr ⟨b, o + k, hA b o e hk, hb, fun j x hx => ?_⟩
      rw [List.getElem?_drop] at hx
      rw [Nat.add_assoc]
      exact hp (k + j) x hx
  · exact .inl (List.drop_eq_nil_of_le hk)

/-- where a record's bytes lie -/
structure Pl where
  at_ : Int
  A : Option Addr
  n : Nat
  c : Nat
def recC : List Pl → List Value
  | [] => []
  | p :: l => .int .i64 p.at_ :: .slice p.A p.n p.c :: recC l
theorem recC_append : ∀ a b : List Pl, recC (a ++ b) = recC a ++ recC b
  | [], _ => rfl
  | p :: a, b => by simp [recC, recC_append a b]
theorem length_recC : ∀ l : List Pl, (recC l).length = l.length * 2
  | [] => rfl
  | p :: l => by simp [recC, length_recC l]; omega
theorem recC_get : ∀ (l : List Pl) (j : Nat) (p : Pl), l[j]? = some p → (recC l)[j * 2]? = some (.int .i64 p.at_) ∧ (recC l)[j * 2 + 1]? = some (.slice p.A p.n p.c)
  | [], j, p, h => by simp at h
  | q :: l, 0, p, h => by simp at h; subst h; exact ⟨rfl, rfl⟩
  | q :: l, j + 1, p, h => by
    have := recC_get l j p (by simpa using h)
    rw [show (j + 1) * 2 = j * 2 + 1 + 1 from by omega]
    exact this

/-- records in a row of the call's own -/
def Rs (T : TypeId) (w : World) (base : Nat) (v : Value) (rs : List (Int × List UInt8)) : Prop :=
  ∃ ps : List Pl, ps.length = rs.length ∧ w.ownsRow base T 2 v rs.length (recC ps) ∧ ∀ (j : Nat) (r : Int × List UInt8), rs[j]? = some r → ∃ A n c, ps[j]? = some ⟨r.1, A, n, c⟩ ∧ Lies w A c n r.2 ∧ Far A r.2 v.ownBlock ∧ Up base A r.2

/-- records that a call has answered, in blocks that are not below base -/
def RsN (w : World) (base : Nat) (A : Option Addr) (rs : List (Int × List UInt8)) : Prop :=
  rs = [] ∨ ∃ b, A = some ⟨b, 0, none⟩ ∧ (base ≤ b ∧ b < w.heap.size) ∧ ∀ (j : Nat) (r : Int × List UInt8), rs[j]? = some r → w.cell? ⟨b, j * 2, none⟩ = some (.int .i64 r.1) ∧ ∃ Ax n c, w.cell? ⟨b, j * 2 + 1, none⟩ = some (.slice Ax n c) ∧ Lies w Ax c n r.2 ∧ Up base Ax r.2

section
variable {T : TypeId} {w w' : World} {base : Nat} {v : Value} {rs : List (Int × List UInt8)}
theorem Rs.nil (T : TypeId) (w : World) (base : Nat) : Rs T w base (.slice none 0 0) [] := ⟨[], rfl, World.ownsRow_nil _ _ _ _, fun j r hr => by simp at hr⟩
theorem Rs.lt (h : Rs T w base v rs) : ∀ k, v.ownBlock = some k → base ≤ k ∧ k < w.heap.size := by
  obtain ⟨ps, _, ho, _⟩ := h
  exact ho.lt
theorem Rs.turn (h : Rs T w base v rs) {X : Nat → Prop} (ht : Turn X w w') (hX : ∀ k, X k → k < base) : Rs T w' base v rs := by
  obtain ⟨ps, hp, ho, he⟩ := h
  refine ⟨ps, hp, ⟨ho.1, ?_⟩, fun j r hr => ?_⟩
  · rcases ho.2 with h2 | ⟨g, c, cur, e, hg, hh, rest⟩
    · exact .inl h2
    · exact .inr ⟨g, c, cur, e, hg, (ht.block g (lt_of_block hh) (fun hx => by have := hX g hx; omega)).trans hh, rest⟩
  · obtain ⟨A, n, c, h1, h2, h3, h4⟩ := he j r hr
    exact ⟨A, n, c, h1, h2.turn h4 ht hX, h3, h4⟩
theorem Rs.below (h : Rs T w base v rs) (hb : Below w.heap.size w w') : Rs T w' base v rs :=
  h.turn (X := fun _ => False) ⟨hb.os, hb.tape, hb.output, hb.size, fun k hk _ => hb.block k hk⟩ (fun _ h => h.elim)
theorem Rs.form (h : Rs T w base v rs) : ∃ A c, v = .slice A rs.length c ∧ RsN w base A rs ∧ rs.length ≤ c := by
  obtain ⟨ps, hp, ho, he⟩ := h
  rcases ho.2 with ⟨rfl, hn⟩ | ⟨g, cap, cur, rfl, hg, _, hnc, _⟩
  · have : rs = [] := List.eq_nil_of_length_eq_zero (by omega)
    subst this
    exact ⟨none, 0, rfl, .inl rfl, Nat.le_refl _⟩
  · refine ⟨_, cap, rfl, .inr ⟨g, rfl, ⟨hg, (ho.lt g rfl).2⟩, fun j r hr => ?_⟩, hnc⟩
    have hj : j < rs.length := (List.getElem?_eq_some_iff.1 hr).1
    obtain ⟨A, n, c, h1, h2, _, h4⟩ := he j r hr
    have := recC_get ps j _ h1
    exact ⟨(ho.cellAt (j * 2) (by omega)).trans this.1, A, n, c, (ho.cellAt (j * 2 + 1) (by omega)).trans this.2, h2, h4⟩
theorem RsN.turn {A : Option Addr} (h : RsN w base A rs) {X : Nat → Prop} (ht : Turn X w w') (hX : ∀ k, X k → k < base) : RsN w' base A rs := by
  rcases h with h | ⟨b, e, hb, hp⟩
  · exact .inl h
  · refine .inr ⟨b, e, ⟨hb.1, Nat.lt_of_lt_of_le hb.2 ht.size⟩, fun j r hr => ?_⟩
    obtain ⟨h0, Ax, n, c, h1, h2, h3⟩ := hp j r hr
    have hn : ¬ X b := fun hx => by have := hX b hx; omega
    exact ⟨ht.cell h0 hn, Ax, n, c, ht.cell h1 hn, h2.turn h3 ht hX, h3⟩
theorem RsN.up {A : Option Addr} (h : RsN w base A rs) (hb : Below w.heap.size w w') : RsN w' base A rs :=
  h.turn (X := fun _ => False) ⟨hb.os, hb.tape, hb.output, hb.size, fun k hk _ => hb.block k hk⟩ (fun _ h => h.elim)
theorem RsN.le {A : Option Addr} (h : RsN w base A rs) {b : Nat} (hb : b ≤ base) : RsN w b A rs := by
  rcases h with h | ⟨g, e, hg, hp⟩
  · exact .inl h
  · refine .inr ⟨g, e, ⟨Nat.le_trans hb hg.1, hg.2⟩, fun j r hr => ?_⟩
    obtain ⟨h0, Ax, n, c, h1, h2, h3⟩ := hp j r hr
    exact ⟨h0, Ax, n, c, h1, h2, h3.le hb⟩

theorem rec_facts : (Tryz.prog.info? 53).map (fun i => (i.zero, i.size, i.bytes)) = some (some (.agg #[.int .i64 0, .slice none 0 0]), 2, 32) := by kernel_rfl
theorem refrec_facts : (Tryz.prog.info? 92).map (fun i => (i.zero, i.size, i.bytes)) = some (some (.agg #[.int .i64 0, .slice none 0 0]), 2, 32) := by kernel_rfl

theorem two_cells (w : World) (x y : Value) (t : TypeId) (g : Nat) (hg : w.heap.size = g) : ∀ j u, [x, y][j]? = some u → (w.alloc (.cells #[x, y] t)).cell? ((⟨g, 0, none⟩ : Addr).add j) = some u := by
  subst hg
  intro j u hu
  match j, hu with
  | 0, hu =>
    show (w.alloc _).cell? ⟨w.heap.size, 0, none⟩ = _
    rw [cell_of_row _ _ _ _ _ _ (heap_alloc_new w _)]
    exact hu
  | 1, hu =>
    show (w.alloc _).cell? ⟨w.heap.size, 0 + 1, none⟩ = _
    rw [cell_of_row _ _ _ _ _ _ (heap_alloc_new w _)]
    exact hu
  | j + 2, hu => simp at hu

/-- an append of one record onto the call's own -/
theorem Rs.step {wr w2 : World} {v2 : Value} {x : Int} {A : Option Addr} {n c : Nat} {l : List UInt8} (h : ∃ ps : List Pl, ps.length = rs.length ∧ w2.ownsRow base T 2 v2 (rs.length + 1) (recC ps ++ [.int .i64 x, .slice A n c]) ∧ ∀ (j : Nat) (r : Int × List UInt8), rs[j]? = some r → ∃ A n c, ps[j]? = some ⟨r.1, A, n, c⟩ ∧ Lies wr A c n r.2 ∧ Far A r.2 v.ownBlock ∧ Up base A r.2)
    (hx : Lies wr A c n l) (hf : Far A l v.ownBlock) (hu : Up base A l) (hg : wr.grownBy w2 v.ownBlock) (hat : v2.ownBlock = v.ownBlock ∨ v2.ownBlock = some wr.heap.size) : Rs T w2 base v2 (rs ++ [(x, l)]) := by
  obtain ⟨ps, hp, ho, he⟩ := h
  refine ⟨ps ++ [⟨x, A, n, c⟩], by simp [hp], by rw [List.length_append, recC_append]; exact ho, fun j r hr => ?_⟩
  have key : ∀ (A' : Option Addr) (n' c' : Nat) (l' : List UInt8), Lies wr A' c' n' l' → Far A' l' v.ownBlock → Up base A' l' → Lies w2 A' c' n' l' ∧ Far A' l' v2.ownBlock ∧ Up base A' l' := by
    intro A' n' c' l' h1 h2 h3
    refine ⟨h1.far h2 hg, ?_, h3⟩
    rcases hat with h | h
    · rw [h]; exact h2
    · rw [h]; exact Far.new h1 (Nat.le_refl _)
  rcases Nat.lt_or_ge j rs.length with hj | hj
  · rw [List.getElem?_append_left hj] at hr
    obtain ⟨A', n', c', h1, h2, h3, h4⟩ := he j r hr
    exact ⟨A', n', c', by rw [List.getElem?_append_left (by omega)]; exact h1, key _ _ _ _ h2 h3 h4⟩
  · rw [List.getElem?_append_right hj] at hr
    have hj1 : j - rs.length = 0 := by
      have := (List.getElem?_eq_some_iff.1 hr).1
      simp only [List.length_singleton] at this
      omega
    rw [hj1] at hr
    simp only [List.getElem?_cons_zero, Option.some.injEq] at hr
    subst hr
    exact ⟨A, n, c, by rw [List.getElem?_append_right (by omega), hp, hj1]; rfl, key _ _ _ _ hx hf hu⟩
end

/-- 'append(l, Rec{x, b})' onto the call's own: what it runs to -/
theorem run_append_rec {P : Program} {T : TypeId} {w : World} (t ty : TypeId) (base : Nat) (i : TypeInfo) (ht : P.underlying t = some (.slice T)) (hi : P.info? T = some i) (hz : i.zero = some (.agg #[.int .i64 0, .slice none 0 0])) (hsize : i.size = 2) (hby : i.bytes = 32)
    (v : Value) (rs : List (Int × List UInt8)) (hown : Rs T w base v rs) (n : Nat) (hn : rs.length = n)
    (g : Nat) (z : Int) (A : Option Addr) (m c : Nat) (l : List UInt8) (hc : ∀ j u, [Value.int .i64 z, .slice A m c][j]? = some u → w.cell? ((⟨g, 0, none⟩ : Addr).add j) = some u)
    (hl : Lies w A c m l) (hf : Far A l v.ownBlock) (hu : Up base A l) (hlen : n ≤ 1000000) (hbase : base ≤ w.heap.size) :
    ∃ v' w', (Builtin.append_ #[t, t] ty #[v, .slice (some ⟨g, 0, none⟩) 1 1]).run P w = .ok v' w' ∧ Rs T w' base v' (rs ++ [(z, l)]) ∧ w.grownBy w' v.ownBlock ∧ (v'.ownBlock = v.ownBlock ∨ v'.ownBlock = some w.heap.size) := by
  obtain ⟨ps, hp, hown, he⟩ := hown
  subst hn
  obtain ⟨v', w', hr, h2, h3, h4, h5⟩ := run_append_own_at (P := P) w base t ty T i (.agg #[.int .i64 0, .slice none 0 0]) 2 32 ht hi hz hsize hby rfl (by decide) v rs.length (recC ps) hown ⟨g, 0, none⟩ 1 1 [.int .i64 z, .slice A m c] rfl hc
    (by intro u hu; simp at hu; rcases hu with rfl | rfl <;> rfl) (by unfold maxLen; omega) (by omega) hbase
  exact ⟨v', w', hr, Rs.step ⟨ps, hp, h2, he⟩ hl hf hu h3 h5, h3, h5⟩

/-- 'append(l, Rec{x, b})' onto the call's own -/
theorem wpList_append_rec {P : Program} {T : TypeId} {ops : Array Oper} {rest : List Oper} {o : Oper} {a : Act} {w : World} {Q : Exit → Act → World → Prop} (hgd : o.guard = none) (s x : Operand) (t : TypeId)
    (ho : o.op = .call { callee := .builtin .append, args := #[s, x], argTypes := #[t, t] })
    (base : Nat) (i : TypeInfo) (ht : P.underlying t = some (.slice T)) (hi : P.info? T = some i) (hz : i.zero = some (.agg #[.int .i64 0, .slice none 0 0])) (hsize : i.size = 2) (hby : i.bytes = 32)
    (v : Value) (rs : List (Int × List UInt8)) (hs : a.eval s = v) (hown : Rs T w base v rs) (n : Nat) (hn : rs.length = n)
    (g : Nat) (z : Int) (A : Option Addr) (m c : Nat) (l : List UInt8) (hx : a.eval x = .slice (some ⟨g, 0, none⟩) 1 1) (hc : ∀ j u, [Value.int .i64 z, .slice A m c][j]? = some u → w.cell? ((⟨g, 0, none⟩ : Addr).add j) = some u)
    (hl : Lies w A c m l) (hf : Far A l v.ownBlock) (hu : Up base A l) (hlen : n ≤ 1000000) (hbase : base ≤ w.heap.size)
    (h : ∀ v' w', Rs T w' base v' (rs ++ [(z, l)]) → w.grownBy w' v.ownBlock → wpList P ops Q rest (a.put o.dst v') w') : wpList P ops Q (o :: rest) a w := by
  obtain ⟨ps, hp, hown, he⟩ := hown
  subst hn
  refine wpList_append_own_at w hgd s x t ho base T i (.agg #[.int .i64 0, .slice none 0 0]) 2 32 ht hi hz hsize hby rfl (by decide) v rs.length (recC ps) hs hown ⟨g, 0, none⟩ 1 1 [.int .i64 z, .slice A m c] hx rfl hc
    (by intro u hu; simp at hu; rcases hu with rfl | rfl <;> rfl) (by unfold maxLen; omega) (by omega) hbase ?_
  intro v' w' hown' hg' _ hat'
  exact h v' w' (Rs.step ⟨ps, hp, hown', he⟩ hl hf hu hg' hat') hg'

end Go.Proofs.YtdjfahnnfhediaaGreat
