/-
  How a slice of bytes lies in memory, whoever made it, and what appending to one of the call's own does: words and laws over any program.
-/
import Derived.WalkKit
import Derived.Maps.AppendAt
import Derived.Laws.OwnMore
import Derived.Laws.IdiomStrings
import Derived.Laws.Rows
import Derived.Deep.Draws
import Derived.Lib.Hide
namespace Go.Proofs.Ytjpnihmijnpjcaa
set_option maxRecDepth 100000
open Go.RowKit

/-- a byte as the program has it -/
def byteV (x : UInt8) : Value := .int .u8 (x.toNat : Int)
def byteVs (l : List UInt8) : List Value := l.map byteV

theorem byteVs_append (a b : List UInt8) : byteVs (a ++ b) = byteVs a ++ byteVs b := by simp [byteVs]
theorem length_byteVs (l : List UInt8) : (byteVs l).length = l.length := by simp [byteVs]
theorem byteVs_one (l : List UInt8) : ∀ u ∈ byteVs l, u.oneCell' = true := by
  intro u hu
  obtain ⟨x, _, rfl⟩ := List.mem_map.1 hu
  rfl

/-- the bytes l lie from the address on, in a block below B; of no bytes nothing is asked -/
def Rd (w : World) (B : Nat) (A : Option Addr) (l : List UInt8) : Prop :=
  l = [] ∨ ∃ b o, A = some ⟨b, o, none⟩ ∧ b < B ∧ ∀ j x, l[j]? = some x → w.cell? ⟨b, o + j, none⟩ = some (byteV x)

section
variable {w w' : World} {B B' : Nat} {A : Option Addr} {l : List UInt8}
theorem Rd.nil (w : World) (B : Nat) (A : Option Addr) : Rd w B A [] := .inl rfl
theorem Rd.keep (h : Rd w B A l) (hk : ∀ p : Addr, p.block < B → w'.cell? p = w.cell? p) : Rd w' B A l := by
  rcases h with h | ⟨b, o, e, hb, hc⟩
  · exact .inl h
  · exact .inr ⟨b, o, e, hb, fun j x hx => (hk ⟨b, o + j, none⟩ hb).trans (hc j x hx)⟩
theorem Rd.more (h : Rd w B A l) (hB : B ≤ B') : Rd w B' A l := by
  rcases h with h | ⟨b, o, e, hb, hc⟩
  · exact .inl h
  · exact .inr ⟨b, o, e, by omega, hc⟩
theorem Rd.below (h : Rd w B A l) (hb : Below B w w') : Rd w' B A l := h.keep fun _ hp => hb.cell hp
theorem Rd.below' (h : Rd w B A l) (hb : Below B' w w') (hB : B ≤ B') : Rd w' B A l := h.keep fun _ hp => hb.cell (by omega)
/-- what was there at the beginning reads so behind whatever the call has made -/
theorem Rd.up {W : World} (h : Rd w w.heap.size A l) (hb : Below w.heap.size w W) : Rd W W.heap.size A l := (h.below hb).more hb.size
theorem Rd.cell (h : Rd w B A l) {j : Nat} (hj : j < l.length) : ∃ b o, A = some ⟨b, o, none⟩ ∧ b < B ∧ w.cell? ⟨b, o + j, none⟩ = some (byteV l[j]) := by
  rcases h with h | ⟨b, o, e, hb, hc⟩
  · subst h; simp at hj
  · exact ⟨b, o, e, hb, hc j _ (List.getElem?_eq_getElem hj)⟩
theorem Rd.grown (h : Rd w B A l) {r : Nat} (hg : w.grownBy w' (some r)) (hB : B ≤ w.heap.size) (hr : B ≤ r) : Rd w' B A l :=
  h.keep fun p hp => World.cell?_of_block (hg.block p.block (by omega) (fun e => by injection e with e; omega))
/-- a cut of what lies there; at the very end the address may be whatever it was -/
theorem Rd.cut (h : Rd w B A l) (k n : Nat) (A' : Option Addr) (hA : ∀ b o, A = some ⟨b, o, none⟩ → k < l.length → A' = some ⟨b, o + k, none⟩) : Rd w B A' ((l.drop k).take n) := by
  rcases Nat.lt_or_ge k l.length with hk | hk
  · rcases h with h | ⟨b, o, e, hb, hc⟩
    · subst h; simp at hk
    · refine .inr ⟨b, o + k, hA b o e hk, hb, fun j x hx => ?_⟩
      rw [Nat.add_assoc]
      refine hc (k + j) x ?_
      rw [List.getElem?_take] at hx
      split at hx
      · rw [← hx, List.getElem?_drop]
      · cases hx
  · left
    rw [List.drop_eq_nil_of_le hk]
    simp
end

/-- the n bytes l, owned by the call: in blocks from base on, or no block -/
def Owns (w : World) (base : Nat) (A : Option Addr) (cap n : Nat) (l : List UInt8) : Prop :=
  w.ownsRow base 5 1 (.slice A n cap) n (byteVs l)

section
variable {w w' : World} {base : Nat} {A : Option Addr} {cap n : Nat} {l : List UInt8}
theorem Owns.len (h : Owns w base A cap n l) : l.length = n := by have := h.1; rw [length_byteVs] at this; omega
theorem Owns.read (h : Owns w base A cap n l) : Rd w w.heap.size A l := by
  have hlen := h.len
  rcases h.2 with ⟨e, hn⟩ | ⟨g, c, cur, e, hb, hh, _, _, _, _⟩
  · exact .inl (List.eq_nil_of_length_eq_zero (by omega))
  · injection e with e1 _ e3
    subst e1
    have hlt := h.lt g rfl
    refine .inr ⟨g, 0, rfl, hlt.2, fun j x hx => ?_⟩
    have hj := h.cells (g := g) rfl j (byteV x) (by simp [byteVs, hx])
    unfold Addr.add at hj
    rw [Nat.zero_add]
    split at hj
    · next h0 => subst h0; exact hj
    · simpa using hj
theorem Owns.base_le (h : Owns w base A cap n l) {b : Nat} (hb : b ≤ base) : Owns w b A cap n l := by
  refine ⟨h.1, ?_⟩
  rcases h.2 with h2 | ⟨g, c, cur, e, hg, rest⟩
  · exact .inl h2
  · exact .inr ⟨g, c, cur, e, Nat.le_trans hb hg, rest⟩
theorem Owns.below (h : Owns w base A cap n l) (hb : Below w.heap.size w w') : Owns w' base A cap n l := by
  refine ⟨h.1, ?_⟩
  rcases h.2 with h2 | ⟨g, c, cur, e, hg, hh, rest⟩
  · exact .inl h2
  · exact .inr ⟨g, c, cur, e, hg, (hb.block g (lt_of_block hh)).trans hh, rest⟩
theorem Owns.block (h : Owns w base A cap n l) (p : Addr) (e : A = some p) : base ≤ p.block ∧ p.block < w.heap.size := by
  subst e
  exact h.lt p.block rfl
end

/-- a call has made the n bytes l in new memory and answers them -/
def Made (w : World) (n : Nat) (l : List UInt8) (e : Ending) (w' : World) : Prop :=
  ∃ A cap, e = .returned (.slice A n cap) ∧ Owns w' w.heap.size A cap n l ∧ Below w.heap.size w w'

section
variable {P : Program}
/-- 'append' of bytes that lie anywhere to bytes of the call's own -/
theorem run_append_rd (base : Nat) (t ty : TypeId) (i : TypeInfo) (ht : P.underlying t = some (.slice 5)) (hi : P.info? 5 = some i) (hz : i.zero = some (.int .u8 0)) (hsize : i.size = 1) (hby : i.bytes = 1)
    {w : World} {v : Value} {n : Nat} {xs : List Value} (hown : w.ownsRow base 5 1 v n xs) {B : Nat} {A : Option Addr} {l : List UInt8} (hr : Rd w B A l) (m : Nat) (hm : l.length = m) (c : Nat)
    (hlen : n + m ≤ 1099511627776) (hbase : base ≤ w.heap.size) :
    ∃ v' w', (Builtin.append_ #[t, t] ty #[v, .slice A m c]).run P w = .ok v' w' ∧ w'.ownsRow base 5 1 v' (n + m) (xs ++ byteVs l) ∧ w.grownBy w' v.ownBlock ∧
      (v'.ownBlock = v.ownBlock ∨ v'.ownBlock = some w.heap.size) := by
  subst hm
  rcases A with _ | ad
  · have hl : l = [] := by
      rcases hr with h | ⟨b, o, e, _⟩
      · exact h
      · cases e
    subst hl
    have hrun : (Builtin.append_ #[t, t] ty #[v, .slice none 0 c]).run P w = .ok v w := by
      rcases hown.2 with ⟨rfl, rfl⟩ | ⟨g, cap, cur, rfl, _, _, hnc, _⟩
      · simp [Builtin.append_, run_underlying ht, sizeOf, typeInfo, hi, Builtin.lenOf, Builtin.firstCells]
      · simp [Builtin.append_, run_underlying ht, sizeOf, typeInfo, hi, Builtin.lenOf, Builtin.firstCells, hnc, storeCells]
    exact ⟨v, w, hrun, by simpa [byteVs] using hown, World.grownBy.refl w _, .inl rfl⟩
  · have hcells : ∀ j u, (byteVs l)[j]? = some u → w.cell? (ad.add j) = some u := by
      intro j u hu
      rcases hr with h | ⟨b, o, e, _, hc⟩
      · subst h; simp [byteVs] at hu
      · injection e with e
        subst e
        rw [byteVs, List.getElem?_map] at hu
        cases hx : l[j]? with
        | none => rw [hx] at hu; cases hu
        | some x =>
          rw [hx] at hu
          injection hu with hu
          have := hc j x hx
          rw [← hu, ← this]
          unfold Addr.add
          split
          · next h0 => subst h0; rfl
          · rfl
    obtain ⟨v', w', hrun, h2, h3, _, h5⟩ := run_append_own_at (P := P) w base t ty 5 i (.int .u8 0) 1 1 ht hi hz hsize hby rfl (by omega) v n xs hown ad l.length c (byteVs l) (by simp [length_byteVs]) hcells (byteVs_one l)
      (by simp only [maxLen]; omega) (by omega) hbase
    exact ⟨v', w', hrun, h2, h3, h5⟩

theorem wpList_append_rd {ops : Array Oper} {rest : List Oper} {o : Oper} {a : Act} {w : World} {Q : Exit → Act → World → Prop} (hgd : o.guard = none) (s x : Operand) (t : TypeId)
    (ho : o.op = .call { callee := .builtin .append, args := #[s, x], argTypes := #[t, t] })
    (base : Nat) (i : TypeInfo) (ht : P.underlying t = some (.slice 5)) (hi : P.info? 5 = some i) (hz : i.zero = some (.int .u8 0)) (hsize : i.size = 1) (hby : i.bytes = 1)
    (v : Value) (n : Nat) (xs : List Value) (hs : a.eval s = v) (hown : w.ownsRow base 5 1 v n xs)
    (B : Nat) (A : Option Addr) (l : List UInt8) (m c : Nat) (hx : a.eval x = .slice A m c) (hr : Rd w B A l) (hm : l.length = m)
    (hlen : n + m ≤ 1099511627776) (hbase : base ≤ w.heap.size)
    (h : ∀ v' w', w'.ownsRow base 5 1 v' (n + m) (xs ++ byteVs l) → w.grownBy w' v.ownBlock → (v'.ownBlock = v.ownBlock ∨ v'.ownBlock = some w.heap.size) → wpList P ops Q rest (a.put o.dst v') w') : wpList P ops Q (o :: rest) a w := by
  refine wpList_plain hgd fun K hK => ?_
  obtain ⟨v', w', hrun, h2, h3, h4⟩ := run_append_rd (P := P) base t o.type i ht hi hz hsize hby hown hr m hm c hlen hbase
  unfold Oper.wp
  simp [execOp, ho, resolve, invoke, builtin, hs, hx, hrun, Result.andThen]
  exact hK _ _ (h v' w' h2 h3 h4)

/-- 'string(b)' -/
theorem run_string_rd {w : World} {B : Nat} {A : Option Addr} {l : List UInt8} (hr : Rd w B A l) (src dst : TypeId) (hs : P.underlying src = some (.slice 5)) (he : P.underlying 5 = some (.int .u8)) (hd : P.underlying dst = some .string) (n c : Nat) (hn : l.length = n) :
    (convert src dst (.slice A n c)).run P w = .ok (.string ⟨l.toArray⟩) w := by
  subst hn
  rcases hr with h | ⟨b, o, e, _, hc⟩
  · subst h
    rw [run_convert_bytes_string w src dst 5 _ _ c hs he hd]
    cases A <;> simp [Conv.bytesToString, loadCells]
    all_goals rfl
  · subst e
    refine run_convert_bytes_back w src dst 5 _ c l hs he hd fun j hj => ?_
    have := hc j _ (List.getElem?_eq_getElem hj)
    unfold Addr.add
    split
    · next h0 => subst h0; exact this
    · exact this
end

/-- an owned row as a slice value -/
theorem own_form {w : World} {base n : Nat} {v : Value} {l : List UInt8} (h : w.ownsRow base 5 1 v n (byteVs l)) : ∃ A cap, v = .slice A n cap ∧ Owns w base A cap n l := by
  rcases h.2 with ⟨rfl, rfl⟩ | ⟨g, cap, cur, rfl, _⟩
  · exact ⟨none, 0, rfl, h⟩
  · exact ⟨_, cap, rfl, h⟩

theorem Made.of_own {w w' : World} {v : Value} {n m : Nat} {l : List UInt8} (h : w'.ownsRow w.heap.size 5 1 v n (byteVs l)) (hb : Below w.heap.size w w') (hm : n = m) : Made w m l (.returned v) w' := by
  subst hm
  obtain ⟨A, cap, rfl, h'⟩ := own_form h
  exact ⟨A, cap, rfl, h', hb⟩

/-- what 'append(out, x)' appends: one byte in a block of its own -/
theorem rd_one (w : World) (x : UInt8) (z : Int) (hz : z = (x.toNat : Int)) : Rd (w.alloc (.cells #[.int .u8 z] 5)) (w.heap.size + 1) (some ⟨w.heap.size, 0, none⟩) [x] := by
  subst hz
  refine .inr ⟨_, 0, rfl, by omega, fun j y hy => ?_⟩
  have hj : j = 0 := by
    have := (List.getElem?_eq_some_iff.1 hy).1
    simpa using this
  subst hj
  simp at hy
  subst hy
  rw [cell_of_row _ _ _ _ _ _ (heap_alloc_new w _)]
  rfl

theorem rd_two (w : World) (x y : UInt8) (z u : Int) (hz : z = (x.toNat : Int)) (hu : u = (y.toNat : Int)) : Rd (w.alloc (.cells #[.int .u8 z, .int .u8 u] 5)) (w.heap.size + 1) (some ⟨w.heap.size, 0, none⟩) [x, y] := by
  subst hz hu
  refine .inr ⟨_, 0, rfl, by omega, fun j t ht => ?_⟩
  rw [Nat.zero_add, cell_of_row _ _ _ _ _ _ (heap_alloc_new w _)]
  match j, ht with
  | 0, ht => simp at ht; subst ht; rfl
  | 1, ht => simp at ht; subst ht; rfl
  | j + 2, ht => simp at ht

theorem Owns.alloc {w : World} {base : Nat} {A : Option Addr} {cap n : Nat} {l : List UInt8} (h : Owns w base A cap n l) (o : Obj) : Owns (w.alloc o) base A cap n l := World.ownsRow.alloc h o

/-- an append onto what is owned leaves an owned row, and no old memory turned -/
theorem append_step {w wr w2 : World} {B n m : Nat} {A : Option Addr} {cap : Nat} {l x : List UInt8} {v2 : Value} {o : Obj} (ho : Owns wr B A cap n l) (hb : Below B w wr) (hB : B ≤ wr.heap.size)
    (hown : w2.ownsRow B 5 1 v2 (n + m) (byteVs l ++ byteVs x)) (hg : (wr.alloc o).grownBy w2 (Value.slice A n cap).ownBlock) : ∃ A' cap', v2 = .slice A' (n + m) cap' ∧ Owns w2 B A' cap' (n + m) (l ++ x) ∧ Below B w w2 := by
  rw [← byteVs_append] at hown
  obtain ⟨A', cap', rfl, h⟩ := own_form hown
  refine ⟨A', cap', rfl, h, (hb.alloc hB o).grown hg (by simp; omega) fun k hk => ?_⟩
  rcases A with _ | a
  · cases hk
  · have : k = a.block := by simpa [Value.ownBlock] using hk.symm
    subst this
    exact (ho.block a rfl).1

theorem append_step' {w wr w2 : World} {B n m : Nat} {A : Option Addr} {cap : Nat} {l x : List UInt8} {v2 : Value} (ho : Owns wr B A cap n l) (hb : Below B w wr) (hB : B ≤ wr.heap.size)
    (hown : w2.ownsRow B 5 1 v2 (n + m) (byteVs l ++ byteVs x)) (hg : wr.grownBy w2 (Value.slice A n cap).ownBlock) : ∃ A' cap', v2 = .slice A' (n + m) cap' ∧ Owns w2 B A' cap' (n + m) (l ++ x) ∧ Below B w w2 := by
  rw [← byteVs_append] at hown
  obtain ⟨A', cap', rfl, h⟩ := own_form hown
  refine ⟨A', cap', rfl, h, hb.grown hg hB fun k hk => ?_⟩
  rcases A with _ | a
  · cases hk
  · have : k = a.block := by simpa [Value.ownBlock] using hk.symm
    subst this
    exact (ho.block a rfl).1

theorem Below.own {B : Nat} {a w w' : World} {row : Option Nat} (h : Below B a w) (hg : w.grownBy w' row) (hB : B ≤ w.heap.size) (hr : ∀ k, row = some k → B ≤ k) : Below B a w' := h.grown hg hB hr

theorem ret_int {k : IntKind} {a b : Int} (h : a = b) : Ending.returned (.int k a) = .returned (.int k b) := by rw [h]

end Go.Proofs.Ytjpnihmijnpjcaa
