/-
  Slices of bytes in a row: that came in, that were made, that are appended to.
-/
import Derived.Test.YtdjfahnnfhediaaGreatBase
import Derived.Test.YtdjfahnnfhediaaGreatRead6
namespace Go.Proofs.YtdjfahnnfhediaaGreat
set_option maxRecDepth 100000
open Go.RowKit Crc Wm

/-- the slices of bytes lie from the address on; of none nothing is asked -/
def Ls (w : World) (A : Option Addr) (ls : List (List UInt8)) : Prop := ls = [] ∨ ∃ b o, A = some ⟨b, o, none⟩ ∧ Parts w b o ls
theorem Ls.up {w W : World} {A : Option Addr} {ls : List (List UInt8)} (h : Ls w A ls) (hb : Below w.heap.size w W) : Ls W A ls := by
  rcases h with h | ⟨b, o, e, hp⟩
  · exact .inl h
  · exact .inr ⟨b, o, e, hp.up hb⟩
theorem Ls.at_ {w : World} {A : Option Addr} {ls : List (List UInt8)} (h : Ls w A ls) {j : Nat} {x : List UInt8} (hx : ls[j]? = some x) : ∃ b o Ax n c, A = some ⟨b, o, none⟩ ∧ b < w.heap.size ∧ w.cell? ⟨b, o + j, none⟩ = some (.slice Ax n c) ∧ Lies w Ax c n x := by
  rcases h with h | ⟨b, o, e, hp⟩
  · rw [h] at hx; simp at hx
  · obtain ⟨Ax, n, c, h1, h2⟩ := hp.2 j x hx
    exact ⟨b, o, Ax, n, c, e, hp.1, h1, h2⟩

/-- the bytes lie in another block than g -/
def Far (A : Option Addr) (l : List UInt8) (g : Option Nat) : Prop := l = [] ∨ ∀ a, A = some a → some a.block ≠ g
theorem Lies.lt {w : World} {A : Option Addr} {c n : Nat} {l : List UInt8} (h : Lies w A c n l) : l = [] ∨ ∀ a, A = some a → a.block < w.heap.size := by
  rcases h.rd with h | ⟨b, o, e, hb, _⟩
  · exact .inl h
  · refine .inr fun a ha => ?_
    rw [e] at ha
    injection ha with ha
    subst ha
    exact hb
theorem Lies.far {w w' : World} {A : Option Addr} {c n : Nat} {l : List UInt8} {g : Option Nat} (h : Lies w A c n l) (hf : Far A l g) (hg : w.grownBy w' g) : Lies w' A c n l := by
  refine ⟨?_, h.len, h.cap⟩
  rcases h.rd with h0 | ⟨b, o, e, hb, hc⟩
  · exact .inl h0
  · rcases hf with h0 | hf
    · exact .inl h0
    · refine .inr ⟨b, o, e, Nat.lt_of_lt_of_le hb hg.size, fun j x hx => ?_⟩
      exact (World.cell?_of_block (hg.block b hb (hf _ e))).trans (hc j x hx)
theorem Far.new {w : World} {A : Option Addr} {c n : Nat} {l : List UInt8} (h : Lies w A c n l) {g : Nat} (hg : w.heap.size ≤ g) : Far A l (some g) := by
  rcases h.lt with h0 | h0
  · exact .inl h0
  · exact .inr fun a ha e => by injection e with e; have := h0 a ha; omega

theorem sl_facts : (Tryz.prog.info? 41).map (fun i => (i.zero, i.size, i.bytes)) = some (some (.slice none 0 0), 1, 24) := by kernel_rfl

/-- the bytes lie in a block that is not below base -/
def Up (base : Nat) (A : Option Addr) (l : List UInt8) : Prop := l = [] ∨ ∀ a, A = some a → base ≤ a.block
theorem Up.le {base b : Nat} {A : Option Addr} {l : List UInt8} (h : Up base A l) (hb : b ≤ base) : Up b A l := by
  rcases h with h | h
  · exact .inl h
  · exact .inr fun a ha => Nat.le_trans hb (h a ha)

/-- slices of bytes in a row, all of it in blocks that are not below base -/
def LsN (w : World) (base : Nat) (A : Option Addr) (ls : List (List UInt8)) : Prop :=
  ls = [] ∨ ∃ b o, A = some ⟨b, o, none⟩ ∧ (base ≤ b ∧ b < w.heap.size) ∧ ∀ (j : Nat) (x : List UInt8), ls[j]? = some x → ∃ Ax n c, w.cell? ⟨b, o + j, none⟩ = some (.slice Ax n c) ∧ Lies w Ax c n x ∧ Up base Ax x

/-- a row of slices of bytes, the call's own -/
def Rw (w : World) (base : Nat) (v : Value) (ls : List (List UInt8)) : Prop :=
  ∃ vs : List Value, w.ownsRow base 41 1 v ls.length vs ∧ ∀ (j : Nat) (x : List UInt8), ls[j]? = some x → ∃ A n c, vs[j]? = some (Value.slice A n c) ∧ Lies w A c n x ∧ Far A x v.ownBlock ∧ Up base A x

theorem Rw.form {w : World} {base : Nat} {v : Value} {ls : List (List UInt8)} (h : Rw w base v ls) : ∃ A c, v = .slice A ls.length c ∧ Ls w A ls ∧ ls.length ≤ c := by
  obtain ⟨vs, ho, he⟩ := h
  rcases ho.2 with ⟨rfl, hn⟩ | ⟨g, cap, cur, rfl, _, _, hnc, _⟩
  · have : ls = [] := List.eq_nil_of_length_eq_zero (by omega)
    subst this
    exact ⟨none, 0, rfl, .inl rfl, Nat.le_refl _⟩
  · refine ⟨_, cap, rfl, ?_, hnc⟩
    rcases Nat.eq_zero_or_pos ls.length with h0 | h0
    · exact .inl (List.eq_nil_of_length_eq_zero h0)
    · refine .inr ⟨g, 0, rfl, (ho.lt g rfl).2, fun j x hx => ?_⟩
      obtain ⟨A, n, c, h1, h2, _⟩ := he j x hx
      refine ⟨A, n, c, ?_, h2⟩
      have hj := ho.cells (g := g) rfl j _ h1
      unfold Addr.add at hj
      rw [Nat.zero_add]
      split at hj
      · next h0 => subst h0; exact hj
      · simpa using hj
theorem Rw.lsn {w : World} {base n c : Nat} {A : Option Addr} {ls : List (List UInt8)} (h : Rw w base (.slice A n c) ls) : LsN w base A ls := by
  obtain ⟨vs, ho, he⟩ := h
  rcases ho.2 with ⟨e, hn⟩ | ⟨g, cap, cur, e, hg, _, hnc, _⟩
  · exact .inl (List.eq_nil_of_length_eq_zero (by omega))
  · injection e with e1 e2 e3
    subst e1
    refine .inr ⟨g, 0, rfl, ⟨hg, (ho.lt g rfl).2⟩, fun j x hx => ?_⟩
    obtain ⟨A', n', c', h1, h2, _, h4⟩ := he j x hx
    refine ⟨A', n', c', ?_, h2, h4⟩
    have hj := ho.cells (g := g) rfl j _ h1
    unfold Addr.add at hj
    rw [Nat.zero_add]
    split at hj
    · next h0 => subst h0; exact hj
    · simpa using hj
theorem LsN.ls {w : World} {base : Nat} {A : Option Addr} {ls : List (List UInt8)} (h : LsN w base A ls) : Ls w A ls := by
  rcases h with h | ⟨b, o, e, hb, hp⟩
  · exact .inl h
  · refine .inr ⟨b, o, e, hb.2, fun j x hx => ?_⟩
    obtain ⟨Ax, n, c, h1, h2, _⟩ := hp j x hx
    exact ⟨Ax, n, c, h1, h2⟩
theorem LsN.le {w : World} {base b : Nat} {A : Option Addr} {ls : List (List UInt8)} (h : LsN w base A ls) (hb : b ≤ base) : LsN w b A ls := by
  rcases h with h | ⟨g, o, e, hg, hp⟩
  · exact .inl h
  · refine .inr ⟨g, o, e, ⟨Nat.le_trans hb hg.1, hg.2⟩, fun j x hx => ?_⟩
    obtain ⟨Ax, n, c, h1, h2, h3⟩ := hp j x hx
    exact ⟨Ax, n, c, h1, h2, h3.le hb⟩
theorem Rw.nil (w : World) (base : Nat) : Rw w base (.slice none 0 0) [] := ⟨[], World.ownsRow_nil _ _ _ _, fun j x hx => by simp at hx⟩
theorem Rw.lt {w : World} {base : Nat} {v : Value} {ls : List (List UInt8)} (h : Rw w base v ls) : ∀ k, v.ownBlock = some k → base ≤ k ∧ k < w.heap.size := by
  obtain ⟨vs, ho, _⟩ := h
  exact ho.lt
theorem Rw.below {w W : World} {base : Nat} {v : Value} {ls : List (List UInt8)} (h : Rw w base v ls) (hb : Below w.heap.size w W) : Rw W base v ls := by
  obtain ⟨vs, ho, he⟩ := h
  refine ⟨vs, ?_, fun j x hx => ?_⟩
  · refine ⟨ho.1, ?_⟩
    rcases ho.2 with h2 | ⟨g, c, cur, e, hg, hh, rest⟩
    · exact .inl h2
    · exact .inr ⟨g, c, cur, e, hg, (hb.block g (lt_of_block hh)).trans hh, rest⟩
  · obtain ⟨A, n, c, h1, h2, h3⟩ := he j x hx
    exact ⟨A, n, c, h1, h2.up hb, h3⟩
theorem Rw.base_le {w : World} {base b : Nat} {v : Value} {ls : List (List UInt8)} (h : Rw w base v ls) (hb : b ≤ base) : Rw w b v ls := by
  obtain ⟨vs, ho, he⟩ := h
  refine ⟨vs, ⟨ho.1, ?_⟩, fun j x hx => by obtain ⟨A, n, c, h1, h2, h3, h4⟩ := he j x hx; exact ⟨A, n, c, h1, h2, h3, h4.le hb⟩⟩
  rcases ho.2 with h2 | ⟨g, c, cur, e, hg, rest⟩
  · exact .inl h2
  · exact .inr ⟨g, c, cur, e, Nat.le_trans hb hg, rest⟩

/-- slices that lie in a row, as values -/
theorem Ls.vals {w : World} {b o : Nat} {ls : List (List UInt8)} (h : Parts w b o ls) : ∃ vs : List Value, vs.length = ls.length ∧ (∀ j u, vs[j]? = some u → w.cell? ((⟨b, o, none⟩ : Addr).add j) = some u) ∧ (∀ u ∈ vs, u.oneCell' = true) ∧
    ∀ (j : Nat) (x : List UInt8), ls[j]? = some x → ∃ A n c, vs[j]? = some (Value.slice A n c) ∧ Lies w A c n x := by
  refine ⟨(List.range ls.length).map fun j => (w.cell? ⟨b, o + j, none⟩).getD undef, by simp, fun j u hu => ?_, fun u hu => ?_, fun j x hx => ?_⟩
  · have hj : j < ls.length := by have := (List.getElem?_eq_some_iff.1 hu).1; simpa using this
    obtain ⟨A, n, c, h1, _⟩ := h.2 j _ (List.getElem?_eq_getElem hj)
    have e : (⟨b, o, none⟩ : Addr).add j = ⟨b, o + j, none⟩ := by
      unfold Addr.add
      split
      · next h0 => subst h0; rfl
      · rfl
    rw [e, h1]
    rw [List.getElem?_map, List.getElem?_range hj] at hu
    simp only [Option.map_some, Option.some.injEq] at hu
    rw [← hu, h1]
    rfl
  · obtain ⟨j, hj, rfl⟩ := List.mem_map.1 hu
    have hj : j < ls.length := by simpa using hj
    obtain ⟨A, n, c, h1, _⟩ := h.2 j _ (List.getElem?_eq_getElem hj)
    rw [h1]
    rfl
  · have hj : j < ls.length := (List.getElem?_eq_some_iff.1 hx).1
    obtain ⟨A, n, c, h1, h2⟩ := h.2 j x hx
    exact ⟨A, n, c, by rw [List.getElem?_map, List.getElem?_range hj]; simp [h1], h2⟩


section
variable {P : Program}
/-- 'append' of slices of bytes that lie in a row to a row of the call's own -/
theorem wpList_append_rw {ops : Array Oper} {rest : List Oper} {o : Oper} {a : Act} {w : World} {Q : Exit → Act → World → Prop} (hgd : o.guard = none) (s x : Operand) (t : TypeId)
    (ho : o.op = .call { callee := .builtin .append, args := #[s, x], argTypes := #[t, t] })
    (base : Nat) (i : TypeInfo) (ht : P.underlying t = some (.slice 41)) (hi : P.info? 41 = some i) (hz : i.zero = some (.slice none 0 0)) (hsize : i.size = 1) (hby : i.bytes = 24)
    (v : Value) (xs : List (List UInt8)) (hs : a.eval s = v) (hown : Rw w base v xs)
    (A : Option Addr) (ls : List (List UInt8)) (m c : Nat) (hx : a.eval x = .slice A m c) (hr : Ls w A ls) (hm : ls.length = m)
    (hfar : ∀ b o, A = some ⟨b, o, none⟩ → ∀ j l, ls[j]? = some l → ∀ A' n c, w.cell? ⟨b, o + j, none⟩ = some (.slice A' n c) → Far A' l v.ownBlock ∧ Up base A' l)
    (hlen : xs.length + m ≤ 1000000) (hbase : base ≤ w.heap.size)
    (h : ∀ v' w', Rw w' base v' (xs ++ ls) → w.grownBy w' v.ownBlock → (v'.ownBlock = v.ownBlock ∨ v'.ownBlock = some w.heap.size) → wpList P ops Q rest (a.put o.dst v') w') : wpList P ops Q (o :: rest) a w := by
  subst hm
  refine wpList_plain hgd fun K hK => ?_
  obtain ⟨vs, hown, hel⟩ := hown
  have key : ∃ v' w', (Builtin.append_ #[t, t] o.type #[v, .slice A ls.length c]).run P w = .ok v' w' ∧ Rw w' base v' (xs ++ ls) ∧ w.grownBy w' v.ownBlock ∧ (v'.ownBlock = v.ownBlock ∨ v'.ownBlock = some w.heap.size) := by
    rcases hr with h0 | ⟨b, of, rfl, hp⟩
    · subst h0
      rcases A with _ | ad
      · have hrun : (Builtin.append_ #[t, t] o.type #[v, .slice none 0 c]).run P w = .ok v w := by
          rcases hown.2 with ⟨rfl, hn⟩ | ⟨g, cap, cur, rfl, _, _, hnc, _⟩
          · simp [Builtin.append_, run_underlying ht, sizeOf, typeInfo, hi, Builtin.lenOf, Builtin.firstCells]
          · simp [Builtin.append_, run_underlying ht, sizeOf, typeInfo, hi, Builtin.lenOf, Builtin.firstCells, hnc, storeCells]
        exact ⟨v, w, hrun, by rw [List.append_nil]; exact ⟨vs, hown, hel⟩, World.grownBy.refl w _, .inl rfl⟩
      · obtain ⟨v', w', hrun, h2, h3, _, h5⟩ := run_append_own_at (P := P) w base t o.type 41 i (.slice none 0 0) 1 24 ht hi hz hsize hby rfl (by omega) v xs.length vs hown ad 0 c [] (by simp) (by simp) (by simp)
          (by unfold maxLen; omega) (by omega) hbase
        refine ⟨v', w', hrun, ⟨vs, by simpa using h2, fun j l hl => ?_⟩, h3, h5⟩
        simp only [List.append_nil] at hl
        obtain ⟨A', n', c', e1, e2, e3⟩ := hel j l hl
        refine ⟨A', n', c', e1, e2.far e3.1 h3, ?_⟩
        rcases h5 with h5 | h5
        · rw [h5]; exact e3
        · rw [h5]; exact ⟨Far.new e2 (Nat.le_refl _), e3.2⟩
    · obtain ⟨us, hul, huc, hu1, hue⟩ := Ls.vals hp
      obtain ⟨v', w', hrun, h2, h3, _, h5⟩ := run_append_own_at (P := P) w base t o.type 41 i (.slice none 0 0) 1 24 ht hi hz hsize hby rfl (by omega) v xs.length vs hown ⟨b, of, none⟩ ls.length c us (by omega) huc hu1
        (by unfold maxLen; omega) (by omega) hbase
      have hvl : vs.length = xs.length := by have := hown.1; omega
      refine ⟨v', w', hrun, ⟨vs ++ us, by rw [List.length_append]; exact h2, fun j l hl => ?_⟩, h3, h5⟩
      rcases Nat.lt_or_ge j xs.length with hj | hj
      · rw [List.getElem?_append_left hj] at hl
        obtain ⟨A', n', c', e1, e2, e3⟩ := hel j l hl
        refine ⟨A', n', c', by rw [List.getElem?_append_left (by omega)]; exact e1, e2.far e3.1 h3, ?_⟩
        rcases h5 with h5 | h5
        · rw [h5]; exact e3
        · rw [h5]; exact ⟨Far.new e2 (Nat.le_refl _), e3.2⟩
      · rw [List.getElem?_append_right hj] at hl
        obtain ⟨A', n', c', e1, e2⟩ := hue _ l hl
        have e3 := hfar b of rfl _ l hl A' n' c' ((addr_add b of _) ▸ huc _ _ e1)
        refine ⟨A', n', c', by rw [List.getElem?_append_right (by omega), hvl]; exact e1, e2.far e3.1 h3, ?_⟩
        rcases h5 with h5 | h5
        · rw [h5]; exact e3
        · rw [h5]; exact ⟨Far.new e2 (Nat.le_refl _), e3.2⟩
  obtain ⟨v', w', hrun, h2, h3, h4⟩ := key
  unfold Oper.wp
  simp [execOp, ho, resolve, invoke, builtin, hs, hx, hrun, Result.andThen]
  exact hK _ _ (h v' w' h2 h3 h4)
end

end Go.Proofs.YtdjfahnnfhediaaGreat
