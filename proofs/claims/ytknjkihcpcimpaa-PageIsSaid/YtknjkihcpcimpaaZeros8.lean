/-
  'append(b, make([]byte, k)...)' onto bytes of the call's own: b, and k bytes of 0 behind it.
-/
import Derived.Test.YtknjkihcpcimpaaLies
import Derived.Lib.AppendZerosOnto
namespace Go.Proofs.Ytknjkihcpcimpaa
set_option maxRecDepth 100000
open Go.RowKit Crc Wm

theorem setRow_same {w : World} {g : Nat} {cur : Array Value} {t : TypeId} (hg : w.heap[g]? = some (.cells cur t (0, 0))) : w.setRow g cur = w := by
  have hlt : g < w.heap.size := (Array.getElem?_eq_some_iff.1 hg).1
  have hv : w.heap[g] = .cells cur t (0, 0) := (Array.getElem?_eq_some_iff.1 hg).2
  unfold World.setRow
  cases w with
  | mk heap tape drawn os output =>
    congr 1
    apply Array.ext
    · simp
    · intro k h1 h2
      simp only [Array.getElem_modify]
      split
      · rename_i hk; subst hk; simp at hv; simp [hv]
      · rfl

/-- cells are stored into the middle of a row -/
theorem run_storeCells_at {P : Program} (g off : Nat) (t : TypeId) : ∀ (vs : List Value) (i : Nat) (cur new : Array Value) (w : World), w.heap[g]? = some (.cells cur t (0, 0)) → off + i + vs.length ≤ cur.size → (∀ v ∈ vs, v.oneCell' = true) →
    new.size = cur.size → (∀ k, k < off + i ∨ off + i + vs.length ≤ k → new[k]? = cur[k]?) → (∀ j, j < vs.length → new[off + i + j]? = vs[j]?) →
    (storeCells ⟨g, off, none⟩ vs i).run P w = .ok () (w.setRow g new)
  | [], i, cur, new, w, hg, _, _, _, h1, _ => by
    have e : new = cur := by
      apply Array.ext_getElem?
      intro k
      exact h1 k (by simp only [List.length_nil]; omega)
    subst e
    rw [setRow_same hg]
    rfl
  | v :: rest, i, cur, new, w, hg, hl, hone, hs, h1, h2 => by
    simp only [List.length_cons] at hl h1 h2
    have hi : off + i < cur.size := by omega
    have hcell : w.cell? ⟨g, off + i, none⟩ = some cur[off + i] := by simp [World.cell?, hg, hi]
    have hfro : w.frozen? ⟨g, off + i, none⟩ = false := by simp [World.frozen?, hg]
    have hst : (store ((⟨g, off, none⟩ : Addr).add i) v).run P w = .ok () (w.setRow g (cur.setIfInBounds (off + i) v)) := by
      rw [addr_add, run_store P w _ v _ (hone v (by simp)), hcell]
      simp [hfro, setCell_eq_setRow w g (off + i) cur t (0, 0) v hg]
    have ih := run_storeCells_at (P := P) g off t rest (i + 1) (cur.setIfInBounds (off + i) v) new (w.setRow g (cur.setIfInBounds (off + i) v)) (setRow_heap w g cur _ t _ hg) (by simp; omega) (fun x hx => hone x (by simp [hx])) (by simp [hs])
      (fun k hk => by
        rw [Array.getElem?_setIfInBounds]
        by_cases e : off + i = k
        · subst e
          rw [if_pos rfl, if_pos hi]
          exact (h2 0 (by omega)).trans rfl
        · rw [if_neg e]
          exact h1 k (by omega))
      (fun j hj => by
        have := h2 (j + 1) (by omega)
        rw [show off + i + (j + 1) = off + (i + 1) + j from by omega] at this
        exact this)
    simp only [storeCells, Sem.run_bind, hst, Result.andThen_ok, ih, setRow_setRow]

theorem byteV_zero : byteV 0 = .int .u8 0 := rfl
theorem zeroCells_bytes (k : Nat) : Builtin.zeroCells (Value.cells (.int .u8 0)) k = (byteVs (List.replicate k 0)).toArray := by
  have e : (Builtin.zeroCells (Value.cells (.int .u8 0)) k).toList = byteVs (List.replicate k 0) := by
    unfold Builtin.zeroCells byteVs
    rw [List.map_replicate, Array.toList_map, Array.toList_range, List.eq_replicate_iff]
    refine ⟨by simp [Value.cells], fun b hb => ?_⟩
    obtain ⟨i, _, rfl⟩ := List.mem_map.1 hb
    simp [Value.cells, byteV, Nat.mod_one]
  rw [← e]

section
variable {P : Program}
theorem run_append_zeros (base : Nat) (t tn ty : TypeId) (i : TypeInfo) (kn : IntKind) (ht : P.underlying t = some (.slice 5)) (htn : P.underlying tn = some (.int kn)) (hi : P.info? 5 = some i) (hz : i.zero = some (.int .u8 0)) (hsize : i.size = 1) (hby : i.bytes = 1)
    {w : World} {A : Option Addr} {cap n : Nat} {l : List UInt8} (ho : Owns w base A cap n l) (k : Nat) (hk : 0 < k) (hlen : n + k ≤ 1099511627776) (hbase : base ≤ w.heap.size) :
    ∃ v' w', (Builtin.append_ #[t, tn] ty #[.slice A n cap, .int .i64 (k : Int)]).run P w = .ok v' w' ∧ w'.ownsRow base 5 1 v' (n + k) (byteVs (l ++ List.replicate k 0)) ∧ w.grownBy w' (Value.slice A n cap).ownBlock := by
  have hl := ho.len
  have hcl := ho.2
  rcases hcl with ⟨e, h0⟩ | ⟨g, cap', cur, e, hbg, hg, hnc, hcm, hcs, htake⟩
  · subst h0
    obtain rfl := List.eq_nil_of_length_eq_zero hl
    injection e with e1 _ e3
    subst e1 e3
    have hr := Lib.run_append_nil_zeros (P := P) w t tn ty 5 i (.int .u8 0) .i64 kn ht htn hi hz k hk (by omega) (by omega) (by rw [hby]; omega)
    refine ⟨_, _, hr, ?_, ⟨rfl, rfl, rfl, by simp, fun j hj _ => heap_alloc_old w.drew _ hj⟩⟩
    have hL : (byteVs (List.replicate k 0)).length = (0 + k) * 1 := by rw [length_byteVs, List.length_replicate]; omega
    have hz0 : 0 + k = k := by omega
    rw [List.nil_append]
    refine ⟨hL, .inr ⟨w.heap.size, _, _, by rw [hz0], hbase, heap_alloc_new w.drew _, by rw [hz0]; exact grownCap_ge w k 0 5, grownCap_le_maxLen w k 0 5 (by unfold maxLen; omega), ?_, ?_⟩⟩
    · have hge := grownCap_ge w k 0 5
      rw [zeroCells_bytes, zeroCells_bytes]
      simp only [Array.size_append, List.size_toArray, length_byteVs, List.length_replicate]
      omega
    · rw [zeroCells_bytes, zeroCells_bytes]
      simp only [Array.toList_append]
      rw [← hL, List.take_left]
  injection e with e1 _ e3
  subst e1 e3
  have hL : (byteVs (l ++ List.replicate k 0)).length = (n + k) * 1 := by rw [length_byteVs, List.length_append, List.length_replicate, hl]; omega
  have hw : IntKind.i64.wrap (k : Int) = k := by rw [IntKind.wrap_i64]; omega
  have hneg : ¬ ((k : Int) < 0) := by omega
  have h48 : ¬ (281474976710656 < (k : Int) * (i.bytes : Int)) := by rw [hby]; omega
  by_cases hroom : n + k ≤ cap
  · have hst := run_storeCells_at (P := P) g n 5 (byteVs (List.replicate k 0)) 0 cur (cur.toList.take n ++ byteVs (List.replicate k 0) ++ cur.toList.drop (n + k)).toArray w hg (by rw [length_byteVs, List.length_replicate]; omega) (byteVs_one _)
      (by simp only [List.size_toArray, List.length_append, List.length_take, List.length_drop, Array.length_toList, length_byteVs, List.length_replicate]; omega)
      (fun j hj => by
        rw [length_byteVs, List.length_replicate] at hj
        rw [List.getElem?_toArray]
        rcases hj with hj | hj
        · rw [List.append_assoc, List.getElem?_append_left (by rw [List.length_take, Array.length_toList]; omega), List.getElem?_take, if_pos (by omega), Array.getElem?_toList]
        · rw [List.getElem?_append_right (by rw [List.length_append, List.length_take, Array.length_toList, length_byteVs, List.length_replicate]; omega), List.getElem?_drop, Array.getElem?_toList]
          congr 1
          rw [List.length_append, List.length_take, Array.length_toList, length_byteVs, List.length_replicate]
          omega)
      (fun j hj => by
        rw [length_byteVs, List.length_replicate] at hj
        rw [List.getElem?_toArray, List.getElem?_append_left (by rw [List.length_append, List.length_take, Array.length_toList, length_byteVs, List.length_replicate]; omega), List.getElem?_append_right (by rw [List.length_take, Array.length_toList]; omega)]
        congr 1
        rw [List.length_take, Array.length_toList]
        omega)
    refine ⟨.slice (some ⟨g, 0, none⟩) (n + k) cap, w.setRow g (cur.toList.take n ++ byteVs (List.replicate k 0) ++ cur.toList.drop (n + k)).toArray, ?_, ?_, ?_⟩
    · have hadd : (⟨g, 0, none⟩ : Addr).add n = ⟨g, n, none⟩ := by rw [addr_add, Nat.zero_add]
      have hk0 : k ≠ 0 := by omega
      simp [Builtin.append_, run_underlying ht, run_underlying htn, sizeOf, typeInfo, zeroValue, hi, hz, hsize, asInt, asIntOf, hw, hneg, h48, hroom, hk0, hadd, zeroCells_bytes, hst]
    · refine ⟨hL, .inr ⟨g, cap, _, rfl, hbg, setRow_heap w g cur _ 5 _ hg, hroom, hcm, ?_, ?_⟩⟩
      · simp only [List.size_toArray, List.length_append, List.length_take, List.length_drop, Array.length_toList, length_byteVs, List.length_replicate]; omega
      · have htk : cur.toList.take n = byteVs l := by rw [← htake, Nat.mul_one]
        show List.take ((n + k) * 1) (cur.toList.take n ++ byteVs (List.replicate k 0) ++ cur.toList.drop (n + k)) = _
        rw [htk, ← byteVs_append, ← hL, List.take_left]
    · exact ⟨rfl, rfl, rfl, by simp, fun j _ hj => setRow_other w g j _ (fun e => hj (by simp [Value.ownBlock, e]))⟩
  · have hold : (Builtin.firstCells i.size n (.slice (some ⟨g, 0, none⟩) n cap)).run P w.drew = .ok (byteVs l).toArray w.drew := by
      have h1 : (loadCells ⟨g, 0, none⟩ (byteVs l).length).run P w.drew = .ok (byteVs l).toArray w.drew := run_loadCells_list w.drew ⟨g, 0, none⟩ (byteVs l) (fun j u hu => ho.cells (g := g) rfl j u hu)
      rw [length_byteVs, hl] at h1
      simp only [Builtin.firstCells, hsize, Nat.mul_one, h1]
    have hr := Lib.run_append_grow_zeros (P := P) w t tn ty 5 i (.int .u8 0) .i64 kn ht htn hi hz (some ⟨g, 0, none⟩) n cap (byteVs l) hold k hk (by omega) (by omega) (by omega) (by rw [hby]; omega) (growslice_fits (by omega) (by rw [hby]; omega))
    refine ⟨_, _, hr, ?_, ⟨rfl, rfl, rfl, by simp, fun j hj _ => heap_alloc_old w.drew _ hj⟩⟩
    refine ⟨hL, .inr ⟨w.heap.size, _, _, rfl, hbase, heap_alloc_new w.drew _, grownCap_ge w (n + k) cap 5, grownCap_le_maxLen w (n + k) cap 5 (by unfold maxLen; omega), ?_, ?_⟩⟩
    · have hge := grownCap_ge w (n + k) cap 5
      rw [zeroCells_bytes, zeroCells_bytes]
      simp only [Array.size_append, List.size_toArray, length_byteVs, List.length_replicate]
      omega
    · rw [zeroCells_bytes, zeroCells_bytes]
      simp only [Array.toList_append]
      rw [← byteVs_append, ← hL, List.take_left]

theorem wpList_append_zeros {ops : Array Oper} {rest : List Oper} {o : Oper} {a : Act} {w : World} {Q : Exit → Act → World → Prop} (hgd : o.guard = none) (s x : Operand) (t tn : TypeId)
    (ho : o.op = .call { callee := .builtin .append, args := #[s, x], argTypes := #[t, tn] }) (base : Nat) (i : TypeInfo) (kn : IntKind) (ht : P.underlying t = some (.slice 5)) (htn : P.underlying tn = some (.int kn)) (hi : P.info? 5 = some i) (hz : i.zero = some (.int .u8 0)) (hsize : i.size = 1) (hby : i.bytes = 1)
    {A : Option Addr} {cap n : Nat} {l : List UInt8} (hs : a.eval s = .slice A n cap) (hown : Owns w base A cap n l) (k : Nat) (hx : a.eval x = .int .i64 (k : Int)) (hk : 0 < k) (hlen : n + k ≤ 1099511627776) (hbase : base ≤ w.heap.size)
    (h : ∀ v' w', w'.ownsRow base 5 1 v' (n + k) (byteVs (l ++ List.replicate k 0)) → w.grownBy w' (Value.slice A n cap).ownBlock → wpList P ops Q rest (a.put o.dst v') w') : wpList P ops Q (o :: rest) a w := by
  obtain ⟨v', w', hr, h1, h2⟩ := run_append_zeros (P := P) base t tn o.type i kn ht htn hi hz hsize hby hown k hk hlen hbase
  exact Lib.wpList_append_run w hgd s x t tn ho _ _ hs hx v' w' hr (h v' w' h1 h2)
end

end Go.Proofs.Ytknjkihcpcimpaa
