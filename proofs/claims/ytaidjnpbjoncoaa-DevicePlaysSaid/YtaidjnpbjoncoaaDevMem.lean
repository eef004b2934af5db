/-
  A device in the program's memory: a struct, its sectors one behind the other in a row of bytes, its cache in a map; and what each operation on them does.
-/
import Derived.Test.YtaidjnpbjoncoaaDv
import Derived.Test.YtaidjnpbjoncoaaMem
import Derived.Test.YtaidjnpbjoncoaaChecked
import Derived.Maps.RangeWalk
import Derived.Maps.OwnSet
namespace Go.Proofs.Ytaidjnpbjoncoaa
open Go.RowKit Go.Maps

/-- w' is as w but for the blocks of which S holds, and new ones -/
structure Turn (S : Nat → Prop) (w w' : World) : Prop where
  os : w'.os = w.os
  tape : w'.tape = w.tape
  output : w'.output = w.output
  size : w.heap.size ≤ w'.heap.size
  block : ∀ k, k < w.heap.size → ¬ S k → w'.heap[k]? = w.heap[k]?

section
variable {S S' : Nat → Prop} {w w' w'' : World}
theorem Turn.refl (S : Nat → Prop) (w : World) : Turn S w w := ⟨rfl, rfl, rfl, Nat.le_refl _, fun _ _ _ => rfl⟩
theorem Turn.trans (h : Turn S w w') (k : Turn S w' w'') : Turn S w w'' :=
  ⟨k.os.trans h.os, k.tape.trans h.tape, k.output.trans h.output, Nat.le_trans h.size k.size, fun i hi hs => (k.block i (Nat.lt_of_lt_of_le hi h.size) hs).trans (h.block i hi hs)⟩
theorem Turn.mono (h : Turn S w w') (hs : ∀ k, S k → S' k) : Turn S' w w' := ⟨h.os, h.tape, h.output, h.size, fun k hk hn => h.block k hk fun h' => hn (hs k h')⟩
theorem Turn.grown (h : Turn S w w') {row : Option Nat} (hg : w'.grownBy w'' row) (hr : ∀ j, row = some j → S j ∨ w.heap.size ≤ j) : Turn S w w'' :=
  ⟨hg.os.trans h.os, hg.tape.trans h.tape, hg.output.trans h.output, Nat.le_trans h.size hg.size, fun k hk hn =>
    (hg.block k (Nat.lt_of_lt_of_le hk h.size) (fun e => by rcases hr k e.symm with h1 | h1; exact hn h1; omega)).trans (h.block k hk hn)⟩
theorem Turn.alloc (h : Turn S w w') (o : Obj) : Turn S w (w'.alloc o) := h.grown (World.grownBy_alloc w' o none) (by simp)
theorem Turn.drew (h : Turn S w w') : Turn S w w'.drew := ⟨h.os, h.tape, h.output, h.size, h.block⟩
theorem Turn.setCell (h : Turn S w w') (p : Addr) (v : Value) (hp : S p.block ∨ w.heap.size ≤ p.block) : Turn S w (w'.setCell p v) :=
  ⟨h.os, h.tape, h.output, by simpa [World.setCell] using h.size, fun k hk hn => by
    have hne : k ≠ p.block := fun e => by subst e; rcases hp with h1 | h1; exact hn h1; omega
    rw [heap_setCell_other _ _ _ _ hne]
    exact h.block k hk hn⟩
theorem Turn.setRow (h : Turn S w w') (g : Nat) (cs : Array Value) (hp : S g ∨ w.heap.size ≤ g) : Turn S w (w'.setRow g cs) :=
  ⟨h.os, h.tape, h.output, by rw [setRow_size]; exact h.size, fun k hk hn => by
    have hne : k ≠ g := fun e => by subst e; rcases hp with h1 | h1; exact hn h1; omega
    rw [setRow_other _ _ _ _ hne]
    exact h.block k hk hn⟩
theorem Turn.below (h : Turn S w w') {B : Nat} (hS : ∀ k, S k → B ≤ k) (hB : B ≤ w.heap.size) : Below B w w' :=
  ⟨h.os, h.tape, h.output, h.size, fun k hk => h.block k (by omega) fun h1 => by have := hS k h1; omega⟩
theorem Turn.ofBelow (h : Below w.heap.size w w') : Turn S w w' := ⟨h.os, h.tape, h.output, h.size, fun k hk _ => h.block k hk⟩
/-- what turned nothing that was there -/
theorem Turn.toBelow (h : Turn S w w') (hS : ∀ k, S k → w.heap.size ≤ k) : Below w.heap.size w w' := h.below hS (Nat.le_refl _)
end

/-- the blocks of a device -/
def DS (p L M : Nat) (k : Nat) : Prop := k = p ∨ k = L ∨ k = M

/-- a sector as the program has it -/
def secV (s : List UInt8) : Value := .agg (byteVs s).toArray

theorem byteV_inj {x y : UInt8} (h : byteV x = byteV y) : x = y := by
  simp only [byteV, Value.int.injEq, true_and] at h
  exact UInt8.toNat_inj.1 (by omega)
theorem byteVs_inj : ∀ {s t : List UInt8}, byteVs s = byteVs t → s = t
  | [], [], _ => rfl
  | [], _ :: _, h => by simp [byteVs] at h
  | _ :: _, [], h => by simp [byteVs] at h
  | x :: s, y :: t, h => by
    simp only [byteVs, List.map_cons, List.cons.injEq] at h
    rw [byteV_inj h.1, byteVs_inj (s := s) (t := t) h.2]
theorem secV_inj {s t : List UInt8} (h : secV s = secV t) : s = t := by
  simp only [secV, Value.agg.injEq] at h
  exact byteVs_inj (by simpa using congrArg Array.toList h)

open Classical in
/-- how a sector in a map reads -/
noncomputable def secElem (v : Value) : Option (DataW Unit × List MemPlace) :=
  if h : ∃ s : List UInt8, s.length = 64 ∧ v = secV s then some (.lit (.string h.choose), []) else none

theorem secElem_mk {s : List UInt8} (h : s.length = 64) : secElem (secV s) = some (.lit (.string s), []) := by
  have hx : ∃ t : List UInt8, t.length = 64 ∧ secV s = secV t := ⟨s, h, rfl⟩
  unfold secElem
  rw [dif_pos hx, ← secV_inj hx.choose_spec.2]
theorem secElem_inv {v : Value} {y : DataW Unit × List MemPlace} (h : secElem v = some y) : ∃ s : List UInt8, s.length = 64 ∧ v = secV s ∧ y = (.lit (.string s), []) := by
  by_cases hx : ∃ s : List UInt8, s.length = 64 ∧ v = secV s
  · obtain ⟨s, hs, rfl⟩ := hx
    rw [secElem_mk hs] at h
    exact ⟨s, hs, rfl, (Option.some.inj h).symm⟩
  · unfold secElem at h
    rw [dif_neg hx] at h
    cases h

theorem lawK : Keyed Try.prog 3 := int_keyed Try.underlying3
theorem zeroS (w : World) : (zeroValue 60).run Try.prog w = .ok (secV Dv.zeros) w := by kernel_rfl

def keyL (i : Nat) : Lit := .int .i64 (i : Int)
theorem keyL_ne {i j : Nat} (h : i ≠ j) : keyL i ≠ keyL j := fun e => h (by simp only [keyL, Lit.int.injEq, true_and] at e; omega)

/-- the map as read holds what is cached -/
structure Reads (D : DataW Unit) (late : Nat → Option (List UInt8)) : Prop where
  has : ∀ i : Nat, Maps.has D (keyL i) = (late i).isSome
  at_ : ∀ (i : Nat) s, late i = some s → ∀ z, D.atKey (keyL i) z = .lit (.string s)
  neg : ∀ x : Int, x < 0 → Maps.has D (.int .i64 x) = false
  map : IsMap D

theorem Reads.empty : Reads (.map []) fun _ => none := ⟨fun _ => rfl, (fun _ _ h => by cases h), fun _ _ => rfl, isMap_empty⟩
theorem Reads.put {D : DataW Unit} {late : Nat → Option (List UInt8)} (h : Reads D late) (i : Nat) (s : List UInt8) : Reads (D.put (keyL i) (.lit (.string s))) fun j => if j = i then some s else late j := by
  have hk : WideAt.IsKeyLit (keyL i) := trivial
  refine ⟨fun j => ?_, fun j t ht z => ?_, fun x hx => ?_, h.map.put _ _⟩
  · by_cases e : j = i
    · subst e; rw [has_put_same h.map hk, if_pos rfl]; rfl
    · rw [has_put_other (keyL_ne e), if_neg e]; exact h.has j
  · by_cases e : j = i
    · subst e
      rw [if_pos rfl] at ht
      rw [atKey_put_same h.map hk, Option.some.inj ht]
    · rw [if_neg e] at ht
      rw [atKey_put_other (keyL_ne e)]; exact h.at_ j t ht z
  · rw [has_put_other (by simp only [keyL, ne_eq, Lit.int.injEq, true_and]; omega)]; exact h.neg x hx

/-- block M is a map that holds what is cached, of at most m entries -/
def Cache (w : World) (M m : Nat) (late : Nat → Option (List UInt8)) : Prop :=
  ∃ D : DataW Unit, w.ownsMap Try.prog 3 secElem M m D ∧ Reads D late

section
variable {w w' : World} {M m : Nat} {late : Nat → Option (List UInt8)}
theorem ownsMap_same {D : DataW Unit} (h : w.ownsMap Try.prog 3 secElem M m D) (e : w'.heap[M]? = w.heap[M]?) : w'.ownsMap Try.prog 3 secElem M m D := by
  obtain ⟨es, clock, hb, r⟩ := h
  exact ⟨es, clock, e.trans hb, r⟩
theorem Cache.same (h : Cache w M m late) (e : w'.heap[M]? = w.heap[M]?) : Cache w' M m late := by
  obtain ⟨D, hD, hR⟩ := h
  exact ⟨D, ownsMap_same hD e, hR⟩
theorem Cache.lt (h : Cache w M m late) : M < w.heap.size := by obtain ⟨D, hD, _⟩ := h; exact hD.lt
theorem Cache.mono (h : Cache w M m late) {m' : Nat} (hm : m ≤ m') : Cache w M m' late := by obtain ⟨D, hD, hR⟩ := h; exact ⟨D, hD.mono hm, hR⟩
theorem Cache.noRow (h : Cache w M m late) {g : Nat} {cs : Array Value} {t : TypeId} {fr : Nat × Nat} (hg : w.heap[g]? = some (.cells cs t fr)) : g ≠ M := by
  obtain ⟨D, ⟨es, clock, hb, _⟩, _⟩ := h
  intro e
  rw [e, hb] at hg
  cases hg

theorem Cache.look (h : Cache w M m late) (i : Nat) (hi : (i : Int) < 9223372036854775808) : (Instr.lookup 56 (.map (some M)) (.int .i64 (i : Int)) true).run Try.prog w = .ok (.tuple #[secV ((late i).getD Dv.zeros), .bool (late i).isSome]) w := by
  obtain ⟨D, hD, hR⟩ := h
  obtain ⟨v, ps, hrun, hv⟩ := hD.look_ok lawK Try.underlying56 (zeroS w) (secElem_mk Dv.len_zeros) (key := .int .i64 (i : Int)) (kl := keyL i) (keyOf_int_mk Try.underlying3 (WalkArith.wf_i64 (by omega)))
  obtain ⟨s, hs, rfl, e⟩ := secElem_inv hv
  rw [hrun, hR.has i]
  cases hl : late i with
  | none =>
    have : D.atKey (keyL i) (.lit (.string Dv.zeros)) = .lit (.string Dv.zeros) := atKey_of_not_has (by rw [hR.has i, hl]; rfl) _
    rw [this] at e
    simp only [Prod.mk.injEq, DataW.lit.injEq, Lit.string.injEq] at e
    rw [← e.1]; rfl
  | some t =>
    rw [hR.at_ i t hl] at e
    simp only [Prod.mk.injEq, DataW.lit.injEq, Lit.string.injEq] at e
    rw [← e.1]; rfl

theorem Cache.get (h : Cache w M m late) (i : Nat) (hi : (i : Int) < 9223372036854775808) (s : List UInt8) (hs : late i = some s) : (Instr.lookup 56 (.map (some M)) (.int .i64 (i : Int)) false).run Try.prog w = .ok (secV s) w := by
  obtain ⟨D, hD, hR⟩ := h
  obtain ⟨v, ps, hrun, hv⟩ := hD.lookup lawK Try.underlying56 (zeroS w) (secElem_mk Dv.len_zeros) (key := .int .i64 (i : Int)) (kl := keyL i) (keyOf_int_mk Try.underlying3 (WalkArith.wf_i64 (by omega)))
  obtain ⟨t, ht, rfl, e⟩ := secElem_inv hv
  rw [hR.at_ i s hs] at e
  simp only [Prod.mk.injEq, DataW.lit.injEq, Lit.string.injEq] at e
  rw [hrun, ← e.1]

theorem Cache.store (h : Cache w M m late) (hm : m < 1000000000) (i : Nat) (hi : (i : Int) < 9223372036854775808) (s : List UInt8) (hs : s.length = 64) :
    ∃ w', (Instr.mapUpdate 56 (.map (some M)) (.int .i64 (i : Int)) (secV s)).run Try.prog w = .ok () w' ∧ Cache w' M (m + 1) (fun j => if j = i then some s else late j) ∧ w.grownBy w' (some M) := by
  obtain ⟨D, hD, hR⟩ := h
  obtain ⟨w', hrun, h2, h3⟩ := hD.update lawK Try.underlying56 (by unfold maxLen; omega) (key := .int .i64 (i : Int)) (kl := keyL i) (keyOf_int_mk Try.underlying3 (WalkArith.wf_i64 (by omega))) (secElem_mk hs)
  exact ⟨w', hrun, ⟨_, h2, hR.put i s⟩, h3⟩

theorem Cache.made (w : World) : Cache (w.alloc (.map #[] 0)) w.heap.size 0 fun _ => none := ⟨_, World.ownsMap_made w _ _ _, Reads.empty⟩

theorem Cache.clear (h : Cache w M m late) (ty : TypeId) : ∃ w', (Builtin.clear_ #[56] ty #[.map (some M)]).run Try.prog w = .ok (.tuple #[]) w' ∧ Cache w' M 0 (fun _ => none) ∧ w.grownBy w' (some M) := by
  obtain ⟨D, ⟨es, clock, hb, F, hs, hD⟩, hR⟩ := h
  refine ⟨ChangeMaps.setBlock w M (.map #[] clock), ?_, ⟨.map [], ⟨#[], clock, ChangeMaps.heap_setBlock_same hb _, ⟨by simp, MapKept.stamped_empty clock, by simp⟩, by simp, rfl⟩, Reads.empty⟩,
    ⟨rfl, rfl, rfl, by simp [ChangeMaps.setBlock], fun i _ hi => ChangeMaps.heap_setBlock_other hb _ (fun e => hi (by rw [e]))⟩⟩
  simp [Builtin.clear_, run_underlying Try.underlying56, MapKept.run_getObj_map hb, MapKept.run_setObj_map _ hb, Result.andThen, ChangeMaps.setBlock]
end

/-- the sectors of a device, one behind the other -/
def secs (n : Nat) (f : Nat → List UInt8) : Array Value := Array.ofFn (n := n * 64) fun j => byteV ((f (j.val / 64)).getD (j.val % 64) 0)

theorem size_secs (n : Nat) (f : Nat → List UInt8) : (secs n f).size = n * 64 := by simp [secs]
theorem get_secs (n : Nat) (f : Nat → List UInt8) (j : Nat) (h : j < n * 64) : (secs n f)[j]? = some (byteV ((f (j / 64)).getD (j % 64) 0)) := by
  unfold secs
  rw [Array.getElem?_ofFn, dif_pos h]
theorem secs_eq (n : Nat) (f g : Nat → List UInt8) (h : ∀ i, i < n → f i = g i) : secs n f = secs n g := by
  unfold secs
  congr 1
  funext j
  rw [h _ (by have := j.isLt; omega)]

section
variable {w : World} {L n : Nat} {f : Nat → List UInt8} {t : TypeId}
theorem sec_cell (hg : w.heap[L]? = some (.cells (secs n f) t (0, 0))) (i : Nat) (hi : i < n) (hl : (f i).length = 64) (j : Nat) (v : Value) (hv : (byteVs (f i))[j]? = some v) : w.cell? ⟨L, i * 64 + j, none⟩ = some v := by
  have hj : j < 64 := by
    have := (List.getElem?_eq_some_iff.1 hv).1
    rw [length_byteVs, hl] at this
    exact this
  rw [cell_of_row _ _ _ _ _ _ hg, get_secs n f _ (by omega), show (i * 64 + j) / 64 = i from by omega, show (i * 64 + j) % 64 = j from by omega]
  rw [byteVs, List.getElem?_map] at hv
  rw [List.getD_eq_getElem?_getD, ← hv, List.getElem?_eq_getElem (by omega)]
  rfl

theorem addr_add (b o j : Nat) : (⟨b, o, none⟩ : Addr).add j = ⟨b, o + j, none⟩ := by
  unfold Addr.add
  split
  · next h => subst h; rfl
  · rfl

theorem run_load_sec (hg : w.heap[L]? = some (.cells (secs n f) t (0, 0))) (i : Nat) (hi : i < n) (hl : (f i).length = 64) : (loadVar 60 ⟨L, i * 64, none⟩).run Try.prog w = .ok (secV (f i)) w := by
  have hq : ((Try.prog.info? 60).map (·.size)) = some 64 := by kernel_rfl
  have hload : (loadCells ⟨L, i * 64, none⟩ (byteVs (f i)).length).run Try.prog w = .ok (byteVs (f i)).toArray w :=
    run_loadCells_list w ⟨L, i * 64, none⟩ (byteVs (f i)) (fun j v hv => by rw [addr_add]; exact sec_cell hg i hi hl j v hv)
  rw [length_byteVs, hl] at hload
  cases hi2 : Try.prog.info? 60 with
  | none => rw [hi2] at hq; cases hq
  | some ti =>
    have hs : ti.size = 64 := by rw [hi2] at hq; exact Option.some.inj hq
    have hagg : (isAgg 60).run Try.prog w = .ok true w := by
      unfold isAgg
      rw [Sem.run_bind, run_underlying Try.underlying60 w]
      rfl
    simp [loadVar, Sem.run_bind, hagg, sizeOf, typeInfo, hi2, hs, hload, secV]

theorem setRow_self (hg : w.heap[L]? = some (.cells (secs n f) t (0, 0))) : w.setRow L (secs n f) = w := by
  have hlt : L < w.heap.size := (Array.getElem?_eq_some_iff.1 hg).1
  have hv : w.heap[L] = .cells (secs n f) t (0, 0) := (Array.getElem?_eq_some_iff.1 hg).2
  unfold World.setRow
  cases w with
  | mk heap tape drawn os output =>
    congr 1
    apply Array.ext
    · simp
    · intro k h1 h2
      simp only [Array.getElem_modify]
      split
      · rename_i hk; subst hk; simp at hv; simp [hv]
      · rfl
end

theorem setRow_same {w : World} {g : Nat} {cur : Array Value} {t : TypeId} (hg : w.heap[g]? = some (.cells cur t (0, 0))) : w.setRow g cur = w := by
  have hlt : g < w.heap.size := (Array.getElem?_eq_some_iff.1 hg).1
  have hv : w.heap[g] = .cells cur t (0, 0) := (Array.getElem?_eq_some_iff.1 hg).2
  unfold World.setRow
  cases w with
  | mk heap tape drawn os output =>
    congr 1
    apply Array.ext
    · simp
    · intro k h1 h2
      simp only [Array.getElem_modify]
      split
      · rename_i hk; subst hk; simp at hv; simp [hv]
      · rfl

/-- cells are stored into the middle of a row -/
theorem run_storeCells_at {P : Program} (g off : Nat) (t : TypeId) : ∀ (vs : List Value) (i : Nat) (cur new : Array Value) (w : World), w.heap[g]? = some (.cells cur t (0, 0)) → off + i + vs.length ≤ cur.size → (∀ v ∈ vs, v.oneCell' = true) →
    new.size = cur.size → (∀ k, k < off + i ∨ off + i + vs.length ≤ k → new[k]? = cur[k]?) → (∀ j, j < vs.length → new[off + i + j]? = vs[j]?) →
    (storeCells ⟨g, off, none⟩ vs i).run P w = .ok () (w.setRow g new)
  | [], i, cur, new, w, hg, _, _, _, h1, _ => by
    have e : new = cur := by
      apply Array.ext_getElem?
      intro k
      exact h1 k (by simp only [List.length_nil]; omega)
    subst e
    rw [setRow_same hg]
    rfl
  | v :: rest, i, cur, new, w, hg, hl, hone, hs, h1, h2 => by
    simp only [List.length_cons] at hl h1 h2
    have hi : off + i < cur.size := by omega
    have hcell : w.cell? ⟨g, off + i, none⟩ = some cur[off + i] := by simp [World.cell?, hg, hi]
    have hfro : w.frozen? ⟨g, off + i, none⟩ = false := by simp [World.frozen?, hg]
    have hst : (store ((⟨g, off, none⟩ : Addr).add i) v).run P w = .ok () (w.setRow g (cur.setIfInBounds (off + i) v)) := by
      rw [addr_add, run_store P w _ v _ (hone v (by simp)), hcell]
      simp [hfro, setCell_eq_setRow w g (off + i) cur t (0, 0) v hg]
    have ih := run_storeCells_at (P := P) g off t rest (i + 1) (cur.setIfInBounds (off + i) v) new (w.setRow g (cur.setIfInBounds (off + i) v)) (setRow_heap w g cur _ t _ hg) (by simp; omega) (fun x hx => hone x (by simp [hx])) (by simp [hs])
      (fun k hk => by
        rw [Array.getElem?_setIfInBounds]
        by_cases e : off + i = k
        · subst e
          rw [if_pos rfl, if_pos hi]
          exact (h2 0 (by omega)).trans rfl
        · rw [if_neg e]
          exact h1 k (by omega))
      (fun j hj => by
        have := h2 (j + 1) (by omega)
        rw [show off + i + (j + 1) = off + (i + 1) + j from by omega] at this
        exact this)
    simp only [storeCells, Sem.run_bind, hst, Result.andThen_ok, ih, setRow_setRow]

section
variable {w : World} {L n : Nat} {f : Nat → List UInt8} {t : TypeId}
theorem run_store_sec (hg : w.heap[L]? = some (.cells (secs n f) t (0, 0))) (i : Nat) (hi : i < n) (s : List UInt8) (hl : s.length = 64) :
    (storeVar 60 ⟨L, i * 64, none⟩ (secV s)).run Try.prog w = .ok () (w.setRow L (secs n fun j => if j = i then s else f j)) := by
  have hq : ((Try.prog.info? 60).map (·.size)) = some 64 := by kernel_rfl
  have hst := run_storeCells_at (P := Try.prog) L (i * 64) t (byteVs s) 0 (secs n f) (secs n fun j => if j = i then s else f j) w hg (by rw [length_byteVs, hl, size_secs]; omega) (byteVs_one s) (by rw [size_secs, size_secs])
    (fun k hk => by
      rw [length_byteVs, hl] at hk
      rcases Nat.lt_or_ge k (n * 64) with hlt | hge
      · rw [get_secs _ _ _ hlt, get_secs _ _ _ hlt, if_neg (by omega)]
      · rw [Array.getElem?_eq_none (by rw [size_secs]; exact hge), Array.getElem?_eq_none (by rw [size_secs]; exact hge)])
    (fun j hj => by
      rw [length_byteVs, hl] at hj
      rw [get_secs _ _ _ (by omega), show (i * 64 + 0 + j) / 64 = i from by omega, show (i * 64 + 0 + j) % 64 = j from by omega, if_pos rfl, byteVs, List.getElem?_map, List.getD_eq_getElem?_getD, List.getElem?_eq_getElem (by omega)]
      rfl)
  cases hi2 : Try.prog.info? 60 with
  | none => rw [hi2] at hq; cases hq
  | some ti =>
    have hs : ti.size = 64 := by rw [hi2] at hq; exact Option.some.inj hq
    have hlen : (byteVs s).length = 64 := by rw [length_byteVs, hl]
    simp [storeVar, sizeOf, typeInfo, hi2, Value.cells, secV, hs, hlen, hst]
end

/-- a device in memory: its struct in block p, its sectors in block L, its cache in block M -/
structure IsDev (w : World) (p L M : Nat) (D : Dv) : Prop where
  ok : D.Ok
  ne : p ≠ L
  own : ∃ c : Int, max c (-1) = D.left ∧ -9223372036854775808 ≤ c ∧ w.heap[p]? = some (.cells #[.slice (some ⟨L, 0, none⟩) D.n D.n, .map (some M), .int .i64 c, .bool D.gone, .int .i64 (D.spent : Int)] 58 (0, 0))
  laid : w.heap[L]? = some (.cells (secs D.n D.laid) 60 (0, 0))
  cache : Cache w M D.spent D.late

section
variable {w w' : World} {p L M : Nat} {D : Dv}
theorem IsDev.turn (h : IsDev w p L M D) {S : Nat → Prop} (ht : Turn S w w') (hp : ¬ S p) (hL : ¬ S L) (hM : ¬ S M) : IsDev w' p L M D := by
  obtain ⟨ok, ne, ⟨c, h1, h2, h3⟩, h4, h5⟩ := h
  have b1 := lt_of_block h3
  have b2 := lt_of_block h4
  exact ⟨ok, ne, ⟨c, h1, h2, (ht.block p b1 hp).trans h3⟩, (ht.block L b2 hL).trans h4, h5.same (ht.block M h5.lt hM)⟩
theorem IsDev.lt (h : IsDev w p L M D) : p < w.heap.size ∧ L < w.heap.size ∧ M < w.heap.size := by
  obtain ⟨ok, ne, ⟨c, h1, h2, h3⟩, h4, h5⟩ := h
  exact ⟨lt_of_block h3, lt_of_block h4, h5.lt⟩
theorem IsDev.nm (h : IsDev w p L M D) : p ≠ L ∧ p ≠ M ∧ L ≠ M := by
  obtain ⟨ok, ne, ⟨c, h1, h2, h3⟩, h4, h5⟩ := h
  exact ⟨ne, h5.noRow h3, h5.noRow h4⟩
end

end Go.Proofs.Ytaidjnpbjoncoaa
