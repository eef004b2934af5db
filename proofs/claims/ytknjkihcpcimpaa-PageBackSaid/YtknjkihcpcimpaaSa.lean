/-
  A sector as an array variable: made, loaded, stored, answered, copied into, held against another.
-/
import Derived.Test.YtknjkihcpcimpaaWd
import Derived.Laws.StructEq
import Derived.ChangeKeysEq
namespace Go.Proofs.Ytknjkihcpcimpaa
set_option maxRecDepth 100000
set_option linter.unusedVariables false
set_option linter.unusedSimpArgs false
open Go.RowKit Crc Wm Pg

def secC (s : List UInt8) : Array Value := (byteVs s).toArray
def secV (s : List UInt8) : Value := .agg (secC s)
theorem secC_size (s : List UInt8) : (secC s).size = s.length := by unfold secC; simp [byteVs]
theorem secC_one (s : List UInt8) : (secC s).all (·.oneCell') = true :=
  Array.all_eq_true_iff_forall_mem.2 fun v hv => byteVs_one s v (by simpa [secC] using hv)

theorem run_eq_u8 (d : Nat) (x y : UInt8) (w : World) : (Op.equalIn (d + 1) 5 (byteV x) (byteV y)).run Try.prog w = .ok (x == y) w := by
  unfold byteV
  simp [Op.equalIn, run_underlying Try.underlying5]
  rw [Bool.eq_iff_iff]
  simp only [beq_iff_eq]
  exact ⟨fun h => UInt8.toNat_inj.1 (by omega), fun h => by rw [h]⟩
theorem run_part_u8 (s : List UInt8) (i : Nat) (hi : i < s.length) (w : World) : (part 5 (byteVs s).toArray i).run Try.prog w = .ok (byteV s[i]) w := by
  have hagg : (isAgg 5).run Try.prog w = .ok false w := by
    unfold isAgg
    rw [Sem.run_bind, run_underlying Try.underlying5 w]
    rfl
  have hg : (byteVs s).toArray[i]? = some (byteV s[i]) := by
    simp [byteVs, hi]
  simp [part, Sem.run_bind, hagg, hg]
theorem run_items_u8 (s t : List UInt8) (hl : s.length = t.length) (w : World) : ∀ is : List Nat, (∀ i ∈ is, i < s.length) → (Op.eqItems 9999 5 1 (byteVs s).toArray (byteVs t).toArray is).run Try.prog w = .ok (is.all fun i => s[i]? == t[i]?) w
  | [], _ => by simp [Op.eqItems]
  | i :: is, h => by
    have hi := h i (by simp)
    have ih := run_items_u8 s t hl w is (fun j hj => h j (by simp [hj]))
    have p1 := run_part_u8 s i hi w
    have p2 := run_part_u8 t i (by omega) w
    have he := run_eq_u8 9998 s[i] (t[i]'(by omega)) w
    have hit : i < t.length := by omega
    have e1 : s[i]? = some s[i] := List.getElem?_eq_getElem hi
    have e2 : t[i]? = some t[i] := List.getElem?_eq_getElem hit
    have e3 : (s[i]? == t[i]?) = (s[i] == t[i]) := by rw [e1, e2]; rfl
    simp only [Op.eqItems, Sem.run_bind, Nat.mul_one, p1, p2, he, Result.andThen_ok, List.all_cons]
    rw [e3]
    cases hb : (s[i] == t[i])
    · simp
    · simp [ih]

theorem run_arr_in {ty : TypeId} (hu : Try.prog.underlying ty = some (.array 64 5)) (s t : List UInt8) (hs : s.length = 64) (ht : t.length = 64) (w : World) : (Op.equalIn 10000 ty (secV s) (secV t)).run Try.prog w = .ok (s == t) w := by
  have hi : (Try.prog.info? 5).isSome = true := by kernel_rfl
  obtain ⟨i, hi⟩ := Option.isSome_iff_exists.1 hi
  have hc : Try.prog.cellsOf 5 = 1 := by kernel_rfl
  unfold secV secC
  rw [run_equalIn_array (P := Try.prog) w 9999 _ _ hu hi, hc, run_items_u8 s t (hs.trans ht.symm) w _ (fun i h => by rw [hs]; exact List.mem_range.1 h)]
  congr 1
  rw [Bool.eq_iff_iff, List.all_eq_true]
  simp only [beq_iff_eq, List.mem_range]
  constructor
  · intro h
    apply List.ext_getElem?
    intro j
    rcases Nat.lt_or_ge j 64 with hj | hj
    · exact h j hj
    · rw [List.getElem?_eq_none (by omega), List.getElem?_eq_none (by omega)]
  · intro h j _
    rw [h]
theorem run_sec_eql (s t : List UInt8) (hs : s.length = 64) (ht : t.length = 64) (w : World) : (binOp .eql 55 (secV s) (secV t)).run Try.prog w = .ok (.bool (s == t)) w := by
  have h := run_arr_in Try.underlying55 s t hs ht w
  unfold secV at *
  rw [run_eql_struct, h]
  rfl
theorem run_sec_guard (op : BinOp) (x y : Operand) (s t : List UInt8) (w : World) : (eqGuard op 55 x y (secV s) (secV t)).run Try.prog w = .ok () w :=
  run_eqGuard_agg (P := Try.prog) w _ _ _ _ _ _ (by kernel_rfl)

/-- 64 bytes in a block of their own -/
structure SecAt (w : World) (g : Nat) (s : List UInt8) : Prop where
  blk : w.heap[g]? = some (.cells (secC s) 55 (0, 0))
  len : s.length = 64

theorem sec_info : (Try.prog.info? 55).map (·.size) = some 64 := by kernel_rfl
theorem sec_zero : ((Try.prog.info? 55).map (fun i => i.zero.map (·.cells))) = some (some (secC nil64)) := by kernel_rfl
theorem sec_built : Try.prog.built 55 [] = some (secC nil64) := by kernel_rfl

section
variable {w : World} {g : Nat} {s : List UInt8}
theorem SecAt.lt (h : SecAt w g s) : g < w.heap.size := lt_of_block h.blk
theorem SecAt.below {V : World} (h : SecAt w g s) (hb : Below w.heap.size w V) : SecAt V g s := ⟨(hb.block g h.lt).trans h.blk, h.len⟩
theorem SecAt.far {V : World} {r : Nat} (h : SecAt w g s) (hg : w.grownBy V (some r)) (hne : g ≠ r) : SecAt V g s := ⟨(hg.block g h.lt (fun e => by injection e with e; exact hne e)).trans h.blk, h.len⟩
theorem SecAt.rd (h : SecAt w g s) : Rd w w.heap.size (some ⟨g, 0, none⟩) s := by
  refine .inr ⟨g, 0, rfl, h.lt, fun j x hx => ?_⟩
  rw [Nat.zero_add, cell_of_row _ _ _ _ _ _ h.blk]
  unfold secC byteVs
  rw [List.getElem?_toArray, List.getElem?_map, hx]
  rfl
theorem SecAt.info (h : SecAt w g s) : (Try.prog.info? 55).map (·.size) = some (secC s).size := by rw [secC_size, h.len]; exact sec_info

theorem run_load_sec (h : SecAt w g s) : (loadVar 55 ⟨g, 0, none⟩).run Try.prog w = .ok (secV s) w :=
  run_loadVar_row w g _ _ (secC s) (0, 0) _ h.blk Try.underlying55 rfl h.info
theorem wpList_load_sec {ops : Array Oper} {rest : List Oper} {o : Oper} {a : Act} {Q : Exit → Act → World → Prop} (h : SecAt w g s) (hgd : o.guard = none) (p : Operand) (ho : o.op = .load 55 p) (hx : a.eval p = .pointer (some ⟨g, 0, none⟩))
    (k : wpList Try.prog ops Q rest (a.put o.dst (secV s)) w) : wpList Try.prog ops Q (o :: rest) a w :=
  wpList_load_row hgd _ p ho g hx _ (secC s) (0, 0) _ h.blk Try.underlying55 rfl h.info k
theorem wpList_store_sec {ops : Array Oper} {rest : List Oper} {o : Oper} {a : Act} {Q : Exit → Act → World → Prop} (h : SecAt w g s) (hgd : o.guard = none) (p y : Operand) (ho : o.op = .store 55 p y) (hx : a.eval p = .pointer (some ⟨g, 0, none⟩)) (x : List UInt8) (hl : x.length = 64) (hy : a.eval y = secV x)
    (k : ∀ w', SecAt w' g x → w.grownBy w' (some g) → wpList Try.prog ops Q rest (a.put o.dst undef) w') : wpList Try.prog ops Q (o :: rest) a w := by
  refine wpList_store_row hgd _ p y ho g (secC x) hx hy _ (secC s) h.blk (by rw [secC_size, hl]; exact sec_info) (by rw [secC_size, secC_size, hl, h.len]) (secC_one x) (k _ ⟨setRow_heap _ _ _ _ _ _ h.blk, hl⟩ ?_)
  exact ⟨rfl, rfl, rfl, by rw [setRow_size]; exact Nat.le_refl _, fun j _ hj => setRow_other w g j _ (fun e => hj (by rw [e]))⟩
theorem results_sec {fn : Func} {p : Tmp} (hf : fn.results = #[.cell p 55]) (tmps : Array Value) (hp : tmps.getD p undef = .pointer (some ⟨g, 0, none⟩)) (h : SecAt w g s) : (results fn tmps).run Try.prog w = .ok (secV s) w :=
  results_cell_row hf tmps w g _ (secC s) (0, 0) _ hp h.blk Try.underlying55 rfl h.info
theorem results_sec2 {fn : Func} {p u : Tmp} (hf : fn.results = #[.cell p 55, .tmp u]) (tmps : Array Value) (hp : tmps.getD p undef = .pointer (some ⟨g, 0, none⟩)) (v : Value) (hv : tmps.getD u undef = v) (h : SecAt w g s) : (results fn tmps).run Try.prog w = .ok (.tuple #[secV s, v]) w := by
  have hp' : tmps[p]?.getD undef = .pointer (some ⟨g, 0, none⟩) := by simpa using hp
  have hv' : tmps[u]?.getD undef = v := by simpa using hv
  simp [results, hf, hp', hv', asAddr, run_load_sec h]
end

/-- a sector's variable made, of zeros -/
theorem wpList_alloc_sec {w : World} {ops : Array Oper} {rest : List Oper} {o : Oper} {a : Act} {Q : Exit → Act → World → Prop} (d : Nat) (hd : o.dst = some d) (hgd : o.guard = none) (ho : o.op = .alloc 55)
    (k : ∀ g w', Hid (g = w.heap.size) → SecAt w' g nil64 → Below w.heap.size w w' → Hid (w'.heap.size = g + 1) → wpList Try.prog ops Q rest (a.put o.dst (.pointer (some ⟨g, 0, none⟩))) w') : wpList Try.prog ops Q (o :: rest) a w :=
  wpList_alloc_zero hgd _ ho (secC nil64) sec_zero (k _ _ (Lib.hid rfl) ⟨heap_alloc_new w _, length_nil64⟩ (below_new w _) (Lib.hid (by simp)))
theorem wpList_build_sec {w : World} {ops : Array Oper} {rest : List Oper} {o : Oper} {a : Act} {Q : Exit → Act → World → Prop} (hgd : o.guard = none) (ho : o.op = .build 55 #[])
    (k : wpList Try.prog ops Q rest (a.put o.dst (secV nil64)) w) : wpList Try.prog ops Q (o :: rest) a w := by
  have e : (Try.prog.built 55 ((#[] : Array (Nat × Operand)).map fun (i, x) => (i, a.eval x)).toList) = some (secC nil64) := by simpa using sec_built
  refine wpList_build hgd _ #[] ho (by rw [e]; rfl) ?_
  rw [e]
  exact k

/-- bytes, and zeros up to so many -/
def padTo (K : Nat) (l : List UInt8) : List UInt8 := l ++ List.replicate (K - l.length) 0
theorem length_padTo {K : Nat} {l : List UInt8} (h : l.length ≤ K) : (padTo K l).length = K := by unfold padTo; rw [List.length_append, List.length_replicate]; omega
theorem padTo_all {l : List UInt8} {K : Nat} (h : l.length = K) : padTo K l = l := by unfold padTo; rw [h, Nat.sub_self, List.replicate_zero, List.append_nil]
theorem padTo_none (K : Nat) : padTo K [] = List.replicate K 0 := by unfold padTo; rfl
theorem body_pad (l : List UInt8) : body l = padTo 60 l := rfl

/-- 'copy(x[:], b)' where x is a row of zeros -/
theorem run_copy_zeros {w : World} {g K : Nat} {t : TypeId} (hg : w.heap[g]? = some (.cells (secC (List.replicate K 0)) t (0, 0))) {B : Nat} {A : Option Addr} {l : List UInt8} (hr : Rd w B A l) (n c : Nat) (hn : l.length = n) (hl : n ≤ K) (ty : TypeId) :
    (Builtin.copy_ #[22, 22] ty #[.slice (some ⟨g, 0, none⟩) K K, .slice A n c]).run Try.prog w = .ok (.int .i64 (n : Int)) (w.setRow g (secC (padTo K l))) := by
  subst hn
  have hmin : Nat.min l.length K = l.length := Nat.min_eq_left hl
  have hsz : ∃ i, Try.prog.info? 5 = some i ∧ i.size = 1 := by
    have hz : (Try.prog.info? 5).map (·.size) = some 1 := by kernel_rfl
    cases hi : Try.prog.info? 5 with
    | none => rw [hi] at hz; cases hz
    | some i => rw [hi] at hz; exact ⟨i, rfl, Option.some.inj hz⟩
  obtain ⟨i, hi, hs⟩ := hsz
  have hget : ∀ (x : List UInt8) (k : Nat), (secC x)[k]? = (x[k]?).map byteV := fun x k => by
    unfold secC byteVs
    rw [List.getElem?_toArray, List.getElem?_map]
  have hst := run_storeCells_at (P := Try.prog) g 0 t (byteVs l) 0 (secC (List.replicate K 0)) (secC (padTo K l)) w hg (by rw [length_byteVs, secC_size, List.length_replicate]; omega) (byteVs_one l) (by rw [secC_size, secC_size, length_padTo hl, List.length_replicate])
    (fun k hk => by
      rw [length_byteVs] at hk
      rw [hget, hget]
      unfold padTo
      rw [List.getElem?_append_right (by omega)]
      rcases Nat.lt_or_ge k K with h2 | h2
      · rw [List.getElem?_replicate, List.getElem?_replicate, if_pos h2, if_pos (by omega)]
      · rw [List.getElem?_eq_none (by rw [List.length_replicate]; omega), List.getElem?_eq_none (by rw [List.length_replicate]; omega)])
    (fun j hj => by
      rw [length_byteVs] at hj
      rw [hget, byteVs, List.getElem?_map, padTo, List.getElem?_append_left (by omega)]
      simp only [Nat.zero_add])
  have hfc : (Builtin.firstCells 1 l.length (.slice A l.length c)).run Try.prog w = .ok (byteVs l).toArray w := by
    rcases A with _ | ad
    · have : l = [] := by
        rcases hr with h | ⟨b, o, e, _⟩
        · exact h
        · cases e
      subst this
      simp [Builtin.firstCells, byteVs]
    · have := run_loadCells_list (P := Try.prog) w ad (byteVs l) (fun j v hv => by
        rcases hr with h | ⟨b, o, e, _, hc⟩
        · subst h; simp [byteVs] at hv
        · injection e with e
          subst e
          rw [byteVs, List.getElem?_map] at hv
          cases hx : l[j]? with
          | none => rw [hx] at hv; cases hv
          | some x =>
            rw [hx] at hv
            rw [addr_add, hc j x hx]
            exact hv)
      rw [length_byteVs] at this
      simpa [Builtin.firstCells] using this
  simp [Builtin.copy_, run_underlying Try.underlying22, Builtin.lenOf, hmin, sizeOf, typeInfo, hi, hs, hfc, hst, goInt, Result.andThen]

theorem wpList_copy_sec {w : World} {ops : Array Oper} {rest : List Oper} {o : Oper} {a : Act} {Q : Exit → Act → World → Prop} (hgd : o.guard = none) (s x : Operand) (ho : o.op = .call { callee := .builtin .copy, args := #[s, x], argTypes := #[22, 22] })
    {g : Nat} (hg : SecAt w g nil64) {B : Nat} {A : Option Addr} {l : List UInt8} (hr : Rd w B A l) (n c : Nat) (hn : l.length = n) (hl : n ≤ 64)
    (hs : a.eval s = .slice (some ⟨g, 0, none⟩) 64 64) (hx : a.eval x = .slice A n c)
    (h : ∀ w', SecAt w' g (padTo 64 l) → w.grownBy w' (some g) → wpList Try.prog ops Q rest (a.put o.dst (.int .i64 (n : Int))) w') : wpList Try.prog ops Q (o :: rest) a w := by
  refine wpList_plain hgd fun K hK => ?_
  unfold Oper.wp
  simp [execOp, ho, resolve, invoke, builtin, hs, hx, run_copy_zeros (K := 64) hg.blk hr n c hn hl, Result.andThen]
  exact hK _ _ (h _ ⟨setRow_heap _ _ _ _ _ _ hg.blk, length_padTo (by omega)⟩ ⟨rfl, rfl, rfl, by rw [setRow_size]; exact Nat.le_refl _, fun j _ hj => setRow_other w g j _ (fun e => hj (by rw [e]))⟩)

/-- a row of zeros of the call's own, copied into -/
theorem wpList_copy_own {w : World} {ops : Array Oper} {rest : List Oper} {o : Oper} {a : Act} {Q : Exit → Act → World → Prop} (hgd : o.guard = none) (s x : Operand) (ho : o.op = .call { callee := .builtin .copy, args := #[s, x], argTypes := #[22, 22] })
    {base g K : Nat} (hO : Owns w base (some ⟨g, 0, none⟩) K K (List.replicate K 0)) {B : Nat} {A : Option Addr} {l : List UInt8} (hr : Rd w B A l) (n c : Nat) (hn : l.length = n) (hl : n ≤ K)
    (hs : a.eval s = .slice (some ⟨g, 0, none⟩) K K) (hx : a.eval x = .slice A n c)
    (h : ∀ w', Owns w' base (some ⟨g, 0, none⟩) K K (padTo K l) → w.grownBy w' (some g) → wpList Try.prog ops Q rest (a.put o.dst (.int .i64 (n : Int))) w') : wpList Try.prog ops Q (o :: rest) a w := by
  rcases hO.2 with ⟨e, _⟩ | ⟨g', cap', cur, e, hb, hh, hnc, hcm, hcs, ht⟩
  · cases e
  injection e with e1 e2 e3
  injection e1 with e1
  injection e1 with e1
  subst e1
  subst e3
  have hcs : cur.size = K := by rw [hcs, Nat.mul_one]
  have hcur : cur = secC (List.replicate K 0) := by
    have h1 : cur.toList.take (K * 1) = byteVs (List.replicate K 0) := by simpa [length_byteVs] using ht
    rw [List.take_of_length_le (by rw [Array.length_toList]; omega)] at h1
    unfold secC
    rw [← h1, Array.toArray_toList]
  rw [hcur] at hh
  refine wpList_plain hgd fun K' hK => ?_
  unfold Oper.wp
  simp [execOp, ho, resolve, invoke, builtin, hs, hx, run_copy_zeros hh hr n c hn hl, Result.andThen]
  refine hK _ _ (h _ ?_ ⟨rfl, rfl, rfl, by rw [setRow_size]; exact Nat.le_refl _, fun j _ hj => setRow_other w g j _ (fun e => hj (by rw [e]))⟩)
  have hpl : (padTo K l).length = K := length_padTo (by omega)
  refine ⟨by rw [length_byteVs, hpl, Nat.mul_one], .inr ⟨g, K, secC (padTo K l), rfl, hb, setRow_heap _ _ _ _ _ _ hh, hnc, hcm, by rw [secC_size, hpl, Nat.mul_one], ?_⟩⟩
  unfold secC
  rw [List.take_of_length_le (by simp [length_byteVs, hpl])]

end Go.Proofs.Ytknjkihcpcimpaa
