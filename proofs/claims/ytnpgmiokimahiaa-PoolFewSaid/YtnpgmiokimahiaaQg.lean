/-
  A frame's bytes copied into, cleared behind a place, copied out; a sector read into a frame of its own.
-/
import Derived.Test.YtnpgmiokimahiaaQf
namespace Go.Proofs.Ytnpgmiokimahiaa
set_option maxRecDepth 100000
set_option linter.unusedVariables false
set_option linter.unusedSimpArgs false
open Go.RowKit Pl

theorem u8_facts : (Try.prog.info? 5).map (fun i => (i.zero, i.size)) = some (some (.int .u8 0), 1) := by kernel_rfl
theorem u8_parts : ∃ i, Try.prog.info? 5 = some i ∧ i.zero = some (.int .u8 0) ∧ i.size = 1 := by
  have hz := u8_facts
  cases hi : Try.prog.info? 5 with
  | none => rw [hi] at hz; cases hz
  | some i => rw [hi] at hz; simp only [Option.map_some, Option.some.injEq, Prod.mk.injEq] at hz; exact ⟨i, rfl, hz.1, hz.2⟩

/-- the cells of a frame whose bytes have turned -/
theorem fq_turn {x : Fq} (h : x.b.length = 64) {b : List UInt8} (hb : b.length = 64) (k : Nat) (hk : k < 1 ∨ 65 ≤ k) : (fqC { x with b := b })[k]? = (fqC x)[k]? := by
  rcases hk with h0 | h0
  · obtain rfl : k = 0 := by omega
    rfl
  · obtain ⟨q, rfl⟩ : ∃ q, k = 65 + q := ⟨k - 65, by omega⟩
    rw [fq_tail h, fq_tail (x := { x with b := b }) hb]
theorem store_fq {w : World} {x : Fq} (f : FAt w x) (k : Nat) (vs : List UInt8) {b : List UInt8} (hb : b.length = 64) (hk : k + vs.length ≤ 64) (h1 : ∀ j, j < k ∨ k + vs.length ≤ j → b[j]? = x.b[j]?) (h2 : ∀ j, j < vs.length → b[k + j]? = vs[j]?) :
    (storeCells ⟨x.g, 1 + k, none⟩ (byteVs vs) 0).run Try.prog w = .ok () (w.setRow x.g (fqC { x with b := b })) := by
  refine run_storeCells_at (P := Try.prog) x.g (1 + k) FT (byteVs vs) 0 (fqC x) (fqC { x with b := b }) w f.bk (by rw [length_byteVs, fq_size f.l64]; omega) (byteVs_one vs) (by rw [fq_size f.l64, fq_size (x := { x with b := b }) hb]) (fun i hi => ?_) (fun j hj => ?_)
  · rw [length_byteVs] at hi
    rcases Nat.lt_or_ge i 1 with g1 | g1
    · exact fq_turn f.l64 hb i (.inl g1)
    · rcases Nat.lt_or_ge i 65 with g2 | g2
      · obtain ⟨q, rfl⟩ : ∃ q, i = 1 + q := ⟨i - 1, by omega⟩
        rw [fq_data f.l64 (by omega), fq_data (x := { x with b := b }) hb (by omega)]
        unfold byteVs
        rw [List.getElem?_map, List.getElem?_map]
        show (b[q]?).map byteV = _
        rw [h1 q (by omega)]
      · exact fq_turn f.l64 hb i (.inr g2)
  · rw [length_byteVs] at hj
    rw [show 1 + k + 0 + j = 1 + (k + j) from by omega, fq_data (x := { x with b := b }) hb (by omega)]
    unfold byteVs
    rw [List.getElem?_map, List.getElem?_map]
    show (b[k + j]?).map byteV = _
    rw [h2 j hj]
theorem FAt.data {w : World} {x : Fq} (f : FAt w x) {b : List UInt8} (hb : b.length = 64) : FAt (w.setRow x.g (fqC { x with b := b })) { x with b := b } := ⟨setRow_heap _ _ _ _ _ _ f.bk, hb⟩

theorem run_first {w : World} {B : Nat} {A : Option Addr} {l : List UInt8} (hr : Rd w B A l) (n c : Nat) (hn : l.length = n) : (Builtin.firstCells 1 n (.slice A n c)).run Try.prog w = .ok (byteVs l).toArray w := by
  subst hn
  rcases A with _ | ad
  · have : l = [] := by
      rcases hr with h | ⟨b, o, e, _⟩
      · exact h
      · cases e
    subst this
    simp [Builtin.firstCells, byteVs]
  · have := run_loadCells_list (P := Try.prog) w ad (byteVs l) (fun j v hv => by
      rcases hr with h | ⟨b, o, e, _, hc⟩
      · subst h; simp [byteVs] at hv
      · injection e with e
        subst e
        rw [byteVs, List.getElem?_map] at hv
        cases hx : l[j]? with
        | none => rw [hx] at hv; cases hv
        | some x =>
          rw [hx] at hv
          rw [addr_add, hc j x hx]
          exact hv)
    rw [length_byteVs] at this
    simpa [Builtin.firstCells] using this

/-- 'copy(f.data[:], b)' -/
theorem run_copy_fq {w : World} {x : Fq} (f : FAt w x) {B : Nat} {A : Option Addr} {l : List UInt8} (hr : Rd w B A l) (n c : Nat) (hn : l.length = n) (hl : n ≤ 64) (ty : TypeId) :
    (Builtin.copy_ #[33, 33] ty #[.slice (some ⟨x.g, 1, none⟩) 64 64, .slice A n c]).run Try.prog w = .ok (.int .i64 (n : Int)) (w.setRow x.g (fqC { x with b := l ++ x.b.drop n })) := by
  have hmin : Nat.min n 64 = n := Nat.min_eq_left hl
  obtain ⟨i, hi, _, hs⟩ := u8_parts
  have hfc := run_first hr n c hn
  have hst := store_fq f 0 l (b := l ++ x.b.drop n) (by rw [List.length_append, List.length_drop, f.l64, hn]; omega) (by omega) (fun j hj => by
      rcases hj with h | h
      · omega
      · rw [List.getElem?_append_right (by omega), List.getElem?_drop, hn]
        congr 1
        omega)
    (fun j hj => by rw [Nat.zero_add, List.getElem?_append_left hj])
  rw [Nat.add_zero] at hst
  simp [Builtin.copy_, run_underlying Try.underlying33, Builtin.lenOf, hmin, sizeOf, typeInfo, hi, hs, hfc, hst, goInt, Result.andThen]
theorem wpList_copy_fq {w : World} {ops : Array Oper} {rest : List Oper} {o : Oper} {a : Act} {Q : Exit → Act → World → Prop} (hgd : o.guard = none) (s y : Operand) (ho : o.op = .call { callee := .builtin .copy, args := #[s, y], argTypes := #[33, 33] })
    {x : Fq} (f : FAt w x) {B : Nat} {A : Option Addr} {l : List UInt8} (hr : Rd w B A l) (n c : Nat) (hn : l.length = n) (hl : n ≤ 64)
    (hs : a.eval s = .slice (some ⟨x.g, 1, none⟩) 64 64) (hx : a.eval y = .slice A n c)
    (h : wpList Try.prog ops Q rest (a.put o.dst (.int .i64 (n : Int))) (w.setRow x.g (fqC { x with b := l ++ x.b.drop n }))) : wpList Try.prog ops Q (o :: rest) a w := by
  refine wpList_plain hgd fun K hK => ?_
  unfold Oper.wp
  simp [execOp, ho, resolve, invoke, builtin, hs, hx, run_copy_fq f hr n c hn hl, Result.andThen]
  exact hK _ _ h

/-- what lies behind a place of a frame's bytes -/
def behind (g n : Nat) : Value := .slice (some ⟨g, if 64 = n then 1 else 1 + n, none⟩) (64 - n) (64 - n)
theorem run_behind (w : World) (g n : Nat) (hn : n ≤ 64) : (Instr.sliceAt 60 (.pointer (some ⟨g, 1, none⟩)) (some (.int .i64 (n : Int))) none none).run Try.prog w = .ok (behind g n) w := by
  obtain ⟨i, hi, _, hs⟩ := u8_parts
  have h1 : (0 : Int) ≤ (n : Int) ∧ (n : Int) ≤ ((64 : Nat) : Int) := ⟨by omega, by omega⟩
  have hu : Try.prog.underlying 60 = some (.array 64 5) := Try.underlying60
  have hsz : (sizeOf 5).run Try.prog w = .ok 1 w := by simp [sizeOf, typeInfo, hi, hs, Result.andThen]
  have hb : (Instr.sliceBounds false 64 64 (some (.int .i64 (n : Int))) none none).run Try.prog w = .ok (n, 64, 64) w := by
    simp only [Instr.sliceBounds, Instr.sliceBound, asIntOf, Sem.run_bind, Sem.run_pure, Result.andThen_ok, if_pos h1, Int.toNat_natCast]
  have hd : (⟨g, 1, none⟩ : Addr).add (n * 1) = ⟨g, 1 + n, none⟩ := by rw [addr_add, Nat.mul_one]
  unfold Instr.sliceAt behind
  simp only [Sem.run_bind, run_underlying hu, Result.andThen_ok, Instr.sureAddr, Sem.run_pure, hb, hsz]
  by_cases e : 64 = n
  · simp only [if_pos e]
  · simp only [if_neg e, hd]
/-- 'clear' of it -/
theorem run_clear_behind {w : World} {x : Fq} (f : FAt w x) (n : Nat) (hn : n ≤ 64) (ty : TypeId) : (Builtin.clear_ #[33] ty #[behind x.g n]).run Try.prog w = .ok (.tuple #[]) (w.setRow x.g (fqC { x with b := x.b.take n ++ List.replicate (64 - n) 0 })) := by
  rcases Nat.lt_or_ge n 64 with h | h
  · have hst := store_fq f n (List.replicate (64 - n) 0) (b := x.b.take n ++ List.replicate (64 - n) 0) (by rw [List.length_append, List.length_take, List.length_replicate, f.l64]; omega) (by rw [List.length_replicate]; omega)
      (fun j hj => by
        rw [List.length_replicate] at hj
        rcases hj with h1 | h1
        · rw [List.getElem?_append_left (by rw [List.length_take, f.l64]; omega), List.getElem?_take, if_pos h1]
        · rw [List.getElem?_eq_none (by rw [List.length_append, List.length_take, List.length_replicate, f.l64]; omega), List.getElem?_eq_none (by rw [f.l64]; omega)])
      (fun j hj => by
        rw [List.length_replicate] at hj
        rw [List.getElem?_append_right (by rw [List.length_take, f.l64]; omega), List.length_take, f.l64]
        congr 1
        omega)
    have hz : (Builtin.zeroCells (Value.int .u8 0).cells (64 - n)).toList = byteVs (List.replicate (64 - n) 0) := by
      rw [show (Value.int IntKind.u8 0).cells = #[Value.int .u8 0] from rfl]
      unfold byteVs
      rw [List.map_replicate]
      simp [Builtin.zeroCells]
      apply List.ext_getElem
      · simp
      · intro i h1 h2
        simp [Nat.mod_one, byteV]
    obtain ⟨i, hi, hzero, _⟩ := u8_parts
    have hv : (zeroValue 5).run Try.prog w = .ok (.int .u8 0) w := by simp [zeroValue, typeInfo, hi, hzero, Result.andThen]
    unfold behind
    rw [if_neg (by omega)]
    obtain ⟨q, hq⟩ : ∃ q, 64 - n = q + 1 := ⟨64 - n - 1, by omega⟩
    rw [hq] at hst hz ⊢
    simp [Builtin.clear_, run_underlying Try.underlying33, hv, hz, hst]
  · obtain rfl : n = 64 := by omega
    have e : x.b.take 64 ++ List.replicate (64 - 64) 0 = x.b := by rw [List.take_of_length_le (by rw [f.l64]; omega)]; simp
    rw [e]
    have e2 : w.setRow x.g (fqC { x with b := x.b }) = w := setRow_same f.bk
    rw [e2]
    simp [Builtin.clear_, run_underlying Try.underlying33, behind]
theorem exec_slice {P : Program} {W : World} {o : Oper} {ρ : Operand → Value} {ty : TypeId} {x y : Operand} {a b v : Value} (ho : o.op = .slice ty x (some y) none none) (hx : ρ x = a) (hy : ρ y = b) (hl : (Instr.sliceAt ty a (some b) none none).run P W = .ok v W) : (execOp ρ o).run P W = .ok (.value v) W := by
  unfold execOp
  simp only [ho, hx, hy, Option.map_some, Option.map_none, Sem.run_bind, hl, Result.andThen_ok, Sem.run_pure]
end Go.Proofs.Ytnpgmiokimahiaa
