/-
  Read: what is answered lies in new memory.
-/
import Derived.Test.YtaidjnpbjoncoaaDevSpend
namespace Go.Proofs.Ytaidjnpbjoncoaa
open Go.RowKit

section
variable {P : Program}
theorem wpList_alloc_zero {ops : Array Oper} {rest : List Oper} {o : Oper} {a : Act} {w : World} {Q : Exit → Act → World → Prop} (hgd : o.guard = none) (ty : TypeId) (ho : o.op = .alloc ty) (C : Array Value)
    (hi : ((P.info? ty).map (fun i => i.zero.map (·.cells))) = some (some C))
    (h : wpList P ops Q rest (a.put o.dst (.pointer (some ⟨w.heap.size, 0, none⟩))) (w.alloc (.cells C ty))) : wpList P ops Q (o :: rest) a w := by
  refine wpList_plain hgd fun K hK => ?_
  cases hq : P.info? ty with
  | none => simp [hq] at hi
  | some i =>
    cases hz : i.zero with
    | none => simp [hq, hz] at hi
    | some z =>
      have hc : z.cells = C := by simpa [hq, hz] using hi
      subst hc
      unfold Oper.wp
      simp [execOp, ho, Instr.alloc, zeroValue, typeInfo, hq, hz, newVar, newRow, Result.andThen]
      exact hK _ _ h
end

/-- the cells of a sector -/
def secC (s : List UInt8) : Array Value := (byteVs s).toArray
theorem size_secC {s : List UInt8} (h : s.length = 64) : (secC s).size = 64 := by simp [secC, length_byteVs, h]
theorem secC_one (s : List UInt8) : (secC s).all (·.oneCell') = true := by
  rw [Array.all_eq_true]
  intro i hi
  exact byteVs_one s _ (by simp [secC])
theorem info_sec : ((Try.prog.info? 60).map (fun i => i.zero.map (·.cells))) = some (some (secC Dv.zeros)) := by kernel_rfl
theorem info_size : ((Try.prog.info? 60).map (·.size)) = some 64 := by kernel_rfl

section
variable {w : World} {L n : Nat} {f : Nat → List UInt8} {t : TypeId}
theorem wpList_load_sec {ops : Array Oper} {rest : List Oper} {o : Oper} {a : Act} {Q : Exit → Act → World → Prop} (hgd : o.guard = none) (x : Operand) (ho : o.op = .load 60 x)
    (i : Nat) (hx : a.eval x = .pointer (some ⟨L, i * 64, none⟩)) (hg : w.heap[L]? = some (.cells (secs n f) t (0, 0))) (hi : i < n) (hl : (f i).length = 64)
    (h : wpList Try.prog ops Q rest (a.put o.dst (secV (f i))) w) : wpList Try.prog ops Q (o :: rest) a w := by
  refine wpList_plain hgd fun K hK => ?_
  unfold Oper.wp execOp
  simp only [ho, hx, Instr.loadAt, Instr.sureAddr, Sem.run_bind, Sem.run_pure, Result.andThen_ok, run_load_sec hg i hi hl]
  exact hK _ _ h
end

/-- bytes that a read has answered: nothing, or a sector in a block from base on -/
def Got (w : World) (base : Nat) (A : Option Addr) (n c : Nat) (l : List UInt8) : Prop :=
  (l = [] ∧ A = none ∧ n = 0 ∧ c = 0) ∨ ∃ g, A = some ⟨g, 0, none⟩ ∧ n = 64 ∧ c = 64 ∧ l.length = 64 ∧ base ≤ g ∧ w.heap[g]? = some (.cells (secC l) 60 (0, 0))

section
variable {w w' : World} {base n c : Nat} {A : Option Addr} {l : List UInt8}
theorem Got.len (h : Got w base A n c l) : l.length = n := by
  rcases h with ⟨rfl, _, rfl, _⟩ | ⟨g, _, rfl, _, h, _⟩
  · rfl
  · exact h
theorem secC_cell {w : World} {g : Nat} {l : List UInt8} {t : TypeId} (hb : w.heap[g]? = some (.cells (secC l) t (0, 0))) (j : Nat) (x : UInt8) (hx : l[j]? = some x) : w.cell? ⟨g, j, none⟩ = some (byteV x) := by
  rw [cell_of_row _ _ _ _ _ _ hb, secC, List.getElem?_toArray, byteVs, List.getElem?_map, hx]
  rfl
theorem Got.rd (h : Got w base A n c l) : Rd w w.heap.size A l := by
  rcases h with ⟨rfl, _⟩ | ⟨g, rfl, _, _, _, _, hb⟩
  · exact .nil _ _ _
  · exact .inr ⟨g, 0, rfl, lt_of_block hb, fun j x hx => by rw [Nat.zero_add]; exact secC_cell hb j x hx⟩
theorem Got.below (h : Got w base A n c l) (hb : Below w.heap.size w w') : Got w' base A n c l := by
  rcases h with h | ⟨g, h1, h2, h3, h4, h5, h6⟩
  · exact .inl h
  · exact .inr ⟨g, h1, h2, h3, h4, h5, (hb.block g (lt_of_block h6)).trans h6⟩
theorem Got.turn (h : Got w base A n c l) {S : Nat → Prop} (ht : Turn S w w') (hS : ∀ k, S k → k < base) : Got w' base A n c l := by
  rcases h with h | ⟨g, h1, h2, h3, h4, h5, h6⟩
  · exact .inl h
  · exact .inr ⟨g, h1, h2, h3, h4, h5, (ht.block g (lt_of_block h6) (fun hs => by have := hS g hs; omega)).trans h6⟩
end

/-- a read has answered l and er -/
def ReadOut (w : World) (l : List UInt8) (er : Int) (e : Ending) (w' : World) : Prop :=
  ∃ A n c, e = .returned (.tuple #[.slice A n c, .int .i64 er]) ∧ Got w' w.heap.size A n c l ∧ Below w.heap.size w w'

theorem ReadOut.sec {w : World} {old l : List UInt8} (hl : l.length = 64) :
    ReadOut w l 0 (.returned (.tuple #[.slice (some ⟨w.heap.size, 0, none⟩) 64 64, .int .i64 0])) ((w.alloc (.cells (secC old) 60)).setRow w.heap.size (secC l)) :=
  ⟨_, _, _, rfl, .inr ⟨_, rfl, rfl, rfl, hl, Nat.le_refl _, setRow_heap _ _ _ _ _ _ (heap_alloc_new _ _)⟩, ⟨rfl, rfl, rfl, by rw [setRow_size]; simp, fun k hk => by rw [setRow_other _ _ _ _ (by omega), heap_alloc_old _ _ hk]⟩⟩

set_option maxRecDepth 100000 in
set_option maxHeartbeats 400000 in
theorem read_any {w : World} {p L M : Nat} {D : Dv} (h : IsDev w p L M D) (at_ : Int) : Calls Try.prog 21 #[ptr p, .int .i64 at_] w (ReadOut w (D.read at_) (D.readE at_)) := by
  have hg := gone_any h
  unfold Dv.read Dv.readE
  by_cases hgone : D.gone = true
  · rw [hgone] at hg
    rw [if_pos hgone, if_pos hgone]
    clear h
    go_enter Try.func21, Try.ntmps21
    go_wp2_with (go_at_call 23; refine hg.mono ?_; rintro e w' ⟨rfl, hw⟩; replace hw := hw.symm; subst hw)
    go_ret2
    exact ⟨_, _, _, rfl, .inl ⟨rfl, rfl, rfl, rfl⟩, Below.refl _ _⟩
  · rw [if_neg hgone, if_neg hgone]
    have hgf : D.gone = false := by cases hD : D.gone <;> simp_all
    rw [hgf] at hg
    have hh := has_any h at_
    by_cases hat : D.has at_ = true
    · rw [if_pos hat, if_pos hat]
      rw [hat] at hh
      obtain ⟨hlt, h0, hi⟩ := Dv.has_lt hat
      generalize at_.toNat = i at *
      subst hi
      have hbd : (i : Int) < 9223372036854775808 := by have := h.ok.top; omega
      have hlk := h.cache.look i hbd
      have c0 := h.c0
      have c1 := h.c1
      have hsec := h.ok.sector hlt
      have hlen := h.ok.laid i hlt
      have HL := Lib.hid h.laid
      have hlL := h.lt.2.1
      have h' := h
      have htop := h.ok.top
      clear h hat hgone hgf
      cases hlate : D.late i with
      | none =>
        rw [hlate] at hlk hsec
        simp only [Option.getD_none, Option.isSome_none] at hlk ⊢
        have HLen := Lib.hid hlen
        have HR := Lib.hid (ReadOut.sec (w := w) (old := Dv.zeros) hlen)
        have hpl := h'.lt.1
        have k0 : ((w.alloc (.cells (secC Dv.zeros) 60)).setRow w.heap.size (secC Dv.zeros)).cell? ⟨p, 0, none⟩ = some (.slice (some ⟨L, 0, none⟩) D.n D.n) := by
          rw [cell_setRow_other _ _ _ _ (by show p ≠ _; omega), World.cell?_alloc_lt _ _ _ hpl]; exact c0
        have kL : ((w.alloc (.cells (secC Dv.zeros) 60)).setRow w.heap.size (secC Dv.zeros)).heap[L]? = some (.cells (secs D.n D.laid) 60 (0, 0)) := by
          rw [setRow_other _ _ _ _ (by omega), heap_alloc_old _ _ hlL]; exact HL.out
        have kG : ((w.alloc (.cells (secC Dv.zeros) 60)).setRow w.heap.size (secC Dv.zeros)).heap[w.heap.size]? = some (.cells (secC Dv.zeros) 60 (0, 0)) := setRow_heap _ _ _ _ _ _ (heap_alloc_new _ _)
        have kS : ((w.alloc (.cells (secC Dv.zeros) 60)).setRow w.heap.size (secC Dv.zeros)).setRow w.heap.size (secC (D.laid i)) = (w.alloc (.cells (secC Dv.zeros) 60)).setRow w.heap.size (secC (D.laid i)) := setRow_setRow _ _ _ _
        have KL := Lib.hid kL
        have KG := Lib.hid kG
        have KS := Lib.hid kS
        clear hlate hsec hlen kL kG kS h'
        generalize D.n = n at *
        generalize D.laid = f at *
        go_enter Try.func21, Try.ntmps21
        go_wp2_with (first
          | (go_at_call 23; refine hg.mono ?_; rintro e w' ⟨rfl, hw⟩; replace hw := hw.symm; subst hw)
          | (go_at_call 29; refine hh.mono ?_; rintro e w' ⟨rfl, hw⟩; replace hw := hw.symm; subst hw)
          | ((with_reducible refine wpList_alloc_zero (by rfl) 60 (by rfl) _ info_sec ?_))
          | (refine wpList_store_row rfl 60 (.tmp 6) (.tmp 21) rfl w.heap.size (secC Dv.zeros) rfl rfl _ _ (heap_alloc_new _ _) (by rw [size_secC Dv.len_zeros]; exact info_size) (by rw [size_secC Dv.len_zeros]) (secC_one _) ?_; generalize ((w.alloc (.cells (secC Dv.zeros) 60)).setRow w.heap.size (secC Dv.zeros)) = W1 at *)
          | (refine wpList_load_sec rfl (.tmp 30) rfl i rfl KL.out hlt HLen.out ?_)
          | (refine wpList_store_row rfl 60 (.tmp 6) (.tmp 31) rfl w.heap.size (secC (f i)) rfl rfl _ _ KG.out (by rw [size_secC HLen.out]; exact info_size) (by rw [size_secC HLen.out, size_secC Dv.len_zeros]) (secC_one _) ?_))
        go_ret2
        rw [KS.out]
        exact HR.out
      | some s =>
        rw [hlate] at hlk hsec
        have hs : s.length = 64 := hsec
        have HS := Lib.hid hs
        simp only [Option.getD_some, Option.isSome_some] at hlk ⊢
        have HR := Lib.hid (ReadOut.sec (w := w) (old := Dv.zeros) hs)
        clear hlate hsec HL hlen hs h'
        generalize D.n = n at *
        go_enter Try.func21, Try.ntmps21
        go_wp2_with (first
          | (go_at_call 23; refine hg.mono ?_; rintro e w' ⟨rfl, hw⟩; replace hw := hw.symm; subst hw)
          | (go_at_call 29; refine hh.mono ?_; rintro e w' ⟨rfl, hw⟩; replace hw := hw.symm; subst hw)
          | ((with_reducible refine wpList_alloc_zero (by rfl) 60 (by rfl) _ info_sec ?_))
          | (refine wpList_store_row rfl 60 (.tmp 6) (.tmp 21) rfl w.heap.size (secC s) rfl rfl _ _ (heap_alloc_new _ _) (by rw [size_secC HS.out]; exact info_size) (by rw [size_secC HS.out, size_secC Dv.len_zeros]) (secC_one _) ?_))
        go_ret2
        exact HR.out
    · have hat' : D.has at_ = false := by cases hD : D.has at_ <;> simp_all
      rw [if_neg hat, if_neg hat]
      rw [hat'] at hh
      clear h
      go_enter Try.func21, Try.ntmps21
      go_wp2_with (first
        | (go_at_call 23; refine hg.mono ?_; rintro e w' ⟨rfl, hw⟩; replace hw := hw.symm; subst hw)
        | (go_at_call 29; refine hh.mono ?_; rintro e w' ⟨rfl, hw⟩; replace hw := hw.symm; subst hw))
      go_ret2
      exact ⟨_, _, _, rfl, .inl ⟨rfl, rfl, rfl, rfl⟩, Below.refl _ _⟩

end Go.Proofs.Ytaidjnpbjoncoaa
