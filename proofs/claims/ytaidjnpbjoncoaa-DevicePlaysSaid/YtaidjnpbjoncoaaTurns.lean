/-
  A region that draws its order, in which the blocks of which X holds may turn: all else may be taken in the text's own order. Bytes copied into a sector.
-/
import Derived.Test.YtaidjnpbjoncoaaDevRead
import Derived.Deep.RegionHeld
import Derived.RegionTactic
namespace Go.Proofs.Ytaidjnpbjoncoaa
open Go.RowKit

section
variable {P : Program} {ops : Array Oper} {Q : Exit → Act → World → Prop} {md : Region.Mode} {X : Nat → Prop}

theorem wpAnyH_weak {S S' : World → Prop} (h : ∀ W, S' W → S W) : ∀ (fuel : Nat) (listed : Array Bool) (a : Act) (w : World), wpAnyH P md ops Q S' fuel listed a w → wpAnyH P md ops Q S fuel listed a w
  | 0, _, _, _, H => H
  | fuel + 1, _, _, _, H => ⟨H.1, fun i hi => wpOp_mono (fun a' w' h' => ⟨h _ h'.1, wpAnyH_weak h fuel _ a' w' h'.2⟩) (H.2 i hi)⟩

theorem wpAnyH_turn {a b : World} (hab : Turn X a b) {fuel : Nat} {listed : Array Bool} {x : Act} {w : World} (h : wpAnyH P md ops Q (Turn X b) fuel listed x w) : wpAnyH P md ops Q (Turn X a) fuel listed x w :=
  wpAnyH_weak (fun _ hW => Turn.trans hab hW) fuel listed x w h

theorem wp_region_turn {id : Nat} {a : Act} {w : World} (hm : P.follows .mixedOrders = true)
    (h : wpAnyH P .any ops Q (Turn X w) ops.size (Array.replicate ops.size false) a w.drew) : (Code.region id ops true).wp P Q a w :=
  wp_region_held_drew hm ((Turn.refl _ _).drew) (fun _ => h)
end

theorem Turn.cell {X : Nat → Prop} {w W : World} (h : Turn X w W) {a : Addr} {v : Value} (hc : w.cell? a = some v) (hx : ¬ X a.block) : W.cell? a = some v :=
  (World.cell?_of_block (h.block a.block (World.block_lt_of_cell? w a hc) hx)).trans hc

/-- a load, by what it runs to -/
theorem exec_load {P : Program} {W : World} {o : Oper} {ρ : Operand → Value} {ty : TypeId} {x : Operand} {ad : Addr} {v : Value} (ho : o.op = .load ty x) (hx : ρ x = .pointer (some ad)) (hl : (loadVar ty ad).run P W = .ok v W) : (execOp ρ o).run P W = .ok (.value v) W := by
  unfold execOp
  simp only [ho, hx, Instr.loadAt, Instr.sureAddr, Sem.run_bind, Sem.run_pure, Result.andThen_ok, hl]

/-- a sector is laid down -/
theorem wp_store_sec {o : Oper} {a : Act} {w : World} {K : Act → World → Prop} {Q : Exit → Act → World → Prop} {L n i : Nat} {f : Nat → List UInt8} {t : TypeId} {s : List UInt8} (x y : Operand) (ho : o.op = .store 60 x y)
    (hx : a.eval x = .pointer (some ⟨L, i * 64, none⟩)) (hy : a.eval y = secV s) (hg : w.heap[L]? = some (.cells (secs n f) t (0, 0))) (hi : i < n) (hs : s.length = 64)
    (h : K (a.put o.dst undef) (w.setRow L (secs n fun j => if j = i then s else f j))) : o.wp Try.prog a w K Q := by
  unfold Oper.wp execOp
  simp only [ho, hx, hy, Instr.storeAt, Instr.sureAddr, Sem.run_bind, Sem.run_pure, Result.andThen_ok, run_store_sec hg i hi s hs]
  exact h

/-- bytes that lie in no block of which X holds: they lie so in every world that is as w but for these -/
def Firm (X : Nat → Prop) (w : World) (A : Option Addr) (l : List UInt8) : Prop := ∀ V, Turn X w V → Rd V V.heap.size A l
theorem Firm.rd {X : Nat → Prop} {w : World} {A : Option Addr} {l : List UInt8} (h : Firm X w A l) : Rd w w.heap.size A l := h w (Turn.refl _ _)
theorem Firm.turn {X : Nat → Prop} {w w' : World} {A : Option Addr} {l : List UInt8} (h : Firm X w A l) (ht : Turn X w w') : Firm X w' A l := fun _ hV => h _ (ht.trans hV)
theorem Firm.mono {X X' : Nat → Prop} {w : World} {A : Option Addr} {l : List UInt8} (h : Firm X w A l) (hx : ∀ k, X' k → X k) : Firm X' w A l := fun _ hV => h _ (hV.mono hx)
theorem Rd.firm {X : Nat → Prop} {w : World} {B : Nat} {A : Option Addr} {l : List UInt8} (h : Rd w B A l) (hB : B ≤ w.heap.size) (hx : ∀ k, X k → B ≤ k) : Firm X w A l :=
  fun _ hV => (h.below (hV.below hx hB)).more (Nat.le_trans hB hV.size)
theorem Firm.block {X : Nat → Prop} {w : World} {g : Nat} {l : List UInt8} (hg : ¬ X g) (hl : g < w.heap.size) (hc : ∀ j x, l[j]? = some x → w.cell? ⟨g, j, none⟩ = some (byteV x)) : Firm X w (some ⟨g, 0, none⟩) l :=
  fun _ hV => .inr ⟨g, 0, rfl, Nat.lt_of_lt_of_le hl hV.size, fun j x hx => by rw [Nat.zero_add]; exact hV.cell (hc j x hx) hg⟩
theorem Firm.nil {X : Nat → Prop} {w : World} {A : Option Addr} : Firm X w A [] := fun _ _ => .nil _ _ _

theorem pad_get (l : List UInt8) (hl : l.length ≤ 64) (k : Nat) (h1 : l.length ≤ k) (h2 : k < 64) : (Dv.pad l)[k]? = some 0 := by
  unfold Dv.pad
  rw [List.getElem?_append_right h1, List.getElem?_replicate, if_pos (by omega)]
theorem secC_get (l : List UInt8) (k : Nat) : (secC l)[k]? = (l[k]?).map byteV := by
  unfold secC byteVs
  rw [List.getElem?_toArray, List.getElem?_map]

/-- 'copy(sector[:], b)' -/
theorem run_copy_sec {w : World} {g : Nat} (hg : w.heap[g]? = some (.cells (secC Dv.zeros) 60 (0, 0))) {B : Nat} {A : Option Addr} {l : List UInt8} (hr : Rd w B A l) (n c : Nat) (hn : l.length = n) (hl : n ≤ 64) (ty : TypeId) :
    (Builtin.copy_ #[32, 32] ty #[.slice (some ⟨g, 0, none⟩) 64 64, .slice A n c]).run Try.prog w = .ok (.int .i64 (n : Int)) (w.setRow g (secC (Dv.pad l))) := by
  subst hn
  have hmin : Nat.min l.length 64 = l.length := Nat.min_eq_left hl
  have hsz : ∃ i, Try.prog.info? 5 = some i ∧ i.size = 1 := by
    have hz : (Try.prog.info? 5).map (·.size) = some 1 := by kernel_rfl
    cases hi : Try.prog.info? 5 with
    | none => rw [hi] at hz; cases hz
    | some i => rw [hi] at hz; exact ⟨i, rfl, Option.some.inj hz⟩
  obtain ⟨i, hi, hs⟩ := hsz
  have hst := run_storeCells_at (P := Try.prog) g 0 60 (byteVs l) 0 (secC Dv.zeros) (secC (Dv.pad l)) w hg (by rw [length_byteVs, size_secC Dv.len_zeros]; omega) (byteVs_one l) (by rw [size_secC Dv.len_zeros, size_secC (Dv.len_pad l hl)])
    (fun k hk => by
      rw [length_byteVs] at hk
      rw [secC_get, secC_get]
      rcases Nat.lt_or_ge k 64 with h2 | h2
      · rw [pad_get l hl k (by omega) h2]
        unfold Dv.zeros
        rw [List.getElem?_replicate, if_pos h2]
      · rw [List.getElem?_eq_none (by rw [Dv.len_pad l hl]; exact h2), List.getElem?_eq_none (by rw [Dv.len_zeros]; exact h2)])
    (fun j hj => by
      rw [length_byteVs] at hj
      rw [secC_get, byteVs, List.getElem?_map, Dv.pad, List.getElem?_append_left (by omega)]
      simp only [Nat.zero_add])
  have hfc : (Builtin.firstCells 1 l.length (.slice A l.length c)).run Try.prog w = .ok (byteVs l).toArray w := by
    rcases A with _ | ad
    · have : l = [] := by
        rcases hr with h | ⟨b, o, e, _⟩
        · exact h
        · cases e
      subst this
      simp [Builtin.firstCells, byteVs]
    · have := run_loadCells_list (P := Try.prog) w ad (byteVs l) (fun j v hv => by
        rcases hr with h | ⟨b, o, e, _, hc⟩
        · subst h; simp [byteVs] at hv
        · injection e with e
          subst e
          rw [byteVs, List.getElem?_map] at hv
          cases hx : l[j]? with
          | none => rw [hx] at hv; cases hv
          | some x =>
            rw [hx] at hv
            rw [addr_add, hc j x hx]
            exact hv)
      rw [length_byteVs] at this
      simpa [Builtin.firstCells] using this
  simp [Builtin.copy_, run_underlying Try.underlying32, Builtin.lenOf, hmin, sizeOf, typeInfo, hi, hs, hfc, hst, goInt, Result.andThen]

theorem wpList_copy_sec {w : World} {ops : Array Oper} {rest : List Oper} {o : Oper} {a : Act} {Q : Exit → Act → World → Prop} (hgd : o.guard = none) (s x : Operand) (ho : o.op = .call { callee := .builtin .copy, args := #[s, x], argTypes := #[32, 32] })
    {g : Nat} (hg : w.heap[g]? = some (.cells (secC Dv.zeros) 60 (0, 0))) {B : Nat} {A : Option Addr} {l : List UInt8} (hr : Rd w B A l) (n c : Nat) (hn : l.length = n) (hl : n ≤ 64)
    (hs : a.eval s = .slice (some ⟨g, 0, none⟩) 64 64) (hx : a.eval x = .slice A n c)
    (h : wpList Try.prog ops Q rest (a.put o.dst (.int .i64 (n : Int))) (w.setRow g (secC (Dv.pad l)))) : wpList Try.prog ops Q (o :: rest) a w := by
  refine wpList_plain hgd fun K hK => ?_
  unfold Oper.wp
  simp [execOp, ho, resolve, invoke, builtin, hs, hx, run_copy_sec hg hr n c hn hl, Result.andThen]
  exact hK _ _ h

end Go.Proofs.Ytaidjnpbjoncoaa
