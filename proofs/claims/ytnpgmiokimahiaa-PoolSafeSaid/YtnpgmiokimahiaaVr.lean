/-
  A row of values of one cell each, in a block of its own.
-/
import Derived.Test.YtnpgmiokimahiaaPy
namespace Go.Proofs.Ytnpgmiokimahiaa
set_option maxRecDepth 100000
set_option linter.unusedVariables false
open Go.RowKit

def Vr (w : World) (g : Nat) (e : TypeId) (vs : List Value) : Prop := w.heap[g]? = some (.cells vs.toArray e (0, 0))
section
variable {w V : World} {g : Nat} {e : TypeId} {vs : List Value}
theorem Vr.lt (h : Vr w g e vs) : g < w.heap.size := lt_of_block h
theorem Vr.cell (h : Vr w g e vs) (i : Nat) : w.cell? ⟨g, i, none⟩ = vs[i]? := by rw [cell_of_row _ _ _ _ _ _ h]; simp
theorem Vr.fr (h : Vr w g e vs) (i : Nat) : w.frozen? ⟨g, i, none⟩ = false := frozen_of_row _ _ _ _ _ h
theorem Vr.keep (h : Vr w g e vs) (hb : V.heap[g]? = w.heap[g]?) : Vr V g e vs := hb.trans h
theorem Vr.below (h : Vr w g e vs) (hb : Below w.heap.size w V) : Vr V g e vs := h.keep (hb.block g h.lt)
theorem Vr.set_ (h : Vr w g e vs) (i : Nat) (v : Value) : Vr (w.setCell ⟨g, i, none⟩ v) g e (vs.set i v) := by
  show _ = _
  rw [heap_setCell_same _ _ _ _ _ _ h]
  simp
end

theorem setCell_grown (w : World) (g o : Nat) (u : Value) : w.grownBy (w.setCell ⟨g, o, none⟩ u) (some g) :=
  ⟨rfl, rfl, rfl, by simp [World.setCell], fun k _ hk => Below.heap_setCell w ⟨g, o, none⟩ u k (fun e => hk (by rw [e]))⟩

/-- bytes of a call's own: where they lie, and that they stay -/
theorem Owns.at_ {w : World} {base : Nat} {A : Option Addr} {cap n : Nat} {l : List UInt8} (h : Owns w base A cap n l) (hn : 0 < n) : ∃ g, A = some ⟨g, 0, none⟩ ∧ g < w.heap.size ∧ base ≤ g ∧ ∀ j x, l[j]? = some x → w.cell? ⟨g, j, none⟩ = some (byteV x) := by
  have hlen := h.len
  have hr := h.read
  rcases h.2 with ⟨_, h0⟩ | ⟨g, c, cur, e, hb, hh, _⟩
  · omega
  · injection e with e1 _ _
    subst e1
    refine ⟨g, rfl, lt_of_block hh, hb, fun j x hx => ?_⟩
    rcases hr with h0 | ⟨b, o, e, _, hc⟩
    · rw [h0] at hx; cases hx
    · injection e with e
      injection e with e1 e2 _
      subst e1 e2
      have := hc j x hx
      rwa [Nat.zero_add] at this
theorem Owns.turn {w V : World} {base : Nat} {A : Option Addr} {cap n : Nat} {l : List UInt8} {S : Nat → Prop} (h : Owns w base A cap n l) (ht : Turn S w V) (hx : ∀ k, S k → k < base) : Owns V base A cap n l := by
  refine ⟨h.1, ?_⟩
  rcases h.2 with h2 | ⟨g, c, cur, e, hg, hh, rest⟩
  · exact .inl h2
  · refine .inr ⟨g, c, cur, e, hg, (ht.block g (lt_of_block hh) (fun hs => ?_)).trans hh, rest⟩
    have := hx g hs
    omega

theorem make_row {t e : TypeId} {z : Value} {bts : Nat} (hu : Try.prog.underlying t = some (.slice e)) (hi : (Try.prog.info? e).map (fun i => (i.zero, i.size, i.bytes)) = some (some z, 1, bts)) (hz : z.cells = #[z]) (w : World) (n : Nat) (hn : n ≤ 1000000) (hb : bts ≤ 1000) :
    ∃ w', (Instr.makeSlice t (.int .i64 (n : Int)) (.int .i64 (n : Int))).run Try.prog w = .ok (.slice (some ⟨w.heap.size, 0, none⟩) n n) w' ∧ Vr w' w.heap.size e (List.replicate n z) ∧ Below w.heap.size w w' := by
  obtain ⟨i0, hi0, hz0, hz1, hz2⟩ := info_parts hi
  obtain ⟨w2, hmk, hown, hgr⟩ := run_make_full (P := Try.prog) w w.heap.size t e i0 z 1 hu hi0 hz0 hz1 .i64 .i64 n (by rw [hz2]; have : bts * n ≤ 1000 * 1000000 := Nat.mul_le_mul hb hn; omega) (by unfold maxLen; omega) (Nat.le_refl _)
  refine ⟨w2, hmk, ?_, (Below.refl _ _).grown hgr (Nat.le_refl _) (by simp)⟩
  have hm : (madeCells z.cells (n * 1)).toList = List.replicate n z := by
    rw [hz]
    unfold madeCells
    rw [Array.toList_map, Array.toList_range, Nat.mul_one, List.eq_replicate_iff]
    refine ⟨by simp, fun b hb => ?_⟩
    obtain ⟨i, _, rfl⟩ := List.mem_map.1 hb
    simp [Nat.mod_one]
  rw [hm] at hown
  rcases hown.2 with ⟨h, _⟩ | ⟨g, c, cur, he, hg, hh, hnc, hcm, hcs, ht⟩
  · cases h
  · injection he with e1 e2 e3
    injection e1 with e1
    injection e1 with e1
    subst e1
    subst e3
    show _ = _
    rw [hh]
    congr 2
    have h2 : cur.toList = List.replicate n z := by
      rw [← ht, List.take_of_length_le (by rw [Array.length_toList, hcs]; exact Nat.le_refl _)]
    rw [← h2, Array.toArray_toList]

theorem bool_info : (Try.prog.info? 4).map (fun i => (i.zero, i.size, i.bytes)) = some (some (.bool false), 1, 1) := by kernel_rfl

end Go.Proofs.Ytnpgmiokimahiaa
