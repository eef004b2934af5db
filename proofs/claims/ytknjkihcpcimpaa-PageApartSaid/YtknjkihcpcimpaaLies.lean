/-
  Bytes that lie somewhere, with their count and room; the document's example; what is sealed is opened, one bit turned is not.
-/
import Derived.Test.YtknjkihcpcimpaaRefOpen
import Derived.Lib.SlBytesConst
import Derived.OwnWalk
namespace Go.Proofs.Ytknjkihcpcimpaa
set_option maxRecDepth 100000
open Go.RowKit Crc Wm

/-- the n bytes l lie there, and there is room for as many at least -/
structure Lies (w : World) (A : Option Addr) (c n : Nat) (l : List UInt8) : Prop where
  rd : Rd w w.heap.size A l
  len : l.length = n
  cap : n ≤ c

theorem Owns.cap_le {w : World} {base : Nat} {A : Option Addr} {cap n : Nat} {l : List UInt8} (h : Owns w base A cap n l) : n ≤ cap := by
  rcases h.2 with ⟨_, hn⟩ | ⟨g, c, cur, e, _, _, hnc, _⟩
  · omega
  · injection e with _ _ e3
    omega
theorem Owns.lies {w : World} {base : Nat} {A : Option Addr} {cap n : Nat} {l : List UInt8} (h : Owns w base A cap n l) : Lies w A cap n l := ⟨h.read, h.len, h.cap_le⟩
theorem Lies.up {w W : World} {A : Option Addr} {c n : Nat} {l : List UInt8} (h : Lies w A c n l) (hb : Below w.heap.size w W) : Lies W A c n l := ⟨h.rd.up hb, h.len, h.cap⟩
theorem Lies.conv {w : World} {A : Option Addr} {c n : Nat} {l : List UInt8} (h : Lies w A c n l) : (convert 22 9 (.slice A n c)).run Try.prog w = .ok (.string ⟨l.toArray⟩) w :=
  run_string_rd h.rd _ _ Try.underlying22 Try.underlying5 Try.underlying9 n c h.len

theorem open_lies {w : World} {A : Option Addr} {c n : Nat} {l : List UInt8} (h : Lies w A c (n + 4) l) (hl : n ≤ 1073741824) : Calls Try.prog 43 #[.slice A (n + 4) c] w (Opened w n l) := by
  have hr := h.rd
  rcases h.rd with h0 | ⟨b, o, rfl, _, _⟩
  · exfalso
    have := h.len
    rw [h0] at this
    simp at this
  · exact open_len b o c n l h.len h.cap w hr hl
theorem refopen_lies {w : World} {A : Option Addr} {c n : Nat} {l : List UInt8} (h : Lies w A c (n + 4) l) (hl : n ≤ 1073741824) : Calls Try.prog 46 #[.slice A (n + 4) c] w (Opened w n l) := by
  have hr := h.rd
  rcases h.rd with h0 | ⟨b, o, rfl, _, _⟩
  · exfalso
    have := h.len
    rw [h0] at this
    simp at this
  · exact refopen_len b o c n l h.len h.cap w hr hl

/-- what is sealed is whole -/
theorem whole_sealB (l : List UInt8) (n : Nat) (h : l.length = n) : whole (sealB l) n = true := by
  subst h
  unfold whole sealB
  rw [List.drop_left, List.take_left, beq_self_eq_true]
theorem take_sealB (l : List UInt8) (n : Nat) (h : l.length = n) : (sealB l).take n = l := by
  subst h
  unfold sealB
  rw [List.take_left]

/-- Open of what is sealed: a copy -/
def Back (w : World) (n : Nat) (l : List UInt8) (e : Ending) (w' : World) : Prop :=
  ∃ A cap, e = .returned (.tuple #[.slice A n cap, .int .i64 0]) ∧ Owns w' w.heap.size A cap n l ∧ Below w.heap.size w w'
theorem open_sealed {w : World} {A : Option Addr} {c n : Nat} {l : List UInt8} (h : Lies w A c (n + 4) (sealB l)) (hl : n ≤ 1073741824) : Calls Try.prog 43 #[.slice A (n + 4) c] w (Back w n l) := by
  have hn : l.length = n := by have := h.len; rw [length_seal] at this; omega
  refine (open_lies h hl).mono ?_
  rintro e w' ⟨A', cap, E, rfl, rfl, ho, hb⟩
  simp only [whole_sealB l n hn, take_sealB l n hn, if_true] at ho ⊢
  exact ⟨A', cap, rfl, ho, hb⟩
theorem open_spoilt {w : World} {A : Option Addr} {c n : Nat} {l : List UInt8} (h : Lies w A c (n + 4) l) (hl : n ≤ 1073741824) (hw : whole l n = false) :
    Calls Try.prog 43 #[.slice A (n + 4) c] w fun e w' => ∃ A' cap, e = .returned (.tuple #[.slice A' 0 cap, .int .i64 4]) ∧ Below w.heap.size w w' := by
  refine (open_lies h hl).mono ?_
  rintro e w' ⟨A', cap, E, rfl, rfl, ho, hb⟩
  simp only [hw, Bool.false_eq_true, if_false]
  exact ⟨A', cap, rfl, hb⟩

theorem sum4_inj {a b : List UInt8} (h : sum4 a = sum4 b) : ofB a = ofB b := by
  have h2 := congrArg valB h
  unfold sum4 at h2
  rw [val_putB_fit 4 _ (ofB a).isLt, val_putB_fit 4 _ (ofB b).isLt] at h2
  exact BitVec.eq_of_toNat_eq h2

/-- one byte turned into another: what was sealed is whole no longer -/
theorem turned_spoilt (l : List UInt8) (n i : Nat) (y : UInt8) (hn : l.length = n) (hi : i < (sealB l).length) (hy : y ≠ (sealB l)[i]) : whole ((sealB l).set i y) n = false := by
  subst hn
  unfold whole
  rw [beq_eq_false_iff_ne]
  rcases Nat.lt_or_ge i l.length with h | h
  · have hg : (sealB l)[i] = l[i] := List.getElem_append_left h
    rw [hg] at hy
    have hs : (sealB l).set i y = l.set i y ++ sum4 l := by unfold sealB; rw [List.set_append_left _ _ h]
    rw [hs]
    have hlen : (l.set i y).length = l.length := List.length_set
    rw [← hlen, List.drop_left, List.take_left]
    intro e
    have h1 := sum4_inj e
    have h2 : l = l.take i ++ l[i] :: l.drop (i + 1) := by
      conv => lhs; rw [← List.take_append_drop i l]
      rw [List.drop_eq_getElem_cons h]
    have h3 : l.set i y = l.take i ++ y :: l.drop (i + 1) := List.set_eq_take_append_cons_drop.trans (if_pos h)
    rw [h3] at h1
    conv at h1 => lhs; rw [h2]
    exact hy (ofB_turned _ _ _ _ h1).symm
  · have hs : (sealB l).set i y = l ++ (sum4 l).set (i - l.length) y := by unfold sealB; rw [List.set_append_right _ _ h]
    rw [hs, List.drop_left, List.take_left]
    intro e
    have hlt : i - l.length < (sum4 l).length := by rw [length_sum4]; rw [length_seal] at hi; omega
    have h4 : (sealB l)[i] = (sum4 l)[i - l.length] := List.getElem_append_right h
    apply hy
    rw [h4]
    have h5 : ((sum4 l).set (i - l.length) y)[i - l.length]? = some y := by rw [List.getElem?_set_self hlt]
    rw [e, List.getElem?_eq_getElem hlt] at h5
    injection h5 with h5
    exact h5.symm

/-- the bytes of an owned row of a known length, cell by cell -/
theorem Owns.at_ {w : World} {base : Nat} {A : Option Addr} {cap n : Nat} {l : List UInt8} (h : Owns w base A cap n l) (hn : 0 < n) : ∃ g, A = some ⟨g, 0, none⟩ ∧ g < w.heap.size ∧ base ≤ g ∧ (∀ j x, l[j]? = some x → w.cell? ⟨g, j, none⟩ = some (byteV x)) ∧ ∀ j, w.frozen? ⟨g, j, none⟩ = false := by
  have hlen := h.len
  rcases h.2 with ⟨e, h0⟩ | ⟨g, c, cur, e, hb, hh, _, _, _, _⟩
  · omega
  · injection e with e1 _ e3
    subst e1
    refine ⟨g, rfl, (h.lt g rfl).2, hb, fun j x hx => ?_, fun j => frozen_of_row _ _ _ _ _ hh⟩
    have hj := h.cells (g := g) rfl j (byteV x) (by simp [byteVs, hx])
    unfold Addr.add at hj
    split at hj
    · next h0 => subst h0; exact hj
    · simpa using hj

/-- one byte of an owned row set -/
theorem Owns.set_ {w : World} {base g : Nat} {cap n : Nat} {l : List UInt8} (h : Owns w base (some ⟨g, 0, none⟩) cap n l) (i : Nat) (y : UInt8) (hi : i < n) : Owns (w.setCell ⟨g, i, none⟩ (byteV y)) base (some ⟨g, 0, none⟩) cap n (l.set i y) := by
  have hlen := h.len
  refine ⟨by rw [length_byteVs, List.length_set]; omega, ?_⟩
  rcases h.2 with ⟨e, h0⟩ | ⟨g', c, cur, e, hb, hh, h1, h2, h3, h4⟩
  · omega
  · injection e with e1 _ e3
    injection e1 with e1
    injection e1 with e1 _ _
    subst e1
    refine .inr ⟨g, c, cur.setIfInBounds i (byteV y), by rw [e3], hb, heap_setCell_same _ _ _ _ _ _ hh, h1, h2, by rw [Array.size_setIfInBounds]; exact h3, ?_⟩
    rw [Array.toList_setIfInBounds, List.take_set, h4]
    unfold byteVs
    rw [List.map_set]

theorem Owns.set_other {w : World} {base g : Nat} {cap n : Nat} {l : List UInt8} (h : Owns w base (some ⟨g, 0, none⟩) cap n l) (p : Addr) (v : Value) (hp : g ≠ p.block) : Owns (w.setCell p v) base (some ⟨g, 0, none⟩) cap n l := by
  refine ⟨h.1, ?_⟩
  rcases h.2 with ⟨e, h0⟩ | ⟨g', c, cur, e, hb, hh, rest⟩
  · exact .inl ⟨e, h0⟩
  · have e' := e
    injection e' with e1 _ e3
    injection e1 with e1
    injection e1 with e1 _ _
    subst e1
    exact .inr ⟨g, c, cur, e, hb, by rw [heap_setCell_other _ _ _ _ hp]; exact hh, rest⟩

/-- 'make([]byte, n)' -/
theorem made_zeros {w : World} {base : Nat} {A : Option Addr} {cap n : Nat} (h : w.ownsRow base 5 1 (.slice A n cap) n (madeCells (Value.cells (.int .u8 0)) (n * 1)).toList) : Owns w base A cap n (List.replicate n 0) := by
  have e : (madeCells (Value.cells (.int .u8 0)) (n * 1)).toList = byteVs (List.replicate n 0) := by
    unfold madeCells byteVs
    rw [Array.toList_map, Array.toList_range, List.map_replicate, Nat.mul_one, List.eq_replicate_iff]
    refine ⟨by simp, fun b hb => ?_⟩
    obtain ⟨i, _, rfl⟩ := List.mem_map.1 hb
    simp [Value.cells, byteV, Nat.mod_one]
  rw [e] at h
  exact h

section
variable {w1 W : World} {A : Option Addr} {c n : Nat} {l : List UInt8}
/-- sums in a later world -/
theorem of_since (h : Lies w1 A c n l) (hl : n ≤ 1099511627776) (hb : Since w1 W) : Calls Try.prog 55 #[.slice A n c] W fun e W' => e = .returned (.int .u32 (word (ofB l))) ∧ Since w1 W' ∧ Below W.heap.size W W' :=
  (of_any A c n l h.len W (h.up hb).rd hl).mono fun _ _ ⟨he, hb'⟩ => ⟨he, since_trans hb hb', hb'⟩
theorem more_since (s : BitVec 32) (h : Lies w1 A c n l) (hl : n ≤ 1099511627776) (hb : Since w1 W) : Calls Try.prog 58 #[.int .u32 (word s), .slice A n c] W fun e W' => e = .returned (.int .u32 (word (more s l))) ∧ Since w1 W' ∧ Below W.heap.size W W' :=
  (more_any s A c n l h.len W (h.up hb).rd hl).mono fun _ _ ⟨he, hb'⟩ => ⟨he, since_trans hb hb', hb'⟩
theorem refof_since (h : Lies w1 A c n l) (hl : n ≤ 1099511627776) (hb : Since w1 W) : Calls Try.prog 50 #[.slice A n c] W fun e W' => e = .returned (.int .u32 (word (ofB l))) ∧ Since w1 W' ∧ Below W.heap.size W W' :=
  (refof_any A c n l h.len W (h.up hb).rd hl).mono fun _ _ ⟨he, hb'⟩ => ⟨he, hb' ▸ hb, hb' ▸ Below.refl _ _⟩
theorem refmore_since (s : BitVec 32) (h : Lies w1 A c n l) (hl : n ≤ 1099511627776) (hb : Since w1 W) : Calls Try.prog 56 #[.int .u32 (word s), .slice A n c] W fun e W' => e = .returned (.int .u32 (word (more s l))) ∧ Since w1 W' ∧ Below W.heap.size W W' :=
  (refmore_any s A c n l h.len W (h.up hb).rd hl).mono fun _ _ ⟨he, hb'⟩ => ⟨he, hb' ▸ hb, hb' ▸ Below.refl _ _⟩
end

def example9 : List UInt8 := [49, 50, 51, 52, 53, 54, 55, 56, 57]
theorem example_sum : word (ofB example9) = 3421780262 := by kernel_rfl

theorem example_rd (w : World) : Rd (w.alloc (.cells #[.int .u8 49, .int .u8 50, .int .u8 51, .int .u8 52, .int .u8 53, .int .u8 54, .int .u8 55, .int .u8 56, .int .u8 57] 5 (9, 10))) (w.heap.size + 1) (some ⟨w.heap.size, 0, none⟩) example9 := by
  refine .inr ⟨_, 0, rfl, by omega, fun j y hy => ?_⟩
  rw [Nat.zero_add, cell_of_row _ _ _ _ _ _ (heap_alloc_new w _)]
  rcases j with _ | _ | _ | _ | _ | _ | _ | _ | _ | j
  all_goals first | (injection hy with hy; subst hy; rfl) | cases hy

end Go.Proofs.Ytknjkihcpcimpaa
