/-
  PoolTells' pool, by its words; strings in a row.
-/
import Derived.Test.YtnpgmiokimahiaaAc
namespace Go.Proofs.Ytnpgmiokimahiaa
set_option maxRecDepth 100000
set_option linter.unusedVariables false
open Go.RowKit Pl

def str (l : List UInt8) : ByteArray := ⟨l.toArray⟩
theorem str_toList (l : List UInt8) : (str l).toList = l := by
  unfold str
  rw [ByteArray.toList_eq] <;> simp
theorem str_append (a b : List UInt8) : str a ++ str b = str (a ++ b) := by
  apply ByteArray.ext
  rw [ByteArray.data_append]
  simp [str]
theorem str_size (l : List UInt8) : (str l).size = l.length := by
  show l.toArray.size = _
  simp
theorem str_cut (a : List UInt8) (h : a.length ≤ 64) : (str (a ++ List.replicate 64 0)).extract 0 64 = str (Dv.pad a) := by
  apply ByteArray.ext
  rw [ByteArray.data_extract]
  apply Array.ext'
  rw [Array.toList_extract]
  show ((a ++ List.replicate 64 0).toArray.toList.take 64).drop 0 = (Dv.pad a).toArray.toList
  simp only [List.drop_zero]
  unfold Dv.pad
  rw [List.take_append, List.take_of_length_le h, List.take_replicate, Nat.min_eq_left (by omega)]

theorem vr_rd {w : World} {g : Nat} {l : List UInt8} (h : Vr w g 5 (byteVs l)) : Rd w w.heap.size (some ⟨g, 0, none⟩) l := by
  refine .inr ⟨g, 0, rfl, h.lt, fun j x hx => ?_⟩
  rw [Nat.zero_add, h.cell]
  unfold byteVs
  rw [List.getElem?_map, hx]
  rfl
theorem byte_info_ : (Try.prog.info? 5).map (fun i => (i.zero, i.size, i.bytes)) = some (some (.int .u8 0), 1, 1) := by kernel_rfl
theorem string_info : (Try.prog.info? 9).map (fun i => (i.zero, i.size, i.bytes)) = some (some (.string (str [])), 1, 16) := by kernel_rfl
/-- 'make([]byte, n)' -/
theorem make_zeros (w : World) (n : Nat) (hn : n ≤ 1000000) : ∃ w', (Instr.makeSlice 33 (.int .i64 (n : Int)) (.int .i64 (n : Int))).run Try.prog w = .ok (.slice (some ⟨w.heap.size, 0, none⟩) n n) w' ∧
    Rd w' w'.heap.size (some ⟨w.heap.size, 0, none⟩) (List.replicate n 0) ∧ Below w.heap.size w w' := by
  obtain ⟨w', h1, h2, h3⟩ := make_row (t := 33) Try.underlying33 byte_info_ rfl w n hn (by omega)
  refine ⟨w', h1, vr_rd ?_, h3⟩
  have e : byteVs (List.replicate n 0) = List.replicate n (.int .u8 0) := by
    unfold byteVs
    rw [List.map_replicate]
    rfl
  rw [e]
  exact h2
theorem rd_conv {w : World} {B n c : Nat} {A : Option Addr} {l : List UInt8} (h : Rd w B A l) (hn : l.length = n) : (convert 33 9 (.slice A n c)).run Try.prog w = .ok (.string (str l)) w :=
  run_string_rd h _ _ Try.underlying33 Try.underlying5 Try.underlying9 n c hn

/-- twelve strings -/
def wantV (f : Nat → List UInt8) : List Value := (List.range 12).map fun i => .string (str (f i))
def updF (f : Nat → List UInt8) (i : Nat) (l : List UInt8) : Nat → List UInt8 := fun j => if j = i then l else f j
theorem wantV_zero : List.replicate 12 (Value.string (str [])) = wantV fun _ => [] := rfl
theorem wantV_at (f : Nat → List UInt8) {i : Nat} (hi : i < 12) : (wantV f)[i]? = some (.string (str (f i))) := by
  unfold wantV
  rw [List.getElem?_map, List.getElem?_range hi]
  rfl
theorem wantV_set (f : Nat → List UInt8) {i : Nat} (hi : i < 12) (l : List UInt8) : (wantV f).set i (.string (str l)) = wantV (updF f i l) := by
  apply List.ext_getElem?
  intro j
  rw [List.getElem?_set]
  unfold wantV
  by_cases e : i = j
  · subst e
    rw [if_pos rfl, List.length_map, List.length_range, if_pos hi, List.getElem?_map, List.getElem?_range hi]
    show _ = some (Value.string (str (updF f i l i)))
    rw [show updF f i l i = l from if_pos rfl]
  · rw [if_neg e, List.getElem?_map, List.getElem?_map]
    rcases Nat.lt_or_ge j 12 with h | h
    · rw [List.getElem?_range h]
      show some (Value.string (str (f j))) = some (Value.string (str (updF f i l j)))
      rw [show updF f i l j = f j from if_neg (fun e2 => e e2.symm)]
    · rw [List.getElem?_eq_none (by simp; exact h)]
      rfl

/-- what PoolTells keeps -/
structure TI (j : Nat) (f : Nat → List UInt8) (D : Dv) (m : Pm) : Prop where
  n : D.n = 12
  cur : ∀ i, i < 12 → cur D m i = f i
  lsn : ∀ i g, m.F i = some g → g.dirty = true → g.lsn ≤ 15
  spent : D.spent ≤ 13 * j
  reads : m.reads ≤ j
theorem TI.start {room : Nat} : TI 0 (fun _ => Dv.zeros) (Dv.fresh 12) (new_ room) := ⟨rfl, fun _ _ => rfl, fun i g h => (by cases h), Nat.le_refl _, Nat.le_refl _⟩
theorem TI.held {j i : Nat} {f : Nat → List UInt8} {D : Dv} {m : Pm} (h : TI j f D m) {E : Int} {D' : Dv} {m' : Pm} (hh : Held D m i E D' m') : TI (j + 1) f D' m' := by
  have h1 := h.spent
  have h2 := h.reads
  refine ⟨hh.n.trans h.n, fun k hk => (hh.cur k (by rw [h.n]; exact hk)).trans (h.cur k hk), fun k g hk hd => ?_, ?_, by have := hh.reads; omega⟩
  · rcases hh.old k g hk with e | ⟨_, _, e, _⟩
    · exact h.lsn k g e hd
    · rw [e] at hd; cases hd
  · rcases hh.spent with e | ⟨e, _⟩ <;> omega
theorem TI.putd {j i : Nat} {f : Nat → List UInt8} {D : Dv} {m : Pm} (h : TI j f D m) {b : List UInt8} {lsn E : Int} {D' : Dv} {m' : Pm} (hl : lsn ≤ 15) (hi : i < 12) (hh : Putd D m i b lsn E D' m') : (E = 0 → b.length ≤ 64 ∧ TI (j + 1) (updF f i (Dv.pad b)) D' m') ∧ (E ≠ 0 → TI (j + 1) f D' m' ∧ (E = 5 ∨ E = 1)) := by
  have h1 := h.spent
  have h2 := h.reads
  have hlsn : ∀ k g, m'.F k = some g → g.dirty = true → g.lsn ≤ 15 := fun k g hk hd => by
    rcases hh.old k g hk with e | ⟨e, _⟩ | ⟨_, e | ⟨q, hq, hqd, e⟩⟩
    · exact h.lsn k g e hd
    · rw [e] at hd; cases hd
    · omega
    · have := h.lsn k q hq hqd; omega
  have hsp : D'.spent ≤ 13 * (j + 1) := by rcases hh.spent with e | ⟨e, _⟩ <;> omega
  have hrd : m'.reads ≤ j + 1 := by have := hh.reads; omega
  refine ⟨fun e => ?_, fun e => ⟨⟨hh.n.trans h.n, fun k hk => (hh.cur e k (by rw [h.n]; exact hk)).trans (h.cur k hk), hlsn, hsp, hrd⟩, ?_⟩⟩
  · obtain ⟨hb, hc⟩ := hh.cur0 e
    refine ⟨hb, hh.n.trans h.n, fun k hk => ?_, hlsn, hsp, hrd⟩
    rw [hc k (by rw [h.n]; exact hk)]
    unfold updF
    split
    · rfl
    · exact h.cur k hk
  · rcases hh.e with h0 | h0 | ⟨h0, _⟩
    · exact absurd h0 e
    · exact .inl h0
    · exact .inr h0
theorem TI.tell {j : Nat} {f : Nat → List UInt8} {D : Dv} {m : Pm} (h : TI j f D m) (l : Int) : TI (j + 1) f D (m.tell l) := ⟨h.n, h.cur, h.lsn, by have := h.spent; omega, Nat.le_succ_of_le h.reads⟩
theorem TI.wash {j : Nat} {f : Nat → List UInt8} {D : Dv} {m : Pm} (h : TI j f D m) {D' : Dv} {m' : Pm} (hh : Cleaned D m 0 D' m') : TI (j + 1) f D' m' := by
  have h1 := h.spent
  refine ⟨hh.n.trans h.n, fun k hk => (hh.cur k).trans (h.cur k hk), fun k g hk hd => ?_, ?_, by rw [hh.reads]; exact Nat.le_succ_of_le h.reads⟩
  · rw [hh.F] at hk
    cases hf : m.F k with
    | none => rw [hf] at hk; cases hk
    | some q =>
      rw [hf] at hk
      by_cases hc : q.dirty = true ∧ q.lsn ≤ m.safe
      · rw [washed_yes hc] at hk
        injection hk with hk
        subst hk
        cases hd
      · rw [washed_no hc] at hk
        injection hk with hk
        subst hk
        exact h.lsn k q hf hd
  · have hle := List.length_filter_le (fun i => isClean m.safe (m.F i)) (List.range D.n)
    rw [List.length_range, h.n] at hle
    rw [hh.spent, h.n]
    omega
/-- behind Safe of a hundred and Clean all is on the device -/
theorem TI.last {j : Nat} {f : Nat → List UInt8} {D : Dv} {m : Pm} (h : TI j f D (m.tell 100)) {D' : Dv} {m' : Pm} (hh : Cleaned D (m.tell 100) 0 D' m') : dirt 12 m'.F = [] ∧ ∀ i, i < 12 → sec D' i = f i := by
  have hs : (100 : Int) ≤ (m.tell 100).safe := Int.le_max_right _ _
  have hno : ∀ i g, m'.F i = some g → g.dirty = false := fun i g hi => by
    rw [hh.F] at hi
    cases hf : (m.tell 100).F i with
    | none => rw [hf] at hi; cases hi
    | some q =>
      rw [hf] at hi
      by_cases hc : q.dirty = true ∧ q.lsn ≤ (m.tell 100).safe
      · rw [washed_yes hc] at hi
        injection hi with hi
        subst hi
        rfl
      · rw [washed_no hc] at hi
        injection hi with hi
        subst hi
        cases hd : q.dirty with
        | false => rfl
        | true => exact absurd ⟨hd, by have := h.lsn i q hf hd; omega⟩ hc
  constructor
  · unfold dirt
    rw [List.filter_eq_nil_iff]
    intro i _
    cases hf : m'.F i with
    | none => simp [isDirty]
    | some g => simp [isDirty, hno i g hf]
  · intro i hi
    rw [← h.cur i hi, ← hh.cur i]
    cases hf : m'.F i with
    | none => rw [cur_none hf]
    | some g => rw [cur_some hf]; exact (hh.agree i g hf (hno i g hf)).symm

end Go.Proofs.Ytnpgmiokimahiaa
