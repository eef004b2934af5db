/-
  Notes there and back, by their words; beginnings, one more, sizes. No program.
-/
import Derived.Test.YtjpnihmijnpjcaaNm
namespace Go.Proofs.Ytjpnihmijnpjcaa
set_option maxRecDepth 100000
set_option linter.unusedVariables false
set_option linter.unusedSimpArgs false
open Go.RowKit Wm Nn

namespace Nn
theorem at_mid {l a x z : List UInt8} {i n : Nat} (h : l = a ++ x ++ z) (ha : a.length = i) (hx : x.length = n) : (l.drop i).take n = x := by
  rw [h, List.append_assoc, List.drop_append_of_le_length (by omega), List.drop_of_length_le (by omega), List.nil_append, List.take_append_of_le_length (by omega), List.take_of_length_le (by omega)]
theorem num_at {l a x z : List UInt8} {i n : Nat} (h : l = a ++ x ++ z) (ha : a.length = i) (hx : x.length = n) : num l i n = valB x := by unfold num; rw [at_mid h ha hx]
theorem num_take (b : List UInt8) {k i n : Nat} (h : i + n ≤ k) : num (b.take k) i n = num b i n := by
  unfold num
  rw [List.drop_take, List.take_take, Nat.min_eq_left (by omega)]
theorem num_app (b c : List UInt8) {i n : Nat} (h : i + n ≤ b.length) : num (b ++ c) i n = num b i n := by
  unfold num
  rw [List.drop_append_of_le_length (by omega), List.take_append_of_le_length (by rw [List.length_drop]; omega)]

/-- what a told note's bytes are by length -/
theorem dec_ok {b : List UInt8} (h : decE b = 0) : b.length = 11 + 33 * mOf b + 9 * qOf b ∧ mOf b ≤ 256 ∧ qOf b ≤ 256 ∧ San (tell b) := by
  unfold decE at h
  split at h
  · cases h
  split at h
  · cases h
  split at h
  · cases h
  split at h
  · cases h
  split at h
  · cases h
  split at h
  · cases h
  next h1 h2 h3 h4 h5 h6 =>
    have h7 : ¬ (11 + 33 * mOf b + 9 * qOf b < b.length) := fun e => h6 (.inl e)
    exact ⟨by omega, by omega, by omega, Classical.byContradiction fun e => h6 (.inr e)⟩
theorem dec_of {b : List UInt8} (h1 : b.length = 11 + 33 * mOf b + 9 * qOf b) (h2 : mOf b ≤ 256) (h3 : qOf b ≤ 256) (h4 : San (tell b)) : decE b = 0 := by
  unfold decE
  rw [if_neg (by omega), if_neg (by omega), if_neg (by omega), if_neg (by omega), if_neg (by omega), if_neg (fun e => by rcases e with e | e; omega; exact e h4)]
theorem decE_cases (b : List UInt8) : decE b = 0 ∨ decE b = 2 ∨ decE b = 3 := by
  unfold decE
  split
  · exact .inr (.inl rfl)
  split
  · exact .inr (.inr rfl)
  split
  · exact .inr (.inl rfl)
  split
  · exact .inr (.inr rfl)
  split
  · exact .inr (.inl rfl)
  split
  · exact .inr (.inr rfl)
  · exact .inl rfl
/-- a beginning is too short -/
theorem dec_take {b : List UInt8} (h : decE b = 0) {k : Nat} (hk : k < b.length) : decE (b.take k) = 2 := by
  obtain ⟨h1, h2, h3, _⟩ := dec_ok h
  have hl : (b.take k).length = k := by rw [List.length_take]; omega
  unfold decE
  rw [hl]
  by_cases h9 : k < 9
  · rw [if_pos h9]
  have hm : mOf (b.take k) = mOf b := num_take b (by omega)
  rw [if_neg h9, hm, if_neg (by omega)]
  by_cases h11 : k < 11 + 33 * mOf b
  · rw [if_pos h11]
  have hq : qOf (b.take k) = qOf b := by unfold qOf; rw [hm]; exact num_take b (by omega)
  rw [if_neg h11, hq, if_neg (by omega), if_pos (by omega)]
/-- one byte more is of no form -/
theorem dec_more {b : List UInt8} (h : decE b = 0) (c : UInt8) : decE (b ++ [c]) = 3 := by
  obtain ⟨h1, h2, h3, _⟩ := dec_ok h
  have hl : (b ++ [c]).length = b.length + 1 := by simp
  have hm : mOf (b ++ [c]) = mOf b := num_app b [c] (by omega)
  have hq : qOf (b ++ [c]) = qOf b := by unfold qOf; rw [hm]; exact num_app b [c] (by omega)
  unfold decE
  rw [hl, hm, hq, if_neg (by omega), if_neg (by omega), if_neg (by omega), if_neg (by omega), if_neg (by omega), if_pos (.inl (by omega))]

theorem ims_len {l : List Im} (h : ∀ j, imGood l j) : (ims l).length = 33 * l.length := by
  have h' : ∀ x ∈ l, x.d.length = 32 := fun x hx => by
    obtain ⟨i, hi, he⟩ := List.getElem_of_mem hx
    exact (h i x (by rw [List.getElem?_eq_getElem hi, he])).2.1
  clear h
  induction l with
  | nil => rfl
  | cons x l ih =>
    have := ih (fun y hy => h' y (List.mem_cons_of_mem _ hy))
    have h2 := h' x List.mem_cons_self
    unfold ims at this ⊢
    rw [List.flatMap_cons, List.length_append, length_imB, this, List.length_cons, h2]
    omega
theorem ims_take_len {l : List Im} (h : ∀ j, imGood l j) (i : Nat) (hi : i ≤ l.length) : (ims (l.take i)).length = 33 * i := by
  have e : imGood l = imGood l := rfl
  rw [ims_len (l := l.take i) (fun j x hx => ?_), List.length_take, Nat.min_eq_left hi]
  have hj : j < i := by
    have := (List.getElem?_eq_some_iff.1 hx).1
    rw [List.length_take] at this
    omega
  rw [List.getElem?_take_of_lt hj] at hx
  obtain ⟨h1, h2, h3⟩ := h j x hx
  exact ⟨h1, h2, fun k y hk hy => h3 k y hk (by rw [List.getElem?_take_of_lt (by omega)] at hy; exact hy)⟩
/-- how many bytes -/
theorem enc_len {n : Nt} (h : San n) : (enc n).length = 11 + 33 * n.im.length + 9 * n.op.length := by
  unfold enc
  rw [List.length_append, List.length_append, List.length_append, length_encH, ims_len h.2.1, length_putB, length_ops]
  omega
theorem split_at {α : Type} {l : List α} {i : Nat} {x : α} (h : l[i]? = some x) : l = l.take i ++ [x] ++ l.drop (i + 1) := by
  obtain ⟨hi, he⟩ := List.getElem?_eq_some_iff.1 h
  rw [← take_step h, List.take_append_drop]
theorem ims_split {l : List Im} {i : Nat} {x : Im} (h : l[i]? = some x) : ims l = ims (l.take i) ++ imB x ++ ims (l.drop (i + 1)) := by
  conv => lhs; rw [split_at h]
  unfold ims
  rw [List.flatMap_append, List.flatMap_append]
  simp
theorem ops_split {l : List Od} {i : Nat} {x : Od} (h : l[i]? = some x) : ops l = ops (l.take i) ++ opB x ++ ops (l.drop (i + 1)) := by
  conv => lhs; rw [split_at h]
  unfold ops
  rw [List.flatMap_append, List.flatMap_append]
  simp

/-- there and back -/
theorem back {n : Nt} (h : San n) (hb : ∀ (i : Nat) (o : Od), n.op[i]? = some o → okI o.b) : mOf (enc n) = n.im.length ∧ qOf (enc n) = n.op.length ∧ tell (enc n) = n := by
  obtain ⟨⟨g1, ⟨g2, g3⟩, g4, g5, g6⟩, hi, ho⟩ := h
  have hH := length_encH n
  have hI := ims_len hi
  have hm : mOf (enc n) = n.im.length := by
    unfold mOf
    rw [num_at (a := putB 1 n.kind.toNat ++ putB 6 n.seq.toNat) (x := putB 2 n.im.length) (z := ims n.im ++ putB 2 n.op.length ++ ops n.op) (by unfold enc encH; simp) (by rw [List.length_append, length_putB, length_putB]) (length_putB _ _), val_putB_fit 2 _ (by omega)]
  have hq : qOf (enc n) = n.op.length := by
    unfold qOf
    rw [hm, num_at (a := encH n ++ ims n.im) (x := putB 2 n.op.length) (z := ops n.op) (by unfold enc; simp) (by rw [List.length_append, hH, hI]) (length_putB _ _), val_putB_fit 2 _ (by omega)]
  refine ⟨hm, hq, ?_⟩
  have hk : ((num (enc n) 0 1 : Nat) : Int) = n.kind := by
    rw [num_at (l := enc n) (i := 0) (n := 1) (a := []) (x := putB 1 n.kind.toNat) (z := putB 6 n.seq.toNat ++ putB 2 n.im.length ++ ims n.im ++ putB 2 n.op.length ++ ops n.op) (by unfold enc encH; simp) rfl (length_putB _ _), val_putB_fit 1 _ (by omega)]
    exact Int.toNat_of_nonneg (by omega)
  have hs : ((num (enc n) 1 6 : Nat) : Int) = n.seq := by
    rw [num_at (a := putB 1 n.kind.toNat) (x := putB 6 n.seq.toNat) (z := putB 2 n.im.length ++ ims n.im ++ putB 2 n.op.length ++ ops n.op) (by unfold enc encH; simp) (length_putB _ _) (length_putB _ _), val_putB_fit 6 _ (by omega)]
    exact Int.toNat_of_nonneg g2
  have hims : tIms (enc n) n.im.length = n.im := by
    refine List.ext_getElem? fun i => ?_
    unfold tIms
    rw [List.getElem?_map]
    rcases Nat.lt_or_ge i n.im.length with hi1 | hi1
    · obtain ⟨x, hx⟩ : ∃ x, n.im[i]? = some x := ⟨_, List.getElem?_eq_getElem hi1⟩
      rw [List.getElem?_range hi1, hx]
      obtain ⟨⟨h1, h2⟩, h3, _⟩ := hi i x hx
      have hl : (encH n ++ ims (n.im.take i)).length = 9 + 33 * i := by rw [List.length_append, hH, ims_take_len hi i (by omega)]
      have hx1 : enc n = (encH n ++ ims (n.im.take i)) ++ [UInt8.ofNat x.k.toNat] ++ (x.d ++ ims (n.im.drop (i + 1)) ++ putB 2 n.op.length ++ ops n.op) := by
        unfold enc
        rw [ims_split hx]
        unfold imB
        simp
      have hx2 : enc n = (encH n ++ ims (n.im.take i) ++ [UInt8.ofNat x.k.toNat]) ++ x.d ++ (ims (n.im.drop (i + 1)) ++ putB 2 n.op.length ++ ops n.op) := by
        rw [hx1]
        simp
      show some (tIm (enc n) i) = some x
      congr 1
      obtain ⟨xk, xd⟩ := x
      unfold tIm
      simp only at h1 h2 h3 hx1 hx2 ⊢
      rw [num_at (n := 1) hx1 hl rfl, at_mid (i := 10 + 33 * i) (n := 32) hx2 (by rw [List.length_append, hl, List.length_singleton]; omega) h3]
      have : ((valB [UInt8.ofNat xk.toNat] : Nat) : Int) = xk := by
        unfold valB valB
        rw [toNat_ofNat]
        omega
      rw [this]
    · rw [List.getElem?_eq_none hi1, List.getElem?_eq_none (by rw [List.length_range]; exact hi1)]
      rfl
  have hops : tOps (enc n) (11 + 33 * n.im.length) n.op.length = n.op := by
    refine List.ext_getElem? fun i => ?_
    unfold tOps
    rw [List.getElem?_map]
    rcases Nat.lt_or_ge i n.op.length with hi1 | hi1
    · obtain ⟨x, hx⟩ : ∃ x, n.op[i]? = some x := ⟨_, List.getElem?_eq_getElem hi1⟩
      rw [List.getElem?_range hi1, hx]
      obtain ⟨h1, h2⟩ := ho i x hx
      have hxb := hb i x hx
      have hl : (encH n ++ ims n.im ++ putB 2 n.op.length ++ ops (n.op.take i)).length = 11 + 33 * n.im.length + 9 * i := by
        rw [List.length_append, List.length_append, List.length_append, hH, hI, length_putB, length_ops, List.length_take, Nat.min_eq_left (by omega)]
        omega
      have hx1 : enc n = (encH n ++ ims n.im ++ putB 2 n.op.length ++ ops (n.op.take i)) ++ [UInt8.ofNat x.c.toNat] ++ (putB 8 (sgn x.b) ++ ops (n.op.drop (i + 1))) := by
        unfold enc
        conv => lhs; rw [ops_split hx]
        unfold opB
        simp
      have hx2 : enc n = (encH n ++ ims n.im ++ putB 2 n.op.length ++ ops (n.op.take i) ++ [UInt8.ofNat x.c.toNat]) ++ putB 8 (sgn x.b) ++ ops (n.op.drop (i + 1)) := by
        rw [hx1]
        simp
      show some (tOp (enc n) (11 + 33 * n.im.length) i) = some x
      congr 1
      obtain ⟨xc, xb⟩ := x
      unfold tOp
      simp only at h1 h2 hx1 hx2 hxb ⊢
      rw [num_at (n := 1) hx1 hl rfl, num_at (i := 11 + 33 * n.im.length + 9 * i + 1) (n := 8) hx2 (by rw [List.length_append, hl, List.length_singleton]) (length_putB _ _)]
      obtain ⟨s1, s2⟩ := sgn_back xb hxb.1 hxb.2
      rw [val_putB_fit 8 _ (by omega), s1]
      have : ((valB [UInt8.ofNat xc.toNat] : Nat) : Int) = xc := by
        unfold valB valB
        rw [toNat_ofNat]
        omega
      rw [this]
    · rw [List.getElem?_eq_none hi1, List.getElem?_eq_none (by rw [List.length_range]; exact hi1)]
      rfl
  unfold tell
  rw [hm, hq, hk, hs, hims, hops]
theorem dec_enc {n : Nt} (h : San n) (hb : ∀ (i : Nat) (o : Od), n.op[i]? = some o → okI o.b) : decE (enc n) = 0 ∧ decN (enc n) = n := by
  obtain ⟨h1, h2, h3⟩ := back h hb
  have e : decE (enc n) = 0 := dec_of (by rw [h1, h2]; exact enc_len h) (by rw [h1]; exact h.1.2.2.1) (by rw [h2]; exact h.1.2.2.2.1) (by rw [h3]; exact h)
  exact ⟨e, by unfold decN; rw [if_pos e]; exact h3⟩
end Nn

end Go.Proofs.Ytjpnihmijnpjcaa
