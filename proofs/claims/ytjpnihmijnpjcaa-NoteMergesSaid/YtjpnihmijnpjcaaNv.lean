/-
  Two notes as one: that it may be but for too many ops; what a block's bytes are, found by going through; with nothing. No program.
-/
import Derived.Test.YtjpnihmijnpjcaaNy
namespace Go.Proofs.Ytjpnihmijnpjcaa
set_option maxRecDepth 100000
set_option linter.unusedVariables false
open Go.RowKit Wm
namespace Nn

theorem up_upTo (a b : List Im) : ∀ n, Up (upTo a b n)
  | 0 => List.Pairwise.nil
  | n + 1 => by
    unfold Up
    rw [upTo_step, List.pairwise_append]
    refine ⟨up_upTo a b n, ?_, fun x hx y hy => ?_⟩
    · cases both a b n with
      | none => exact List.Pairwise.nil
      | some z => exact List.pairwise_singleton _ _
    · have h1 := upTo_lt n x hx
      have h2 : both a b n = some y := by
        cases hb : both a b n with
        | none => rw [hb] at hy; cases hy
        | some z => rw [hb] at hy; have e : y = z := by simpa using hy
                    rw [e]
      have h3 := both_key h2
      omega
theorem good_of {l : List Im} (hu : Up l) (hk : ∀ x ∈ l, (0 ≤ x.k ∧ x.k ≤ 255) ∧ x.d.length = 32) : ∀ j, imGood l j := by
  intro j x hx
  obtain ⟨h1, h2⟩ := hk x (List.mem_of_getElem? hx)
  refine ⟨h1, h2, fun i y hij hy => ?_⟩
  obtain ⟨hi, ei⟩ := List.getElem?_eq_some_iff.1 hy
  obtain ⟨hj, ej⟩ := List.getElem?_eq_some_iff.1 hx
  have := List.pairwise_iff_getElem.1 hu i j hi hj (by omega)
  rw [ei, ej] at this
  exact this
theorem upTo_keys {a b : List Im} (ha : ∀ j, imGood a j) (hb : ∀ j, imGood b j) : ∀ x ∈ upTo a b 256, (0 ≤ x.k ∧ x.k ≤ 255) ∧ x.d.length = 32 := by
  intro x hx
  rcases upTo_mem hx with h | h
  · exact good_mem ha x h
  · exact good_mem hb x h
theorem mer_san {a b : Nt} (ha : San a) (hb : San b) (hn : a.op.length + b.op.length ≤ 256) : San (mer a b) := by
  refine ⟨⟨.inl rfl, hb.1.2.1, upTo_len _ _ _, ?_, fun h => by cases h⟩, good_of (up_upTo _ _ _) (upTo_keys ha.2.1 hb.2.1), fun j x hx => ?_⟩
  · show (a.op ++ b.op).length ≤ 256
    rw [List.length_append]; exact hn
  · have hx : (a.op ++ b.op)[j]? = some x := hx
    rw [List.getElem?_append] at hx
    split at hx
    · exact ha.2.2 j x hx
    · exact hb.2.2 _ x hx
theorem merE_cases {a b : Nt} (h : merE a b ≠ 0) : merE a b = 1 ∨ (merE a b = 13 ∧ 256 < a.op.length + b.op.length) := by
  by_cases h1 : San a ∧ San b ∧ a.kind = 1 ∧ b.kind = 1
  · by_cases h2 : San (mer a b)
    · exact absurd (merE_zero h1 h2).1 h
    · right
      refine ⟨(merE_much h1 h2).1, ?_⟩
      rcases Nat.lt_or_ge 256 (a.op.length + b.op.length) with h3 | h3
      · exact h3
      · exact absurd (mer_san h1.1 h1.2.1 h3) h2
  · exact .inl (merE_no h1).1
/-- with a note of nothing -/
theorem mer_none {a : Nt} (h : San a) (hk : a.kind = 1) : merE a ⟨1, a.seq, [], []⟩ = 0 ∧ merN a ⟨1, a.seq, [], []⟩ = a := by
  have hs : San ⟨1, a.seq, [], []⟩ := ⟨⟨.inl rfl, h.1.2.1, Nat.zero_le _, Nat.zero_le _, fun h => by cases h⟩, fun j x hx => by simp at hx, fun j x hx => by simp at hx⟩
  have hm : mer a ⟨1, a.seq, [], []⟩ = a := by
    unfold mer
    refine nt_ext hk.symm rfl (upTo_none h.2.1) (List.append_nil _)
  obtain ⟨p1, p2⟩ := merE_zero (a := a) (b := ⟨1, a.seq, [], []⟩) ⟨h, hs, hk, rfl⟩ (by rw [hm]; exact h)
  exact ⟨p1, by rw [p2, hm]⟩

/-- a block's bytes, found by going through -/
def hit (k : Int) (s : List UInt8) (x : Im) : List UInt8 := if x.k = k then x.d else s
def scan (k : Int) (l : List Im) (s : List UInt8) : List UInt8 := l.foldl (hit k) s
theorem scan_snoc (k : Int) (l : List Im) (x : Im) (s : List UInt8) : scan k (l ++ [x]) s = hit k (scan k l s) x := by unfold scan; rw [List.foldl_append]; rfl
theorem scan_none {k : Int} : ∀ {l : List Im} {s : List UInt8}, (∀ x ∈ l, x.k ≠ k) → scan k l s = s
  | [], _, _ => rfl
  | x :: l, s, h => by
    have ih := scan_none (k := k) (l := l) (s := hit k s x) (fun y hy => h y (List.mem_cons_of_mem _ hy))
    have e : hit k s x = s := if_neg (h x List.mem_cons_self)
    show scan k l (hit k s x) = s
    rw [ih, e]
theorem scan_pick {k : Nat} : ∀ {l : List Im} {s : List UInt8}, Up l → scan (k : Int) l s = match pick l k with | some x => x.d | none => s
  | [], _, _ => rfl
  | x :: l, s, h => by
    obtain ⟨h1, h2⟩ := List.pairwise_cons.1 h
    rw [pick_cons]
    show scan (k : Int) l (hit (k : Int) s x) = _
    by_cases e : x.k = (k : Int)
    · rw [if_pos e, scan_none (fun y hy => by have := h1 y hy; omega)]
      exact if_pos e
    · rw [if_neg e, scan_pick h2]
      rw [show hit (k : Int) s x = s from if_neg e]
theorem scan_mer {a b : List Im} (ha : ∀ j, imGood a j) (hb : ∀ j, imGood b j) (k : Int) : scan k b (scan k a []) = scan k (upTo a b 256) [] := by
  by_cases hk : 0 ≤ k ∧ k < 256
  · obtain ⟨n, rfl⟩ : ∃ n : Nat, k = (n : Int) := ⟨k.toNat, by omega⟩
    rw [scan_pick (up_of hb), scan_pick (up_of ha), scan_pick (up_upTo a b 256), pick_upTo a b 256 n (by omega)]
    unfold both
    cases pick b n <;> rfl
  · rw [scan_none (fun x hx => by have := (good_mem hb x hx).1; omega), scan_none (fun x hx => by have := (good_mem ha x hx).1; omega), scan_none (fun x hx => by have := (upTo_keys ha hb x hx).1; omega)]
end Nn
end Go.Proofs.Ytjpnihmijnpjcaa
