/-
  The document's device in memory: two rows of strings behind a struct; its small calls.
-/
import Derived.Test.YtojidejlohpeaaaDevB
import Derived.Laws.IdiomStrings
import Derived.Test.YtojidejlohpeaaaSince
import Derived.Test.YtojidejlohpeaaaLies
namespace Go.Proofs.Ytojidejlohpeaaa
set_option maxRecDepth 100000
open Go.RowKit

def strV (l : List UInt8) : Value := .string ⟨l.toArray⟩

/-- n strings in a row, and maybe more room -/
def StrRow (w : World) (g n : Nat) (F : Nat → List UInt8) : Prop :=
  ∃ cs : Array Value, w.heap[g]? = some (.cells cs 9 (0, 0)) ∧ n ≤ cs.size ∧ ∀ i, i < n → cs[i]? = some (strV (F i))

section
variable {w w' : World} {g n : Nat} {F G : Nat → List UInt8}
theorem StrRow.same (h : StrRow w g n F) (e : w'.heap[g]? = w.heap[g]?) : StrRow w' g n F := by
  obtain ⟨cs, hg, r⟩ := h
  exact ⟨cs, e.trans hg, r⟩
theorem StrRow.lt (h : StrRow w g n F) : g < w.heap.size := by obtain ⟨cs, hg, _⟩ := h; exact lt_of_block hg
theorem StrRow.cell (h : StrRow w g n F) {i : Nat} (hi : i < n) : w.cell? ⟨g, i, none⟩ = some (strV (F i)) := by
  obtain ⟨cs, hg, _, hc⟩ := h
  rw [cell_of_row _ _ _ _ _ _ hg]
  exact hc i hi
theorem StrRow.fr (h : StrRow w g n F) (i : Nat) : w.frozen? ⟨g, i, none⟩ = false := by obtain ⟨cs, hg, _⟩ := h; exact frozen_of_row _ _ _ _ _ hg
theorem StrRow.set (h : StrRow w g n F) (i : Nat) (s : List UInt8) (hG : ∀ j, j < n → G j = if j = i then s else F j) : StrRow (w.setCell ⟨g, i, none⟩ (strV s)) g n G := by
  obtain ⟨cs, hg, hn, hc⟩ := h
  refine ⟨_, heap_setCell_same _ _ _ _ _ _ hg, by simpa using hn, fun j hj => ?_⟩
  rw [Array.getElem?_setIfInBounds, hG j hj]
  by_cases e : i = j
  · subst e
    rw [if_pos rfl, if_pos (by omega), if_pos rfl]
  · rw [if_neg e, if_neg (fun h => e h.symm)]
    exact hc j hj
theorem StrRow.eq (h : StrRow w g n F) (hG : ∀ j, j < n → F j = G j) : StrRow w g n G := by
  obtain ⟨cs, hg, hn, hc⟩ := h
  exact ⟨cs, hg, hn, fun i hi => by rw [← hG i hi]; exact hc i hi⟩
end

/-- the document's device in memory: its struct in block q, its strings in blocks a and b -/
structure IsRef (w : World) (q a b c : Nat) (D : Dv) : Prop where
  ok : D.Ok
  ne : q ≠ a ∧ q ≠ b ∧ a ≠ b
  own : w.heap[q]? = some (.cells #[.slice (some ⟨a, 0, none⟩) D.n c, .slice (some ⟨b, 0, none⟩) D.n D.n, .int .i64 D.left, .bool D.gone, .int .i64 (D.spent : Int)] 93 (0, 0))
  laid : StrRow w a D.n D.laid
  late : StrRow w b D.n fun i => (D.late i).getD []

section
variable {w w' : World} {q a b c : Nat} {D : Dv}
theorem IsRef.turn (h : IsRef w q a b c D) {S : Nat → Prop} (ht : Turn S w w') (hq : ¬ S q) (ha : ¬ S a) (hb : ¬ S b) : IsRef w' q a b c D :=
  ⟨h.ok, h.ne, (ht.block q (lt_of_block h.own) hq).trans h.own, h.laid.same (ht.block a h.laid.lt ha), h.late.same (ht.block b h.late.lt hb)⟩
theorem IsRef.lt (h : IsRef w q a b c D) : q < w.heap.size ∧ a < w.heap.size ∧ b < w.heap.size := ⟨lt_of_block h.own, h.laid.lt, h.late.lt⟩
theorem IsRef.c0 (h : IsRef w q a b c D) : w.cell? ⟨q, 0, none⟩ = some (.slice (some ⟨a, 0, none⟩) D.n c) := by rw [cell_of_row _ _ _ _ _ _ h.own]; rfl
theorem IsRef.c1 (h : IsRef w q a b c D) : w.cell? ⟨q, 1, none⟩ = some (.slice (some ⟨b, 0, none⟩) D.n D.n) := by rw [cell_of_row _ _ _ _ _ _ h.own]; rfl
theorem IsRef.c2 (h : IsRef w q a b c D) : w.cell? ⟨q, 2, none⟩ = some (.int .i64 D.left) := by rw [cell_of_row _ _ _ _ _ _ h.own]; rfl
theorem IsRef.c3 (h : IsRef w q a b c D) : w.cell? ⟨q, 3, none⟩ = some (.bool D.gone) := by rw [cell_of_row _ _ _ _ _ _ h.own]; rfl
theorem IsRef.c4 (h : IsRef w q a b c D) : w.cell? ⟨q, 4, none⟩ = some (.int .i64 (D.spent : Int)) := by rw [cell_of_row _ _ _ _ _ _ h.own]; rfl
theorem IsRef.fr (h : IsRef w q a b c D) (i : Nat) : w.frozen? ⟨q, i, none⟩ = false := frozen_of_row _ _ _ _ _ h.own
theorem IsRef.left_ (h : IsRef w q a b c D) (k : Int) (hk : k < 9223372036854775808) : IsRef (w.setCell ⟨q, 2, none⟩ (.int .i64 (max k (-1)))) q a b c (D.budget k) := by
  refine ⟨h.ok.budget k hk, h.ne, heap_setCell_same _ _ _ _ _ _ h.own, h.laid.same (heap_setCell_other _ _ _ _ (Ne.symm h.ne.1)), h.late.same (heap_setCell_other _ _ _ _ (Ne.symm h.ne.2.1))⟩
theorem IsRef.die_ (h : IsRef w q a b c D) : IsRef (w.setCell ⟨q, 3, none⟩ (.bool true)) q a b c D.die :=
  ⟨h.ok.die, h.ne, heap_setCell_same _ _ _ _ _ _ h.own, h.laid.same (heap_setCell_other _ _ _ _ (Ne.symm h.ne.1)), h.late.same (heap_setCell_other _ _ _ _ (Ne.symm h.ne.2.1))⟩
theorem IsRef.more_ (h : IsRef w q a b c D) : IsRef ((w.setCell ⟨q, 2, none⟩ (.int .i64 (max (D.left - 1) (-1)))).setCell ⟨q, 4, none⟩ (.int .i64 (D.spent + 1 : Int))) q a b c D.more :=
  ⟨h.ok.more, h.ne, heap_setCell_same _ _ _ _ _ _ (heap_setCell_same _ _ _ _ _ _ h.own), h.laid.same ((heap_setCell_other _ _ _ _ (Ne.symm h.ne.1)).trans (heap_setCell_other _ _ _ _ (Ne.symm h.ne.1))),
    h.late.same ((heap_setCell_other _ _ _ _ (Ne.symm h.ne.2.1)).trans (heap_setCell_other _ _ _ _ (Ne.symm h.ne.2.1)))⟩
end

theorem refbudget_any {w : World} {q a b c : Nat} {D : Dv} (h : IsRef w q a b c D) (k : Int) (hk : -9223372036854775808 ≤ k ∧ k < 9223372036854775808) : Calls Try.prog 27 #[ptr q, .int .i64 k] w fun e w' => e = .returned (.tuple #[]) ∧ IsRef w' q a b c (D.budget k) ∧ Turn (DS q a b) w w' := by
  have hr := Lib.hid (h.left_ k hk.2)
  have ht : Hid (Turn (DS q a b) w (w.setCell ⟨q, 2, none⟩ (.int .i64 (max k (-1))))) := (Turn.refl _ _).setCell _ _ (.inl (.inl rfl))
  have c2 := h.c2
  have f2 := h.fr 2
  clear h
  go_enter Try.func27, Try.ntmps27
  go_wp2_with fail
  go_end0
  exact ⟨rfl, hr.out, ht.out⟩

/-- what 'spend' tells -/
theorem refspend_any {w : World} {q a b c : Nat} {D : Dv} (h : IsRef w q a b c D) (hf : D.spent ≤ 1000000) : Calls Try.prog 53 #[ptr q] w fun e w' => e = .returned (.bool (!decide (D.left = 0))) ∧ IsRef w' q a b c D.spend ∧ Turn (· = q) w w' := by
  have hd := h.die_
  have hm := h.more_
  have c2 := h.c2
  have c4 := h.c4
  have f2 := h.fr 2
  have f3 := h.fr 3
  have f4 := h.fr 4
  have c3 := h.c3
  have hl := h.ok.left
  have hl' := h.ok.left'
  unfold Dv.spend
  by_cases h0 : D.left = 0
  · rw [if_pos h0, decide_eq_true h0]
    have HD := Lib.hid hd
    rw [h0] at c2
    clear hd hm h hf hl hl' h0
    go_enter Try.func53, Try.ntmps53
    go_wp2_with fail
    go_ret
    exact ⟨rfl, HD.out, (Turn.refl (· = q) w).setCell ⟨q, 3, none⟩ _ (.inl rfl)⟩
  · rw [if_neg h0, decide_eq_false h0]
    have HM := Lib.hid hm
    generalize D.left = x at *
    generalize D.spent = s at *
    have e0 : (x == 0) = false := by simp; exact h0
    clear hd hm h
    go_enter Try.func53, Try.ntmps53
    go_wp2_with fail
    go_ret
    exact ⟨rfl, HM.out, ((Turn.refl (· = q) w).setCell ⟨q, 2, none⟩ _ (.inl rfl)).setCell ⟨q, 4, none⟩ _ (.inl rfl)⟩

end Go.Proofs.Ytojidejlohpeaaa

namespace Go.Proofs.Ytojidejlohpeaaa
set_option maxRecDepth 100000
open Go.RowKit

/-- '[]byte(s)' -/
theorem conv_back (w : World) (s : List UInt8) : ∃ C W1, (convert 9 24 (.string ⟨s.toArray⟩)).run Try.prog w = .ok (.slice (some ⟨w.heap.size, 0, none⟩) s.length C) W1 ∧ Rd W1 W1.heap.size (some ⟨w.heap.size, 0, none⟩) s ∧ Below w.heap.size w W1 ∧ s.length ≤ C := by
  have h := run_bytes_of_string (P := Try.prog) w 9 24 5 ⟨s.toArray⟩ Try.underlying9 Try.underlying24 Try.underlying5
  refine ⟨_, _, h, ?_, (Below.refl _ _).drew.alloc (Nat.le_refl _) _, grownCap_ge _ _ _ _⟩
  refine .inr ⟨_, 0, rfl, by simp, fun j x hx => ?_⟩
  have hj := (List.getElem?_eq_some_iff.1 hx).1
  rw [Nat.zero_add]
  refine (cell_of_row _ w.heap.size j _ _ _ (heap_alloc_new w.drew _)).trans ?_
  rw [bytesRow_at _ _ _ (by simpa using hj)]
  have : s.toArray[j]'(by simpa using hj) = x := by simpa [List.getElem?_eq_getElem hj] using hx
  rw [show (⟨s.toArray⟩ : ByteArray).data[j] = x from this]
  rfl

/-- a read has answered l and er -/
def RRead (w : World) (l : List UInt8) (er : Int) (e : Ending) (w' : World) : Prop :=
  ∃ A n c, e = .returned (.tuple #[.slice A n c, .int .i64 er]) ∧ l.length = n ∧ Rd w' w'.heap.size A l ∧ Below w.heap.size w w' ∧ n ≤ c ∧ ∀ a, A = some a → w.heap.size ≤ a.block

set_option maxRecDepth 100000 in
set_option maxHeartbeats 1000000 in
theorem drefread_any {w : World} {q a b c : Nat} {D : Dv} (h : IsRef w q a b c D) (at_ : Int) : Calls Try.prog 54 #[ptr q, .int .i64 at_] w (RRead w (D.read at_) (D.readE at_)) := by
  have c0 := h.c0
  have c1 := h.c1
  have c3 := h.c3
  unfold Dv.read Dv.readE
  cases hgone : D.gone
  · rw [hgone] at c3
    rw [if_neg Bool.false_ne_true, if_neg Bool.false_ne_true]
    by_cases hat : D.has at_ = true
    · rw [if_pos hat, if_pos hat]
      obtain ⟨hlt, h0, hi⟩ := Dv.has_lt hat
      generalize at_.toNat = i at *
      subst hi
      have hlc := h.late.cell hlt
      have hac := h.laid.cell hlt
      have htop := h.ok.top
      have hsec := h.ok.sector hlt
      cases hl : D.late i with
      | none =>
        rw [hl] at hlc hsec
        replace hlc : w.cell? ⟨b, i, none⟩ = some (.string ⟨#[]⟩) := hlc
        have hsec' : (D.laid i).length = 64 := hsec
        have HS := Lib.hid hsec'
        have d1 : decide ((i : Int) < 0) = false := decide_eq_false (by omega)
        have d2 : decide (D.n ≤ i) = false := decide_eq_false (by omega)
        clear hsec'
        obtain ⟨C, W1, hconv, hrd, hbl, hcap⟩ := conv_back w (D.laid i)
        have HRD := Lib.hid hrd
        have HBL := Lib.hid hbl
        have HCP := Lib.hid hcap
        clear hrd hbl hcap
        replace hac : w.cell? ⟨a, i, none⟩ = some (.string ⟨(D.laid i).toArray⟩) := hac
        clear h hat hgone hsec hl
        generalize D.laid i = s at *
        generalize D.n = n at *
        go_enter Try.func54, Try.ntmps54
        go_wp2_with fail
        go_ret2
        exact ⟨_, _, _, rfl, rfl, HRD.out, HBL.out, HCP.out, fun a ha => by injection ha with ha; subst ha; exact Nat.le_refl _⟩
      | some s =>
        rw [hl] at hlc hsec
        replace hlc : w.cell? ⟨b, i, none⟩ = some (.string ⟨s.toArray⟩) := hlc
        have hsec' : s.length = 64 := hsec
        have HS := Lib.hid hsec'
        have d1 : decide ((i : Int) < 0) = false := decide_eq_false (by omega)
        have d2 : decide (D.n ≤ i) = false := decide_eq_false (by omega)
        have hse : s.isEmpty = false := by cases s; cases hsec'; rfl
        obtain ⟨C, W1, hconv, hrd, hbl, hcap⟩ := conv_back w s
        have HRD := Lib.hid hrd
        have HBL := Lib.hid hbl
        have HCP := Lib.hid hcap
        clear h hat hgone hsec hl hac hsec' hrd hbl hcap
        generalize D.n = n at *
        go_enter Try.func54, Try.ntmps54
        go_wp2_with fail
        go_ret2
        exact ⟨_, _, _, rfl, rfl, HRD.out, HBL.out, HCP.out, fun a ha => by injection ha with ha; subst ha; exact Nat.le_refl _⟩
    · rw [if_neg hat, if_neg hat]
      rcases (show at_ < 0 ∨ (0 ≤ at_ ∧ (D.n : Int) ≤ at_) from by
        by_cases h1 : at_ < 0
        · exact .inl h1
        · refine .inr ⟨by omega, ?_⟩
          rcases Int.lt_or_le at_ (D.n : Int) with h2 | h2
          · exact absurd (by unfold Dv.has; rw [decide_eq_true (show 0 ≤ at_ by omega), decide_eq_true h2]; rfl) hat
          · exact h2) with h1 | ⟨h1, h2⟩
      · have d1 : decide (at_ < 0) = true := decide_eq_true h1
        clear h hat hgone
        generalize D.n = n at *
        go_enter Try.func54, Try.ntmps54
        go_wp2_with fail
        go_ret2
        exact ⟨_, _, _, rfl, rfl, .nil _ _ _, Below.refl _ _, Nat.le_refl _, fun a ha => by cases ha⟩
      · have d1 : decide (at_ < 0) = false := decide_eq_false (by omega)
        have d2 : decide ((D.n : Int) ≤ at_) = true := decide_eq_true h2
        clear h hat hgone
        generalize D.n = n at *
        go_enter Try.func54, Try.ntmps54
        go_wp2_with fail
        go_ret2
        exact ⟨_, _, _, rfl, rfl, .nil _ _ _, Below.refl _ _, Nat.le_refl _, fun a ha => by cases ha⟩
  · rw [hgone] at c3
    rw [if_pos rfl, if_pos rfl]
    clear h
    go_enter Try.func54, Try.ntmps54
    go_wp2_with fail
    go_ret2
    exact ⟨_, _, _, rfl, rfl, .nil _ _ _, Below.refl _ _, Nat.le_refl _, fun a ha => by cases ha⟩

/-- what is cached below i -/
def keysTo (D : Dv) (i : Nat) : List Nat := (List.range i).filter fun i => (D.late i).isSome
theorem keysTo_succ (D : Dv) (i : Nat) : keysTo D (i + 1) = if (D.late i).isSome then keysTo D i ++ [i] else keysTo D i := by
  unfold keysTo
  rw [List.range_succ, List.filter_append]
  cases h : (D.late i).isSome <;> simp [h]
theorem keysTo_le (D : Dv) (i : Nat) : (keysTo D i).length ≤ i := by
  have := List.length_filter_le (fun i => (D.late i).isSome) (List.range i)
  simpa [keysTo] using this

set_option maxRecDepth 100000 in
set_option maxHeartbeats 1000000 in
theorem refcached_any {w : World} {q a b c : Nat} {D : Dv} (h : IsRef w q a b c D) : Calls Try.prog 64 #[ptr q] w (Listed w D.keys) := by
  obtain ⟨i0, hi, hz0, hz1, hz2⟩ := info_parts int_facts
  have H := Lib.hid h
  have c1 := h.c1
  have htop := h.ok.top
  have hqb := h.lt
  obtain ⟨n, hn⟩ : ∃ n, D.n = n := ⟨_, rfl⟩
  rw [hn] at c1 htop
  have HNN := Lib.hid hn
  have HLT := Lib.hid hqb
  clear h hn hqb
  go_enter Try.func64, Try.ntmps64
  go_wp2_with fail
  go_loopw [3, 4] (fun v u wr => ∃ (i : Nat), u = .int .i64 (i : Int) ∧ i ≤ n ∧ Hid (wr.ownsRow w.heap.size 3 1 v (keysTo D i).length (natV (keysTo D i))) ∧ Hid (Below w.heap.size w wr)) (fun _ u _ => n - (intOf u).toNat)
  case atStart => exact ⟨0, rfl, by omega, World.ownsRow_nil _ _ _ _, Below.refl _ _⟩
  case round =>
    obtain ⟨i, rfl, hin, hrow, hnx⟩ := hrel
    have d1 := (hnx.out.cell (p := ⟨q, 1, none⟩) HLT.out.1).trans c1
    rcases Nat.lt_or_ge i n with hlt | hge
    · have hlc := (hnx.out.cell (p := ⟨b, i, none⟩) HLT.out.2.2).trans (H.out.late.cell (by rw [HNN.out]; exact hlt))
      have hks := keysTo_succ D i
      have hle := keysTo_le D i
      have hdi : decide ((i : Int) < (n : Int)) = true := decide_eq_true (by omega)
      cases hl : D.late i with
      | none =>
        rw [hl] at hlc hks
        rw [if_neg (by simp)] at hks
        replace hlc : wr.cell? ⟨b, i, none⟩ = some (.string ⟨#[]⟩) := hlc
        have HKS := Lib.hid hks
        clear hks hl hle
        go_wp2_with fail
        refine ⟨⟨i + 1, by go_num, by omega, by rw [HKS.out]; exact hrow, hnx⟩, by simp [intOf]; omega⟩
      | some s =>
        rw [hl] at hlc hks
        rw [if_pos (show (some s).isSome = true from rfl)] at hks
        have h64 := H.out.ok.late i s hl
        replace hlc : wr.cell? ⟨b, i, none⟩ = some (.string ⟨s.toArray⟩) := hlc
        have hse : s.isEmpty = false := by cases s; cases h64; rfl
        have HKS := Lib.hid hks
        obtain ⟨kl, hkl⟩ : ∃ kl, (keysTo D i).length = kl := ⟨_, rfl⟩
        have hrow2 := hrow.out
        rw [hkl] at hrow2 hle
        have HKL := Lib.hid hkl
        have hbl2 : w.heap.size ≤ wr.heap.size := hnx.out.size
        clear hks hl h64 hkl hrow
        go_wp2_with (at_builtin; refine wpList_append_own _ rfl _ _ 64 rfl w.heap.size 3 i0 (.int .i64 0) 1 8 Try.underlying64 hi hz0 hz1 hz2 rfl (by decide) _ _ _ rfl (hrow2.alloc _) ⟨wr.heap.size, 0, none⟩ 1 1 [.int .i64 (i : Int)] rfl rfl (cell_one_new _ _ _) (ints_oneCell .i64 [(i : Int)]) (by unfold maxLen; omega) (by omega) (by simp; omega) ?_; intro v' w3 hown' hg3 hnil3; go_frame; have HOWN := Lib.hid hown'; have HG3 := Lib.hid hg3; clear hown' hg3 hnil3)
        refine ⟨⟨i + 1, by go_num, by omega, ?_, ?_⟩, by simp [intOf]; omega⟩
        · show w3.ownsRow _ _ _ _ (keysTo D (i + 1)).length (natV (keysTo D (i + 1)))
          rw [HKS.out, List.length_append, List.length_singleton, HKL.out, show natV (keysTo D i ++ [i]) = natV (keysTo D i) ++ [Value.int .i64 (i : Int)] from by simp [natV]]
          exact HOWN.out
        · exact (hnx.out.alloc hbl2 _).grown HG3.out (by simp; omega) (fun j hj => (hrow2.lt j hj).1)
    · obtain rfl : i = n := by omega
      have hdi : decide ((i : Int) < (i : Int)) = false := decide_eq_false (by omega)
      go_wp2_with fail
      go_ret
      have hk : keysTo D i = D.keys := by rw [← HNN.out]; rfl
      have hrow2 := hrow.out
      rw [hk] at hrow2
      have hlen := hrow2.1
      rcases hrow2.2 with ⟨hv, h0⟩ | ⟨g, cap, cur, hv, _⟩
      · exact ⟨none, 0, 0, by rw [← hv]; rfl, h0.symm, by rw [h0, hv] at hrow2; exact hrow2, hnx.out⟩
      · exact ⟨_, _, cap, by rw [← hv]; rfl, rfl, by rw [hv] at hrow2; exact hrow2, hnx.out⟩

end Go.Proofs.Ytojidejlohpeaaa

namespace Go.Proofs.Ytojidejlohpeaaa
set_option maxRecDepth 100000
open Go.RowKit

theorem rd_conv {w V : World} {A : Option Addr} {n c : Nat} {l : List UInt8} (hr : Rd w w.heap.size A l) (hl : l.length = n) (hV : Since w V) : (convert 24 9 (.slice A n c)).run Try.prog V = .ok (.string ⟨l.toArray⟩) V :=
  run_string_rd (hr.up hV) _ _ Try.underlying24 Try.underlying5 Try.underlying9 n c hl


theorem IsRef.put_ {w : World} {q a b c : Nat} {D : Dv} (h : IsRef w q a b c D) {i : Nat} {s : List UInt8} (hi : i < D.n) (hs : s.length = 64) : IsRef (w.setCell ⟨b, i, none⟩ (strV s)) q a b c (D.put i s) := by
  refine ⟨h.ok.put i s hi hs, h.ne, by rw [heap_setCell_other _ _ _ _ h.ne.2.1]; exact h.own, h.laid.same (heap_setCell_other _ _ _ _ h.ne.2.2), h.late.set i s fun j _ => ?_⟩
  show (if j = i then some s else D.late j).getD [] = _
  by_cases e : j = i
  · rw [if_pos e, if_pos e]; rfl
  · rw [if_neg e, if_neg e]

/-- a string of bytes, with as many zeros behind it -/
theorem sum_pad (l : List UInt8) (hl : l.length ≤ 64) : ∃ S : ByteArray, (⟨l.toArray⟩ : ByteArray) ++ ⟨Dv.zeros.toArray⟩ = S ∧ S.size = l.length + 64 ∧ S.extract 0 64 = ⟨(Dv.pad l).toArray⟩ := by
  refine ⟨_, rfl, ?_, ?_⟩
  · rw [ByteArray.size_append]
    show l.toArray.size + Dv.zeros.toArray.size = _
    simp [Dv.len_zeros]
  · apply ByteArray.ext
    rw [ByteArray.data_extract, ByteArray.data_append]
    show (l.toArray ++ Dv.zeros.toArray).extract 0 64 = (Dv.pad l).toArray
    rw [List.append_toArray, List.extract_toArray]
    congr 1
    rw [List.extract_eq_take_drop]
    simp only [Nat.sub_zero, List.drop_zero]
    unfold Dv.pad Dv.zeros
    rw [List.take_append, List.take_of_length_le hl, List.take_replicate, Nat.min_eq_left (by omega)]

set_option maxRecDepth 100000 in
set_option maxHeartbeats 1000000 in
theorem drefwrite_any {w : World} {q a b c : Nat} {D : Dv} (h : IsRef w q a b c D) (hf : D.spent ≤ 1000000) (at_ : Int) {A : Option Addr} {l : List UInt8} (hr : Firm (DS q a b) w A l) (n cc : Nat) (hn : l.length = n) : Calls Try.prog 31 #[ptr q, .int .i64 at_, .slice A n cc] w fun e w' => e = .returned (.int .i64 (D.writeE at_ l)) ∧ IsRef w' q a b c (D.write at_ l) ∧ Turn (DS q a b) w w' := by
  have c0 := h.c0
  have c3 := h.c3
  subst hn
  cases hgone : D.gone
  · rw [hgone] at c3
    have hgn : ¬ D.gone = true := by rw [hgone]; exact Bool.false_ne_true
    have hwe : D.writeE at_ l = if D.has at_ && decide (l.length ≤ 64) then (if D.left = 0 then 11 else 0) else 1 := by unfold Dv.writeE; rw [if_neg hgn]
    have hw : D.write at_ l = if D.has at_ && decide (l.length ≤ 64) then (if D.left = 0 then D.die else D.more.put at_.toNat (Dv.pad l)) else D := by unfold Dv.write; rw [if_neg hgn]
    by_cases hat : D.has at_ = true ∧ l.length ≤ 64
    · have hb : (D.has at_ && decide (l.length ≤ 64)) = true := by rw [hat.1, decide_eq_true hat.2]; rfl
      rw [hb, if_pos rfl] at hwe hw
      obtain ⟨hat, hl64⟩ := hat
      obtain ⟨hlt, h0, hi⟩ := Dv.has_lt hat
      generalize at_.toNat = i at *
      subst hi
      have hsp := refspend_any h hf
      have d1 : decide ((i : Int) < 0) = false := decide_eq_false (by omega)
      have d2 : decide (D.n ≤ i) = false := decide_eq_false (by omega)
      have d3 : decide ((64 : Int) < (l.length : Int)) = false := decide_eq_false (by omega)
      have htop := h.ok.top
      by_cases hleft : D.left = 0
      · have hsd : D.spend = D.die := by unfold Dv.spend; rw [if_pos hleft]
        rw [if_pos hleft] at hwe hw
        rw [decide_eq_true hleft, hsd] at hsp
        rw [hwe, hw]
        have HSP := Lib.hid hsp
        clear h hgone hgn hleft hsd hwe hw hb hat hl64 hf hsp
        generalize l.length = n at *
        generalize D.n = m at *
        go_enter Try.func31, Try.ntmps31
        go_wp2_with (go_at_call 53; refine HSP.out.mono ?_; rintro e w1 ⟨rfl, hd1, ht1⟩; have HD1 := Lib.hid hd1; have HT1 := Lib.hid ht1; clear hd1 ht1)
        go_ret
        exact ⟨rfl, HD1.out, HT1.out.mono fun _ e => .inl e⟩
      · have hsd : D.spend = D.more := by unfold Dv.spend; rw [if_neg hleft]
        rw [if_neg hleft] at hwe hw
        rw [decide_eq_false hleft, hsd] at hsp
        rw [hwe, hw]
        have HSP := Lib.hid hsp
        have HLT := Lib.hid hlt
        have HR := Lib.hid hr
        have HPAD := Lib.hid (Dv.len_pad l hl64)
        obtain ⟨i0, hi, hz0, hz1, hz2⟩ := info_parts byte_info
        have HI := Lib.hid (show _ ∧ _ ∧ _ ∧ _ from ⟨hi, hz0, hz1, hz2⟩)
        have H64 := Lib.hid hl64
        obtain ⟨S, hcat, hss, hse⟩ := sum_pad l hl64
        clear h hgone hgn hleft hsd hwe hw hb hat hl64 hf hsp hr hlt hi hz0 hz1 hz2
        generalize hnn : l.length = n at *
        have HN : Hid (l.length = n) := Lib.hid hnn
        have HNM := Lib.hid (rfl : D.n = D.n)
        clear hnn
        generalize hmm : D.n = m at c0 d2 htop
        have HM : Hid (D.n = m) := Lib.hid hmm
        clear hmm HNM
        go_enter Try.func31, Try.ntmps31
        go_wp2_with (go_at_call 53; refine HSP.out.mono ?_; rintro e w1 ⟨rfl, hd1, ht1⟩; have HD1 := Lib.hid hd1; have HT1 := Lib.hid ht1; clear hd1 ht1)
        have hrd := HR.out w1 (HT1.out.mono fun _ e => .inl e)
        have hconv1 : ∀ V, Since w1 V → (convert 24 9 (.slice A n cc)).run Try.prog V = .ok (.string ⟨l.toArray⟩) V := fun V hV => rd_conv hrd HN.out hV
        obtain ⟨w2, hmk, hown, hgr⟩ := run_make_full (P := Try.prog) w1.drew w1.heap.size 24 5 i0 (.int .u8 0) 1 Try.underlying24 HI.out.1 HI.out.2.1 HI.out.2.2.1 .i64 .i64 64 (by rw [HI.out.2.2.2]; omega) (by unfold maxLen; omega) (Nat.le_refl _)
        have hz := (made_zeros hown).read
        have hb2 : Below w1.drew.heap.size w1.drew w2 := (Below.refl _ _).grown hgr (Nat.le_refl _) (fun j hj => by cases hj)
        have hconv2 : ∀ V, Since w2 V → (convert 24 9 (.slice (some ⟨w1.heap.size, 0, none⟩) 64 64)).run Try.prog V = .ok (.string ⟨Dv.zeros.toArray⟩) V := fun V hV => rd_conv (l := Dv.zeros) hz Dv.len_zeros hV
        have HMK := Lib.hid hmk
        have HB2 : Hid (Below w1.heap.size w1 w2) := Lib.hid (((Below.refl _ _).drew).trans hb2)
        clear hmk hown hgr hz hrd
        have hno : (9223372036854775807 < l.length + Dv.zeros.length) = False := eq_false (by rw [Dv.len_zeros, HN.out]; have := H64.out; omega)
        go_wp2_with fail
        refine wp_region_since (by kernel_rfl) ?_
        have hS : Since w1 (World.drew w1) := (Below.refl _ _).drew
        refine wpAnyH_take (i := 0) (oi := ⟨some 31, _, _, _, _, _⟩) (v := ?_) rfl (by kernel_rfl) (by kernel_rfl) (by kernel_rfl) (fun _ _ _ h => h) (Or.inl ⟨by rfl, ?_⟩) hS ?_
        rotate_left
        · intro W hW; go_simp; with_reducible rfl
        try simp only [Act.put, List.setIfInBounds_toArray, List.set_cons_zero, List.set_cons_succ]
        refine wpAnyH_take (i := 1) (oi := ⟨some 32, _, _, _, _, _⟩) (v := ?_) rfl (by kernel_rfl) (by kernel_rfl) (by kernel_rfl) (fun _ _ _ h => h) (Or.inl ⟨by rfl, ?_⟩) hS ?_
        rotate_left
        · intro W hW; go_simp; with_reducible rfl
        try simp only [Act.put, List.setIfInBounds_toArray, List.set_cons_zero, List.set_cons_succ]
        -- operation 2: a step
        refine wpAnyH_ready (rs := [2]) (by kernel_rfl) (by simp) ?_
        refine AllReadyH.cons (o := ⟨some 33, _, _, _, _, _⟩) rfl (fun Kr hKr => ?_) AllReadyH.nil
        rw [if_pos (by kernel_rfl)]
        refine wp_make 24 _ _ rfl rfl rfl HMK.out ?_
        show Kr _ _
        refine hKr.out _ _ ?_ (fun _ => ?_)
        · exact since_trans hS hb2
        clear hKr Kr
        refine wpAnyH_since (since_trans hS hb2) ?_
        clear hS
        have hS : Since w2 w2 := Below.refl _ _
        try simp only [Act.put, List.setIfInBounds_toArray, List.set_cons_zero, List.set_cons_succ]
        refine wpAnyH_take (i := 3) (oi := ⟨some 34, _, _, _, _, _⟩) (v := ?_) rfl (by kernel_rfl) (by kernel_rfl) (by kernel_rfl) (fun _ _ _ h => h) (Or.inl ⟨by rfl, ?_⟩) hS ?_
        rotate_left
        · intro W hW; go_simp; with_reducible rfl
        try simp only [Act.put, List.setIfInBounds_toArray, List.set_cons_zero, List.set_cons_succ]
        refine wpAnyH_take (i := 4) (oi := ⟨some 35, _, _, _, _, _⟩) (v := ?_) rfl (by kernel_rfl) (by kernel_rfl) (by kernel_rfl) (fun _ _ _ h => h) (Or.inl ⟨by rfl, ?_⟩) hS ?_
        rotate_left
        · intro W hW; go_simp; with_reducible rfl
        try simp only [Act.put, List.setIfInBounds_toArray, List.set_cons_zero, List.set_cons_succ]
        refine wpAnyH_take (i := 5) (oi := ⟨some 7, _, _, _, _, _⟩) (v := ?_) rfl (by kernel_rfl) (by kernel_rfl) (by kernel_rfl) (fun _ _ _ h => h) (Or.inl ⟨by rfl, ?_⟩) hS ?_
        rotate_left
        · intro W hW; go_simp; with_reducible rfl
        try simp only [Act.put, List.setIfInBounds_toArray, List.set_cons_zero, List.set_cons_succ]
        refine wpAnyH_done (by kernel_rfl) ?_ _
        clear hno hcat hconv1 hconv2
        have hd2 := HD1.out.turn (Turn.ofBelow (S := fun _ => False) HB2.out) (fun h => h) (fun h => h) (fun h => h)
        have e1 : ∀ V, Turn (· = b) w2 V → V.cell? ⟨q, 1, none⟩ = some (.slice (some ⟨b, 0, none⟩) m m) := fun V hV => by
          have := hV.cell hd2.c1 (a := ⟨q, 1, none⟩) hd2.ne.2.1
          rw [show D.more.n = m from HM.out] at this
          exact this
        have hbi : w2.cell? ⟨b, i, none⟩ = _ := hd2.late.cell (show i < D.n from HLT.out)
        have hfi := hd2.late.fr i
        have HD2 := Lib.hid (show IsRef (w2.drew.setCell ⟨b, i, none⟩ (.string ⟨(Dv.pad l).toArray⟩)) q a b c (D.more.put i (Dv.pad l)) from (hd2.turn (S := fun _ => False) ((Turn.refl _ _).drew) (fun h => h) (fun h => h) (fun h => h)).put_ (show i < D.n from HLT.out) HPAD.out)
        have hlm : i < m := by rw [← HM.out]; exact HLT.out
        have hsb : ((64 : Int) ≤ (n : Int) + 64) = True := eq_true (by omega)
        clear hd2
        go_wp2_with fail
        refine wp_region_turn (X := (· = b)) (by kernel_rfl) ?_
        have hS : Turn (· = b) w2 (World.drew w2) := (Turn.refl _ _).drew
        refine wpAnyH_take (i := 0) (oi := ⟨some 36, _, _, _, _, _⟩) (v := ?_) rfl (by kernel_rfl) (by kernel_rfl) (by kernel_rfl) (fun _ _ _ h => h) (Or.inl ⟨by rfl, ?_⟩) hS ?_
        rotate_left
        · intro W hW; go_simp; with_reducible rfl
        try simp only [Act.put, List.setIfInBounds_toArray, List.set_cons_zero, List.set_cons_succ]
        refine wpAnyH_take (i := 1) (oi := ⟨some 37, _, _, _, _, _⟩) (v := ?_) rfl (by kernel_rfl) (by kernel_rfl) (by kernel_rfl) (fun _ _ _ h => h) (Or.inl ⟨by rfl, ?_⟩) hS ?_
        rotate_left
        · intro W hW; go_simp; with_reducible rfl
        try simp only [Act.put, List.setIfInBounds_toArray, List.set_cons_zero, List.set_cons_succ]
        refine wpAnyH_take (i := 2) (oi := ⟨some 38, _, _, _, _, _⟩) (v := ?_) rfl (by kernel_rfl) (by kernel_rfl) (by kernel_rfl) (fun _ _ _ h => h) (Or.inl ⟨by rfl, ?_⟩) hS ?_
        rotate_left
        · intro W hW; go_simp; with_reducible rfl
        try simp only [Act.put, List.setIfInBounds_toArray, List.set_cons_zero, List.set_cons_succ]
        refine wpAnyH_take (i := 3) (oi := ⟨some 39, _, _, _, _, _⟩) (v := ?_) rfl (by kernel_rfl) (by kernel_rfl) (by kernel_rfl) (fun _ _ _ h => h) (Or.inl ⟨by rfl, ?_⟩) hS ?_
        rotate_left
        · intro W hW; go_simp; with_reducible rfl
        try simp only [Act.put, List.setIfInBounds_toArray, List.set_cons_zero, List.set_cons_succ]
        refine wpAnyH_take (i := 4) (oi := ⟨some 40, _, _, _, _, _⟩) (v := ?_) rfl (by kernel_rfl) (by kernel_rfl) (by kernel_rfl) (fun _ _ _ h => h) (Or.inl ⟨by rfl, ?_⟩) hS ?_
        rotate_left
        · intro W hW; go_simp; with_reducible rfl
        try simp only [Act.put, List.setIfInBounds_toArray, List.set_cons_zero, List.set_cons_succ]
        refine wpAnyH_take (i := 5) (oi := ⟨some 41, _, _, _, _, _⟩) (v := ?_) rfl (by kernel_rfl) (by kernel_rfl) (by kernel_rfl) (fun _ _ _ h => h) (Or.inl ⟨by rfl, ?_⟩) hS ?_
        rotate_left
        · intro W hW; go_simp; with_reducible rfl
        try simp only [Act.put, List.setIfInBounds_toArray, List.set_cons_zero, List.set_cons_succ]
        refine wpAnyH_take (i := 6) (oi := ⟨some 42, _, _, _, _, _⟩) (v := ?_) rfl (by kernel_rfl) (by kernel_rfl) (by kernel_rfl) (fun _ _ _ h => h) (Or.inl ⟨by rfl, ?_⟩) hS ?_
        rotate_left
        · intro W hW; go_simp; with_reducible rfl
        try simp only [Act.put, List.setIfInBounds_toArray, List.set_cons_zero, List.set_cons_succ]
        refine wpAnyH_take (i := 7) (oi := ⟨some 43, _, _, _, _, _⟩) (v := ?_) rfl (by kernel_rfl) (by kernel_rfl) (by kernel_rfl) (fun _ _ _ h => h) (Or.inl ⟨by rfl, ?_⟩) hS ?_
        rotate_left
        · intro W hW; go_simp; with_reducible rfl
        try simp only [Act.put, List.setIfInBounds_toArray, List.set_cons_zero, List.set_cons_succ]
        -- operation 8: a step
        refine wpAnyH_ready (rs := [8]) (by kernel_rfl) (by simp) ?_
        refine AllReadyH.cons (o := ⟨none, _, _, _, _, _⟩) rfl (fun Kr hKr => ?_) AllReadyH.nil
        go_simp
        show Kr _ _
        refine hKr.out _ _ ?_ (fun _ => ?_)
        · exact Turn.trans hS ((Turn.refl (· = b) w2.drew).setCell ⟨b, i, none⟩ (.string ⟨(Dv.pad l).toArray⟩) (.inl rfl))
        clear hKr Kr
        refine wpAnyH_turn (Turn.trans hS ((Turn.refl (· = b) w2.drew).setCell ⟨b, i, none⟩ (.string ⟨(Dv.pad l).toArray⟩) (.inl rfl))) ?_
        clear hS
        have hS : Turn (· = b) (w2.drew.setCell ⟨b, i, none⟩ (.string ⟨(Dv.pad l).toArray⟩)) (w2.drew.setCell ⟨b, i, none⟩ (.string ⟨(Dv.pad l).toArray⟩)) := Turn.refl _ _
        try simp only [Act.put]
        refine wpAnyH_done (by kernel_rfl) ?_ _
        go_wp2_with fail
        go_ret
        exact ⟨rfl, HD2.out, ((HT1.out.mono fun _ e => .inl e).trans (Turn.ofBelow HB2.out)).trans (((Turn.refl (DS q a b) w2).setCell ⟨b, i, none⟩ _ (.inl (.inr (.inr rfl)))).drew)⟩
    · have hb : (D.has at_ && decide (l.length ≤ 64)) = false := by
        cases hD : D.has at_
        · rfl
        · exact decide_eq_false fun h2 => hat ⟨hD, h2⟩
      rw [hb] at hwe hw
      simp only [Bool.false_eq_true, if_false] at hwe hw
      rw [hwe, hw]
      have H := Lib.hid h
      rcases (show at_ < 0 ∨ (0 ≤ at_ ∧ (D.n : Int) ≤ at_) ∨ (0 ≤ at_ ∧ at_ < (D.n : Int) ∧ 64 < l.length) from by
        by_cases h1 : at_ < 0
        · exact .inl h1
        · rcases Int.lt_or_le at_ (D.n : Int) with h2 | h2
          · refine .inr (.inr ⟨by omega, h2, ?_⟩)
            rcases Nat.lt_or_ge 64 l.length with h3 | h3
            · exact h3
            · exact absurd ⟨by unfold Dv.has; rw [decide_eq_true (show 0 ≤ at_ by omega), decide_eq_true h2]; rfl, h3⟩ hat
          · exact .inr (.inl ⟨by omega, h2⟩)) with h1 | ⟨h1, h2⟩ | ⟨h1, h2, h3⟩
      · have d1 : decide (at_ < 0) = true := decide_eq_true h1
        clear h hat hgone hgn hwe hw hb
        generalize D.n = m at *
        generalize l.length = n at *
        go_enter Try.func31, Try.ntmps31
        go_wp2_with fail
        go_ret
        exact ⟨rfl, H.out, Turn.refl _ _⟩
      · have d1 : decide (at_ < 0) = false := decide_eq_false (by omega)
        have d2 : decide ((D.n : Int) ≤ at_) = true := decide_eq_true h2
        clear h hat hgone hgn hwe hw hb
        generalize D.n = m at *
        generalize l.length = n at *
        go_enter Try.func31, Try.ntmps31
        go_wp2_with fail
        go_ret
        exact ⟨rfl, H.out, Turn.refl _ _⟩
      · have d1 : decide (at_ < 0) = false := decide_eq_false (by omega)
        have d2 : decide ((D.n : Int) ≤ at_) = false := decide_eq_false (by omega)
        have d3 : decide ((64 : Int) < (l.length : Int)) = true := decide_eq_true (by omega)
        clear h hat hgone hgn hwe hw hb
        generalize D.n = m at *
        generalize l.length = n at *
        go_enter Try.func31, Try.ntmps31
        go_wp2_with fail
        go_ret
        exact ⟨rfl, H.out, Turn.refl _ _⟩
  · rw [hgone] at c3
    unfold Dv.write Dv.writeE
    rw [if_pos hgone, if_pos hgone]
    have H := Lib.hid h
    clear h hgone
    generalize l.length = n at *
    go_enter Try.func31, Try.ntmps31
    go_wp2_with fail
    go_ret
    exact ⟨rfl, H.out, Turn.refl _ _⟩

end Go.Proofs.Ytojidejlohpeaaa

namespace Go.Proofs.Ytojidejlohpeaaa
set_option maxRecDepth 100000
open Go.RowKit

namespace Dv
/-- what is kept is laid down, the rest is lost -/
def drop (D : Dv) (keep : Nat → Bool) : Dv := { D with laid := lay D.late D.laid keep D.keys D.keys.length, late := fun _ => none }
theorem Ok.drop {D : Dv} (h : D.Ok) (keep : Nat → Bool) : (D.drop keep).Ok :=
  ⟨h.pos, h.top, lay_len keep D.keys h.laid h.late _ (fun _ hj => (keys_lt hj).2), (fun _ _ h => by cases h), (fun _ _ h => by cases h), h.left, h.left'⟩
theorem getD_take {l : List Nat} (hn : l.Nodup) {m : Nat} (h : m < l.length) : l.getD m 0 ∉ l.take m := by
  rw [List.getD_eq_getElem?_getD, List.getElem?_eq_getElem h]
  intro hm
  obtain ⟨j, hj, e⟩ := List.getElem_of_mem hm
  rw [List.length_take] at hj
  rw [List.getElem_take] at e
  have := (List.getElem_inj hn).1 e
  omega
end Dv

/-- 'all' or the i-th is kept -/
def kpAll (all : Bool) (n : Nat) (f : Nat → Bool) (m : Nat) : Bool := all || kp n f m

/-- behind m rounds -/
structure RMid (w1 wr : World) (a b n : Nat) (D : Dv) (keep : Nat → Bool) (m : Nat) : Prop where
  laid : StrRow wr a n (Dv.lay D.late D.laid keep D.keys m)
  late : StrRow wr b n fun i => if i ∈ D.keys.take m then [] else (D.late i).getD []
  turn : Turn (fun k => k = a ∨ k = b) w1 wr

section
variable {w1 wr : World} {a b n i m : Nat} {D : Dv} {keep : Nat → Bool} {s : List UInt8}
theorem take_next {j : Nat} (hm : m < D.keys.length) (hi : D.keys.getD m 0 = i) : j ∈ D.keys.take (m + 1) ↔ (j ∈ D.keys.take m ∨ j = i) := by
  have e : D.keys[m] = i := by rw [← hi, List.getD_eq_getElem?_getD, List.getElem?_eq_getElem hm]; rfl
  rw [List.take_add_one, List.getElem?_eq_getElem hm, List.mem_append]
  simp [e]
theorem RMid.at_ (h : RMid w1 wr a b n D keep m) (hm : m < D.keys.length) (hi : D.keys.getD m 0 = i) (hn : i < n) (hs : D.late i = some s) : wr.cell? ⟨b, i, none⟩ = some (.string ⟨s.toArray⟩) := by
  have := h.late.cell hn
  rw [if_neg (by rw [← hi]; exact Dv.getD_take D.keys_nodup hm), hs] at this
  exact this
theorem RMid.lost (h : RMid w1 wr a b n D keep m) (hab : a ≠ b) (hm : m < D.keys.length) (hi : D.keys.getD m 0 = i) (hk : keep m = false) : RMid w1 (wr.drew.setCell ⟨b, i, none⟩ (.string ⟨#[]⟩)) a b n D keep (m + 1) := by
  refine ⟨?_, ?_, h.turn.drew.setCell _ _ (.inl (.inr rfl))⟩
  · refine (StrRow.same h.laid (w' := wr.drew.setCell ⟨b, i, none⟩ (.string ⟨#[]⟩)) (heap_setCell_other _ _ _ _ hab)).eq fun j _ => ?_
    rw [Dv.lay_succ, hk, if_neg Bool.false_ne_true]
  · refine StrRow.set (w := wr.drew) (h.late.same rfl) i [] fun j _ => ?_
    by_cases e : j = i
    · rw [if_pos ((take_next hm hi).2 (.inr e)), if_pos e]
    · rw [if_neg e]
      by_cases e2 : j ∈ D.keys.take m
      · rw [if_pos ((take_next hm hi).2 (.inl e2)), if_pos e2]
      · rw [if_neg (fun h3 => by rcases (take_next hm hi).1 h3 with h4 | h4; exact e2 h4; exact e h4), if_neg e2]
theorem RMid.down (h : RMid w1 wr a b n D keep m) (hab : a ≠ b) (hm : m < D.keys.length) (hi : D.keys.getD m 0 = i) (hk : keep m = true) (hs : D.late i = some s) {wx : World} (hx : wx.heap = (wr.drew.setCell ⟨a, i, none⟩ (.string ⟨s.toArray⟩)).heap)
    (hT : Turn (fun k => k = a ∨ k = b) wr wx) : RMid w1 (wx.drew.setCell ⟨b, i, none⟩ (.string ⟨#[]⟩)) a b n D keep (m + 1) := by
  have hxb : wx.drew.heap[b]? = wr.heap[b]? := by
    show wx.heap[b]? = _
    rw [hx, heap_setCell_other _ _ _ _ (Ne.symm hab)]
    rfl
  refine ⟨?_, ?_, (h.turn.trans hT).drew.setCell _ _ (.inl (.inr rfl))⟩
  · have h1 : StrRow (wr.drew.setCell ⟨a, i, none⟩ (strV s)) a n (Dv.lay D.late D.laid keep D.keys (m + 1)) := StrRow.set (w := wr.drew) (h.laid.same rfl) i s fun j _ => by
      rw [Dv.lay_succ, hk, if_pos rfl, hi]
      by_cases e : j = i
      · subst e
        rw [if_pos rfl, if_pos rfl, hs]; rfl
      · rw [if_neg e, if_neg e]
    refine h1.same ?_
    rw [heap_setCell_other _ _ _ _ hab]
    show wx.heap[a]? = _
    rw [hx]
    rfl
  · refine StrRow.set (w := wx.drew) (h.late.same hxb) i [] fun j _ => ?_
    by_cases e : j = i
    · rw [if_pos ((take_next hm hi).2 (.inr e)), if_pos e]
    · rw [if_neg e]
      by_cases e2 : j ∈ D.keys.take m
      · rw [if_pos ((take_next hm hi).2 (.inl e2)), if_pos e2]
      · rw [if_neg (fun h3 => by rcases (take_next hm hi).1 h3 with h4 | h4; exact e2 h4; exact e h4), if_neg e2]
end

theorem RMid.done {w wr : World} {q a b c : Nat} {D : Dv} {keep : Nat → Bool} (h : IsRef w q a b c D) (hm : RMid w wr a b D.n D keep D.keys.length) : IsRef wr q a b c (D.drop keep) := by
  refine ⟨h.ok.drop keep, h.ne, (hm.turn.block q h.lt.1 (fun e => by rcases e with e | e; exact h.ne.1 e; exact h.ne.2.1 e)).trans h.own, hm.laid, hm.late.eq fun j hj => ?_⟩
  rw [List.take_length]
  cases hs : D.late j with
  | none => rw [if_neg (fun h3 => by have := (Dv.mem_keys.1 h3).2; rw [hs] at this; cases this)]; rfl
  | some s => rw [if_pos (Dv.mem_keys.2 ⟨hj, by rw [hs]; rfl⟩)]; rfl

set_option maxRecDepth 100000 in
set_option maxHeartbeats 4000000 in
theorem settle_any {w : World} {q a b c : Nat} {D : Dv} (h : IsRef w q a b c D) {A : Option Addr} {kn : Nat} (cc : Nat) {f : Nat → Bool} (all : Bool) (hk : Bools (DS q a b) w A kn f) :
    Calls Try.prog 50 #[ptr q, .slice A kn cc, .bool all] w fun e w' => e = .returned (.tuple #[]) ∧ IsRef w' q a b c (D.drop (kpAll all kn f)) ∧ Turn (DS q a b) w w' := by
  have hca := refcached_any h
  have H := Lib.hid h
  have HK := Lib.hid hk
  clear h hk
  go_enter Try.func50, Try.ntmps50
  go_wp2_with (go_at_call 64; refine hca.mono ?_; rintro e w1 ⟨B, N, cap, rfl, hN, hrow, hb1⟩; have HROW := Lib.hid hrow; have HB1 := Lib.hid hb1; have HN := Lib.hid hN; clear hN hrow hb1)
  have hT1 : Turn (fun _ => False) w w1 := Turn.ofBelow HB1.out
  have hd1 := H.out.turn hT1 (fun h => h) (fun h => h) (fun h => h)
  have HT1 := Lib.hid hT1
  have HD1 := Lib.hid hd1
  have HK1 := Lib.hid (HK.out.turn (hT1.mono fun _ h => h.elim))
  have hne := hd1.ne
  have HNE := Lib.hid hne
  have c0 := Lib.hid hd1.c0
  have c1 := Lib.hid hd1.c1
  have hN4 : N ≤ 4096 := by have h1 := Dv.keys_length D; have h2 := H.out.ok.top; have h3 := HN.out; omega
  clear hca hT1 hd1 hne
  go_wp2_with fail
  go_loopw [7] (fun v wr => ∃ m : Nat, v = .int .i64 (m : Int) ∧ m ≤ N ∧ Hid (RMid w1 wr a b D.n D (kpAll all kn f) m)) (fun v _ => N - (intOf v).toNat)
  case atStart => exact ⟨0, rfl, Nat.zero_le _, Lib.hid ⟨HD1.out.laid, HD1.out.late.eq fun j _ => by simp, Turn.refl _ _⟩⟩
  case round =>
    obtain ⟨m, rfl, hm, HM⟩ := hrel
    by_cases hlt : m < N
    · have hdm : decide (m < N) = true := decide_eq_true hlt
      obtain ⟨g, rfl, hgb, hgl, hcell⟩ := ints_cells HROW.out (by omega)
      have hml : m < D.keys.length := by rw [← HN.out]; exact hlt
      obtain ⟨hin, his⟩ := Dv.keys_lt hml
      have hci := hcell m hml
      obtain ⟨s, hs⟩ := Option.isSome_iff_exists.1 his
      obtain ⟨i, hi⟩ : ∃ i, D.keys.getD m 0 = i := ⟨_, rfl⟩
      have HI := Lib.hid hi
      have HML := Lib.hid hml
      rw [hi] at hin hci hs
      have hga : g ≠ a := fun e => by have h1 := H.out.lt.2.1; omega
      have hgb' : g ≠ b := fun e => by have h1 := H.out.lt.2.2; omega
      have HS0 := Lib.hid hs
      have hTw : ∀ V, Turn (fun k => k = a ∨ k = b) wr V → V.cell? ⟨g, m, none⟩ = some (.int .i64 (i : Int)) := fun V hV => (HM.out.turn.trans hV).cell hci (fun e => by rcases e with e | e; exact hga e; exact hgb' e)
      have hC0 : ∀ V, Turn (fun k => k = a ∨ k = b) wr V → V.cell? ⟨q, 0, none⟩ = some (.slice (some ⟨a, 0, none⟩) D.n c) := fun V hV => (HM.out.turn.trans hV).cell c0.out (fun e => by rcases e with e | e; exact HNE.out.1 e; exact HNE.out.2.1 e)
      have hC1 : ∀ V, Turn (fun k => k = a ∨ k = b) wr V → V.cell? ⟨q, 1, none⟩ = some (.slice (some ⟨b, 0, none⟩) D.n D.n) := fun V hV => (HM.out.turn.trans hV).cell c1.out (fun e => by rcases e with e | e; exact HNE.out.1 e; exact HNE.out.2.1 e)
      have hLb := HM.out.at_ hml hi hin hs
      have hAa : wr.cell? ⟨a, i, none⟩ = some _ := HM.out.laid.cell hin
      have hFa := HM.out.laid.fr i
      have hFb := HM.out.late.fr i
      have HTW := Lib.hid hTw
      have HC0 := Lib.hid hC0
      have HC1 := Lib.hid hC1
      have HLB := Lib.hid hLb
      have HAA := Lib.hid hAa
      have HFR := Lib.hid (show _ ∧ _ from ⟨hFa, hFb⟩)
      have hbd : (i : Int) < 9223372036854775808 := by have := HD1.out.ok.top; omega
      have hmm : m + 1 ≤ N := hlt
      have hcase : (kpAll all kn f m = true ∧ (all = true ∨ (all = false ∧ m < kn ∧ ∃ b' o, A = some ⟨b', o, none⟩ ∧ wr.cell? ⟨b', o + m, none⟩ = some (.bool true)))) ∨
          (kpAll all kn f m = false ∧ all = false ∧ (decide (m < kn) = false ∨ (m < kn ∧ ∃ b' o, A = some ⟨b', o, none⟩ ∧ wr.cell? ⟨b', o + m, none⟩ = some (.bool false)))) := by
        unfold kpAll kp
        cases all
        · by_cases h1 : m < kn
          · rcases HK1.out with h0 | ⟨b', o, e, hbc⟩
            · omega
            have hbj := hbc m h1 wr (HM.out.turn.mono fun k e => by rcases e with e | e; exact .inr (.inl e); exact .inr (.inr e))
            rw [decide_eq_true h1]
            cases hf : f m
            · rw [hf] at hbj
              exact .inr ⟨rfl, rfl, .inr ⟨h1, b', o, e, hbj⟩⟩
            · rw [hf] at hbj
              exact .inl ⟨rfl, .inr ⟨rfl, h1, b', o, e, hbj⟩⟩
          · rw [decide_eq_false h1]
            exact .inr ⟨rfl, rfl, .inl rfl⟩
        · exact .inl ⟨rfl, .inl rfl⟩
      have hci2 := HTW.out wr (Turn.refl _ _)
      clear hcell his hci hi hs hTw hC0 hC1 hLb hAa hFa hFb HK1 HK hga hgb'
      rcases hcase with ⟨hkm, hway⟩ | ⟨hkm, hall, hway⟩
      · have HKM := Lib.hid hkm
        clear hkm
        rcases hway with rfl | ⟨rfl, hdk, b', o', rfl, hkc⟩
        all_goals
          go_wp2_with fail
        iterate 2
          · skip
            have e0 : ∀ V, Turn (· = a) wr V → V.cell? ⟨q, 0, none⟩ = some (.slice (some ⟨a, 0, none⟩) D.n c) := fun V hV => HC0.out V (hV.mono fun _ e => .inl e)
            have e1 : ∀ V, Turn (· = a) wr V → V.cell? ⟨q, 1, none⟩ = some (.slice (some ⟨b, 0, none⟩) D.n D.n) := fun V hV => HC1.out V (hV.mono fun _ e => .inl e)
            have e2 : ∀ V, Turn (· = a) wr V → V.cell? ⟨g, m, none⟩ = some (.int .i64 (i : Int)) := fun V hV => HTW.out V (hV.mono fun _ e => .inl e)
            have e3 : ∀ V, Turn (· = a) wr V → V.cell? ⟨b, i, none⟩ = some (.string ⟨s.toArray⟩) := fun V hV => hV.cell HLB.out (Ne.symm HNE.out.2.2)
            have e4 := HAA.out
            have e5 := HFR.out.1
            refine wp_region_turn (X := (· = a)) (by kernel_rfl) ?_
            have hS : Turn (· = a) wr (World.drew wr) := (Turn.refl _ _).drew
            refine wpAnyH_take (i := 0) (oi := ⟨some 29, _, _, _, _, _⟩) (v := ?_) rfl (by kernel_rfl) (by kernel_rfl) (by kernel_rfl) (fun _ _ _ h => h) (Or.inl ⟨by rfl, ?_⟩) hS ?_
            rotate_left
            · intro W hW; go_simp; with_reducible rfl
            try simp only [Act.put, List.setIfInBounds_toArray, List.set_cons_zero, List.set_cons_succ]
            refine wpAnyH_take (i := 1) (oi := ⟨some 30, _, _, _, _, _⟩) (v := ?_) rfl (by kernel_rfl) (by kernel_rfl) (by kernel_rfl) (fun _ _ _ h => h) (Or.inl ⟨by rfl, ?_⟩) hS ?_
            rotate_left
            · intro W hW; go_simp; with_reducible rfl
            try simp only [Act.put, List.setIfInBounds_toArray, List.set_cons_zero, List.set_cons_succ]
            refine wpAnyH_take (i := 2) (oi := ⟨some 31, _, _, _, _, _⟩) (v := ?_) rfl (by kernel_rfl) (by kernel_rfl) (by kernel_rfl) (fun _ _ _ h => h) (Or.inl ⟨by rfl, ?_⟩) hS ?_
            rotate_left
            · intro W hW; go_simp; with_reducible rfl
            try simp only [Act.put, List.setIfInBounds_toArray, List.set_cons_zero, List.set_cons_succ]
            refine wpAnyH_take (i := 3) (oi := ⟨some 32, _, _, _, _, _⟩) (v := ?_) rfl (by kernel_rfl) (by kernel_rfl) (by kernel_rfl) (fun _ _ _ h => h) (Or.inl ⟨by rfl, ?_⟩) hS ?_
            rotate_left
            · intro W hW; go_simp; with_reducible rfl
            try simp only [Act.put, List.setIfInBounds_toArray, List.set_cons_zero, List.set_cons_succ]
            refine wpAnyH_take (i := 4) (oi := ⟨some 33, _, _, _, _, _⟩) (v := ?_) rfl (by kernel_rfl) (by kernel_rfl) (by kernel_rfl) (fun _ _ _ h => h) (Or.inl ⟨by rfl, ?_⟩) hS ?_
            rotate_left
            · intro W hW; go_simp; with_reducible rfl
            try simp only [Act.put, List.setIfInBounds_toArray, List.set_cons_zero, List.set_cons_succ]
            refine wpAnyH_take (i := 5) (oi := ⟨some 34, _, _, _, _, _⟩) (v := ?_) rfl (by kernel_rfl) (by kernel_rfl) (by kernel_rfl) (fun _ _ _ h => h) (Or.inl ⟨by rfl, ?_⟩) hS ?_
            rotate_left
            · intro W hW; go_simp; with_reducible rfl
            try simp only [Act.put, List.setIfInBounds_toArray, List.set_cons_zero, List.set_cons_succ]
            refine wpAnyH_take (i := 6) (oi := ⟨some 35, _, _, _, _, _⟩) (v := ?_) rfl (by kernel_rfl) (by kernel_rfl) (by kernel_rfl) (fun _ _ _ h => h) (Or.inl ⟨by rfl, ?_⟩) hS ?_
            rotate_left
            · intro W hW; go_simp; with_reducible rfl
            try simp only [Act.put, List.setIfInBounds_toArray, List.set_cons_zero, List.set_cons_succ]
            refine wpAnyH_take (i := 7) (oi := ⟨some 36, _, _, _, _, _⟩) (v := ?_) rfl (by kernel_rfl) (by kernel_rfl) (by kernel_rfl) (fun _ _ _ h => h) (Or.inl ⟨by rfl, ?_⟩) hS ?_
            rotate_left
            · intro W hW; go_simp; with_reducible rfl
            try simp only [Act.put, List.setIfInBounds_toArray, List.set_cons_zero, List.set_cons_succ]
            refine wpAnyH_take (i := 8) (oi := ⟨some 37, _, _, _, _, _⟩) (v := ?_) rfl (by kernel_rfl) (by kernel_rfl) (by kernel_rfl) (fun _ _ _ h => h) (Or.inl ⟨by rfl, ?_⟩) hS ?_
            rotate_left
            · intro W hW; go_simp; with_reducible rfl
            try simp only [Act.put, List.setIfInBounds_toArray, List.set_cons_zero, List.set_cons_succ]
            refine wpAnyH_take (i := 9) (oi := ⟨some 38, _, _, _, _, _⟩) (v := ?_) rfl (by kernel_rfl) (by kernel_rfl) (by kernel_rfl) (fun _ _ _ h => h) (Or.inl ⟨by rfl, ?_⟩) hS ?_
            rotate_left
            · intro W hW; go_simp; with_reducible rfl
            try simp only [Act.put, List.setIfInBounds_toArray, List.set_cons_zero, List.set_cons_succ]
            refine wpAnyH_take (i := 10) (oi := ⟨some 39, _, _, _, _, _⟩) (v := ?_) rfl (by kernel_rfl) (by kernel_rfl) (by kernel_rfl) (fun _ _ _ h => h) (Or.inl ⟨by rfl, ?_⟩) hS ?_
            rotate_left
            · intro W hW; go_simp; with_reducible rfl
            try simp only [Act.put, List.setIfInBounds_toArray, List.set_cons_zero, List.set_cons_succ]
            refine wpAnyH_take (i := 11) (oi := ⟨some 40, _, _, _, _, _⟩) (v := ?_) rfl (by kernel_rfl) (by kernel_rfl) (by kernel_rfl) (fun _ _ _ h => h) (Or.inl ⟨by rfl, ?_⟩) hS ?_
            rotate_left
            · intro W hW; go_simp; with_reducible rfl
            try simp only [Act.put, List.setIfInBounds_toArray, List.set_cons_zero, List.set_cons_succ]
            refine wpAnyH_take (i := 12) (oi := ⟨some 41, _, _, _, _, _⟩) (v := ?_) rfl (by kernel_rfl) (by kernel_rfl) (by kernel_rfl) (fun _ _ _ h => h) (Or.inl ⟨by rfl, ?_⟩) hS ?_
            rotate_left
            · intro W hW; go_simp; with_reducible rfl
            try simp only [Act.put, List.setIfInBounds_toArray, List.set_cons_zero, List.set_cons_succ]
            refine wpAnyH_take (i := 13) (oi := ⟨some 42, _, _, _, _, _⟩) (v := ?_) rfl (by kernel_rfl) (by kernel_rfl) (by kernel_rfl) (fun _ _ _ h => h) (Or.inl ⟨by rfl, ?_⟩) hS ?_
            rotate_left
            · intro W hW; go_simp; with_reducible rfl
            try simp only [Act.put, List.setIfInBounds_toArray, List.set_cons_zero, List.set_cons_succ]
            refine wpAnyH_take (i := 14) (oi := ⟨some 43, _, _, _, _, _⟩) (v := ?_) rfl (by kernel_rfl) (by kernel_rfl) (by kernel_rfl) (fun _ _ _ h => h) (Or.inl ⟨by rfl, ?_⟩) hS ?_
            rotate_left
            · intro W hW; go_simp; with_reducible rfl
            try simp only [Act.put, List.setIfInBounds_toArray, List.set_cons_zero, List.set_cons_succ]
            refine wpAnyH_take (i := 15) (oi := ⟨some 44, _, _, _, _, _⟩) (v := ?_) rfl (by kernel_rfl) (by kernel_rfl) (by kernel_rfl) (fun _ _ _ h => h) (Or.inl ⟨by rfl, ?_⟩) hS ?_
            rotate_left
            · intro W hW; go_simp; with_reducible rfl
            try simp only [Act.put, List.setIfInBounds_toArray, List.set_cons_zero, List.set_cons_succ]
            refine wpAnyH_take (i := 16) (oi := ⟨some 45, _, _, _, _, _⟩) (v := ?_) rfl (by kernel_rfl) (by kernel_rfl) (by kernel_rfl) (fun _ _ _ h => h) (Or.inl ⟨by rfl, ?_⟩) hS ?_
            rotate_left
            · intro W hW; go_simp; with_reducible rfl
            try simp only [Act.put, List.setIfInBounds_toArray, List.set_cons_zero, List.set_cons_succ]
            refine wpAnyH_take (i := 17) (oi := ⟨some 46, _, _, _, _, _⟩) (v := ?_) rfl (by kernel_rfl) (by kernel_rfl) (by kernel_rfl) (fun _ _ _ h => h) (Or.inl ⟨by rfl, ?_⟩) hS ?_
            rotate_left
            · intro W hW; go_simp; with_reducible rfl
            try simp only [Act.put, List.setIfInBounds_toArray, List.set_cons_zero, List.set_cons_succ]
            refine wpAnyH_take (i := 18) (oi := ⟨some 47, _, _, _, _, _⟩) (v := ?_) rfl (by kernel_rfl) (by kernel_rfl) (by kernel_rfl) (fun _ _ _ h => h) (Or.inl ⟨by rfl, ?_⟩) hS ?_
            rotate_left
            · intro W hW; go_simp; with_reducible rfl
            try simp only [Act.put, List.setIfInBounds_toArray, List.set_cons_zero, List.set_cons_succ]
            -- operation 19: a step
            refine wpAnyH_ready (rs := [19]) (by kernel_rfl) (by simp) ?_
            refine AllReadyH.cons (o := ⟨none, _, _, _, _, _⟩) rfl (fun Kr hKr => ?_) AllReadyH.nil
            go_simp
            show Kr _ _
            refine hKr.out _ _ ?_ (fun _ => ?_)
            · exact Turn.trans hS ((Turn.refl (· = a) wr.drew).setCell ⟨a, i, none⟩ (.string ⟨s.toArray⟩) (.inl rfl))
            clear hKr Kr
            refine wpAnyH_turn (Turn.trans hS ((Turn.refl (· = a) wr.drew).setCell ⟨a, i, none⟩ (.string ⟨s.toArray⟩) (.inl rfl))) ?_
            clear hS
            have hS : Turn (· = a) (wr.drew.setCell ⟨a, i, none⟩ (.string ⟨s.toArray⟩)) (wr.drew.setCell ⟨a, i, none⟩ (.string ⟨s.toArray⟩)) := Turn.refl _ _
            try simp only [Act.put]
            refine wpAnyH_done (by kernel_rfl) ?_ _
            have hTx : Turn (fun k => k = a ∨ k = b) wr (wr.setCell ⟨a, i, none⟩ (.string ⟨s.toArray⟩)).drew := ((Turn.refl (fun k => k = a ∨ k = b) wr).setCell ⟨a, i, none⟩ _ (.inl (.inl rfl))).drew
            have hNX := Lib.hid (HM.out.down HNE.out.2.2 HML.out HI.out HKM.out HS0.out (wx := (wr.setCell ⟨a, i, none⟩ (.string ⟨s.toArray⟩)).drew) rfl hTx)
            have hb0 : (wr.setCell ⟨a, i, none⟩ (.string ⟨s.toArray⟩)).drew.heap[b]? = wr.heap[b]? := heap_setCell_other _ _ _ _ (Ne.symm HNE.out.2.2)
            clear e0 e1 e2 e3 e4 e5
            generalize (wr.setCell ⟨a, i, none⟩ (.string ⟨s.toArray⟩)).drew = wx at *
            have e1 : ∀ V, Turn (· = b) wx V → V.cell? ⟨q, 1, none⟩ = some (.slice (some ⟨b, 0, none⟩) D.n D.n) := fun V hV => HC1.out V (hTx.trans (hV.mono fun _ e => .inr e))
            have e2 : ∀ V, Turn (· = b) wx V → V.cell? ⟨g, m, none⟩ = some (.int .i64 (i : Int)) := fun V hV => HTW.out V (hTx.trans (hV.mono fun _ e => .inr e))
            have e3 : wx.cell? ⟨b, i, none⟩ = some (.string ⟨s.toArray⟩) := (World.cell?_of_block (w := wr) hb0).trans HLB.out
            have e5 : wx.frozen? ⟨b, i, none⟩ = false := (World.frozen?_of_block (w := wr) hb0).trans HFR.out.2
            clear hTx hb0
            go_wp2_with fail
            refine wp_region_turn (X := (· = b)) (by kernel_rfl) ?_
            have hS : Turn (· = b) wx (World.drew wx) := (Turn.refl _ _).drew
            refine wpAnyH_take (i := 0) (oi := ⟨some 48, _, _, _, _, _⟩) (v := ?_) rfl (by kernel_rfl) (by kernel_rfl) (by kernel_rfl) (fun _ _ _ h => h) (Or.inl ⟨by rfl, ?_⟩) hS ?_
            rotate_left
            · intro W hW; go_simp; with_reducible rfl
            try simp only [Act.put, List.setIfInBounds_toArray, List.set_cons_zero, List.set_cons_succ]
            refine wpAnyH_take (i := 1) (oi := ⟨some 49, _, _, _, _, _⟩) (v := ?_) rfl (by kernel_rfl) (by kernel_rfl) (by kernel_rfl) (fun _ _ _ h => h) (Or.inl ⟨by rfl, ?_⟩) hS ?_
            rotate_left
            · intro W hW; go_simp; with_reducible rfl
            try simp only [Act.put, List.setIfInBounds_toArray, List.set_cons_zero, List.set_cons_succ]
            refine wpAnyH_take (i := 2) (oi := ⟨some 50, _, _, _, _, _⟩) (v := ?_) rfl (by kernel_rfl) (by kernel_rfl) (by kernel_rfl) (fun _ _ _ h => h) (Or.inl ⟨by rfl, ?_⟩) hS ?_
            rotate_left
            · intro W hW; go_simp; with_reducible rfl
            try simp only [Act.put, List.setIfInBounds_toArray, List.set_cons_zero, List.set_cons_succ]
            refine wpAnyH_take (i := 3) (oi := ⟨some 51, _, _, _, _, _⟩) (v := ?_) rfl (by kernel_rfl) (by kernel_rfl) (by kernel_rfl) (fun _ _ _ h => h) (Or.inl ⟨by rfl, ?_⟩) hS ?_
            rotate_left
            · intro W hW; go_simp; with_reducible rfl
            try simp only [Act.put, List.setIfInBounds_toArray, List.set_cons_zero, List.set_cons_succ]
            refine wpAnyH_take (i := 4) (oi := ⟨some 52, _, _, _, _, _⟩) (v := ?_) rfl (by kernel_rfl) (by kernel_rfl) (by kernel_rfl) (fun _ _ _ h => h) (Or.inl ⟨by rfl, ?_⟩) hS ?_
            rotate_left
            · intro W hW; go_simp; with_reducible rfl
            try simp only [Act.put, List.setIfInBounds_toArray, List.set_cons_zero, List.set_cons_succ]
            refine wpAnyH_take (i := 5) (oi := ⟨some 53, _, _, _, _, _⟩) (v := ?_) rfl (by kernel_rfl) (by kernel_rfl) (by kernel_rfl) (fun _ _ _ h => h) (Or.inl ⟨by rfl, ?_⟩) hS ?_
            rotate_left
            · intro W hW; go_simp; with_reducible rfl
            try simp only [Act.put, List.setIfInBounds_toArray, List.set_cons_zero, List.set_cons_succ]
            refine wpAnyH_take (i := 6) (oi := ⟨some 54, _, _, _, _, _⟩) (v := ?_) rfl (by kernel_rfl) (by kernel_rfl) (by kernel_rfl) (fun _ _ _ h => h) (Or.inl ⟨by rfl, ?_⟩) hS ?_
            rotate_left
            · intro W hW; go_simp; with_reducible rfl
            try simp only [Act.put, List.setIfInBounds_toArray, List.set_cons_zero, List.set_cons_succ]
            refine wpAnyH_take (i := 7) (oi := ⟨some 55, _, _, _, _, _⟩) (v := ?_) rfl (by kernel_rfl) (by kernel_rfl) (by kernel_rfl) (fun _ _ _ h => h) (Or.inl ⟨by rfl, ?_⟩) hS ?_
            rotate_left
            · intro W hW; go_simp; with_reducible rfl
            try simp only [Act.put, List.setIfInBounds_toArray, List.set_cons_zero, List.set_cons_succ]
            refine wpAnyH_take (i := 8) (oi := ⟨some 56, _, _, _, _, _⟩) (v := ?_) rfl (by kernel_rfl) (by kernel_rfl) (by kernel_rfl) (fun _ _ _ h => h) (Or.inl ⟨by rfl, ?_⟩) hS ?_
            rotate_left
            · intro W hW; go_simp; with_reducible rfl
            try simp only [Act.put, List.setIfInBounds_toArray, List.set_cons_zero, List.set_cons_succ]
            -- operation 9: a step
            refine wpAnyH_ready (rs := [9]) (by kernel_rfl) (by simp) ?_
            refine AllReadyH.cons (o := ⟨none, _, _, _, _, _⟩) rfl (fun Kr hKr => ?_) AllReadyH.nil
            go_simp
            show Kr _ _
            refine hKr.out _ _ ?_ (fun _ => ?_)
            · exact Turn.trans hS ((Turn.refl (· = b) wx.drew).setCell ⟨b, i, none⟩ (.string ⟨#[]⟩) (.inl rfl))
            clear hKr Kr
            refine wpAnyH_turn (Turn.trans hS ((Turn.refl (· = b) wx.drew).setCell ⟨b, i, none⟩ (.string ⟨#[]⟩) (.inl rfl))) ?_
            clear hS
            have hS : Turn (· = b) (wx.drew.setCell ⟨b, i, none⟩ (.string ⟨#[]⟩)) (wx.drew.setCell ⟨b, i, none⟩ (.string ⟨#[]⟩)) := Turn.refl _ _
            try simp only [Act.put]
            refine wpAnyH_done (by kernel_rfl) ?_ _
            go_wp2_with fail
            refine ⟨⟨m + 1, by go_num, hmm, hNX⟩, by simp [intOf]; omega⟩
      · subst hall
        have HNX := Lib.hid (HM.out.lost HNE.out.2.2 HML.out HI.out hkm)
        clear hkm
        rcases hway with hdk | ⟨hdk, b', o', rfl, hkc⟩
        all_goals
          go_wp2_with fail
        iterate 2
          · skip
            have e1 : ∀ V, Turn (· = b) wr V → V.cell? ⟨q, 1, none⟩ = some (.slice (some ⟨b, 0, none⟩) D.n D.n) := fun V hV => HC1.out V (hV.mono fun _ e => .inr e)
            have e2 : ∀ V, Turn (· = b) wr V → V.cell? ⟨g, m, none⟩ = some (.int .i64 (i : Int)) := fun V hV => HTW.out V (hV.mono fun _ e => .inr e)
            have e3 := HLB.out
            have e5 := HFR.out.2
            refine wp_region_turn (X := (· = b)) (by kernel_rfl) ?_
            have hS : Turn (· = b) wr (World.drew wr) := (Turn.refl _ _).drew
            refine wpAnyH_take (i := 0) (oi := ⟨some 48, _, _, _, _, _⟩) (v := ?_) rfl (by kernel_rfl) (by kernel_rfl) (by kernel_rfl) (fun _ _ _ h => h) (Or.inl ⟨by rfl, ?_⟩) hS ?_
            rotate_left
            · intro W hW; go_simp; with_reducible rfl
            try simp only [Act.put, List.setIfInBounds_toArray, List.set_cons_zero, List.set_cons_succ]
            refine wpAnyH_take (i := 1) (oi := ⟨some 49, _, _, _, _, _⟩) (v := ?_) rfl (by kernel_rfl) (by kernel_rfl) (by kernel_rfl) (fun _ _ _ h => h) (Or.inl ⟨by rfl, ?_⟩) hS ?_
            rotate_left
            · intro W hW; go_simp; with_reducible rfl
            try simp only [Act.put, List.setIfInBounds_toArray, List.set_cons_zero, List.set_cons_succ]
            refine wpAnyH_take (i := 2) (oi := ⟨some 50, _, _, _, _, _⟩) (v := ?_) rfl (by kernel_rfl) (by kernel_rfl) (by kernel_rfl) (fun _ _ _ h => h) (Or.inl ⟨by rfl, ?_⟩) hS ?_
            rotate_left
            · intro W hW; go_simp; with_reducible rfl
            try simp only [Act.put, List.setIfInBounds_toArray, List.set_cons_zero, List.set_cons_succ]
            refine wpAnyH_take (i := 3) (oi := ⟨some 51, _, _, _, _, _⟩) (v := ?_) rfl (by kernel_rfl) (by kernel_rfl) (by kernel_rfl) (fun _ _ _ h => h) (Or.inl ⟨by rfl, ?_⟩) hS ?_
            rotate_left
            · intro W hW; go_simp; with_reducible rfl
            try simp only [Act.put, List.setIfInBounds_toArray, List.set_cons_zero, List.set_cons_succ]
            refine wpAnyH_take (i := 4) (oi := ⟨some 52, _, _, _, _, _⟩) (v := ?_) rfl (by kernel_rfl) (by kernel_rfl) (by kernel_rfl) (fun _ _ _ h => h) (Or.inl ⟨by rfl, ?_⟩) hS ?_
            rotate_left
            · intro W hW; go_simp; with_reducible rfl
            try simp only [Act.put, List.setIfInBounds_toArray, List.set_cons_zero, List.set_cons_succ]
            refine wpAnyH_take (i := 5) (oi := ⟨some 53, _, _, _, _, _⟩) (v := ?_) rfl (by kernel_rfl) (by kernel_rfl) (by kernel_rfl) (fun _ _ _ h => h) (Or.inl ⟨by rfl, ?_⟩) hS ?_
            rotate_left
            · intro W hW; go_simp; with_reducible rfl
            try simp only [Act.put, List.setIfInBounds_toArray, List.set_cons_zero, List.set_cons_succ]
            refine wpAnyH_take (i := 6) (oi := ⟨some 54, _, _, _, _, _⟩) (v := ?_) rfl (by kernel_rfl) (by kernel_rfl) (by kernel_rfl) (fun _ _ _ h => h) (Or.inl ⟨by rfl, ?_⟩) hS ?_
            rotate_left
            · intro W hW; go_simp; with_reducible rfl
            try simp only [Act.put, List.setIfInBounds_toArray, List.set_cons_zero, List.set_cons_succ]
            refine wpAnyH_take (i := 7) (oi := ⟨some 55, _, _, _, _, _⟩) (v := ?_) rfl (by kernel_rfl) (by kernel_rfl) (by kernel_rfl) (fun _ _ _ h => h) (Or.inl ⟨by rfl, ?_⟩) hS ?_
            rotate_left
            · intro W hW; go_simp; with_reducible rfl
            try simp only [Act.put, List.setIfInBounds_toArray, List.set_cons_zero, List.set_cons_succ]
            refine wpAnyH_take (i := 8) (oi := ⟨some 56, _, _, _, _, _⟩) (v := ?_) rfl (by kernel_rfl) (by kernel_rfl) (by kernel_rfl) (fun _ _ _ h => h) (Or.inl ⟨by rfl, ?_⟩) hS ?_
            rotate_left
            · intro W hW; go_simp; with_reducible rfl
            try simp only [Act.put, List.setIfInBounds_toArray, List.set_cons_zero, List.set_cons_succ]
            -- operation 9: a step
            refine wpAnyH_ready (rs := [9]) (by kernel_rfl) (by simp) ?_
            refine AllReadyH.cons (o := ⟨none, _, _, _, _, _⟩) rfl (fun Kr hKr => ?_) AllReadyH.nil
            go_simp
            show Kr _ _
            refine hKr.out _ _ ?_ (fun _ => ?_)
            · exact Turn.trans hS ((Turn.refl (· = b) wr.drew).setCell ⟨b, i, none⟩ (.string ⟨#[]⟩) (.inl rfl))
            clear hKr Kr
            refine wpAnyH_turn (Turn.trans hS ((Turn.refl (· = b) wr.drew).setCell ⟨b, i, none⟩ (.string ⟨#[]⟩) (.inl rfl))) ?_
            clear hS
            have hS : Turn (· = b) (wr.drew.setCell ⟨b, i, none⟩ (.string ⟨#[]⟩)) (wr.drew.setCell ⟨b, i, none⟩ (.string ⟨#[]⟩)) := Turn.refl _ _
            try simp only [Act.put]
            refine wpAnyH_done (by kernel_rfl) ?_ _
            go_wp2_with fail
            refine ⟨⟨m + 1, by go_num, hmm, HNX⟩, by simp [intOf]; omega⟩
    · obtain rfl : m = N := by omega
      have HE := Lib.hid (RMid.done HD1.out (by rw [← HN.out]; exact HM.out))
      have HTM := Lib.hid HM.out.turn
      have hdm : decide (m < m) = false := decide_eq_false (by omega)
      clear HM hlt hm
      go_wp2_with fail
      go_end0
      exact ⟨rfl, HE.out, (HT1.out.mono fun _ h => h.elim).trans (HTM.out.mono fun _ e => by rcases e with e | e; exact .inr (.inl e); exact .inr (.inr e))⟩

end Go.Proofs.Ytojidejlohpeaaa

namespace Go.Proofs.Ytojidejlohpeaaa
set_option maxRecDepth 100000
open Go.RowKit

theorem IsRef.congr {w : World} {q a b c : Nat} {D E : Dv} (h : IsRef w q a b c D) (ok : E.Ok) (hn : E.n = D.n) (hl : E.left = D.left) (hg : E.gone = D.gone) (hs : E.spent = D.spent) (h1 : ∀ i, i < D.n → D.laid i = E.laid i) (h2 : ∀ i, i < D.n → D.late i = E.late i) : IsRef w q a b c E := by
  refine ⟨ok, h.ne, ?_, ?_, ?_⟩
  · rw [hn, hl, hg, hs]; exact h.own
  · rw [hn]; exact h.laid.eq h1
  · rw [hn]; exact h.late.eq fun i hi => by rw [h2 i hi]

set_option maxRecDepth 100000 in
set_option maxHeartbeats 1000000 in
theorem refflush_any {w : World} {q a b c : Nat} {D : Dv} (h : IsRef w q a b c D) (hf : D.spent ≤ 1000000) : Calls Try.prog 33 #[ptr q] w fun e w' => e = .returned (.int .i64 D.flushE) ∧ IsRef w' q a b c D.flush ∧ Turn (DS q a b) w w' := by
  have c3 := h.c3
  cases hgone : D.gone
  · rw [hgone] at c3
    have hgn : ¬ D.gone = true := by rw [hgone]; exact Bool.false_ne_true
    have hwe : D.flushE = if D.left = 0 then 11 else 0 := by unfold Dv.flushE; rw [if_neg hgn]
    have hw : D.flush = if D.left = 0 then D.die else D.more.settle := by unfold Dv.flush; rw [if_neg hgn]
    have hsp := refspend_any h hf
    by_cases hleft : D.left = 0
    · have hsd : D.spend = D.die := by unfold Dv.spend; rw [if_pos hleft]
      rw [if_pos hleft] at hwe hw
      rw [decide_eq_true hleft, hsd] at hsp
      rw [hwe, hw]
      have HSP := Lib.hid hsp
      clear h hgone hgn hleft hsd hwe hw hf hsp
      go_enter Try.func33, Try.ntmps33
      go_wp2_with (go_at_call 53; refine HSP.out.mono ?_; rintro e w1 ⟨rfl, hd1, ht1⟩; have HD1 := Lib.hid hd1; have HT1 := Lib.hid ht1; clear hd1 ht1)
      go_ret
      exact ⟨rfl, HD1.out, HT1.out.mono fun _ e => .inl e⟩
    · have hsd : D.spend = D.more := by unfold Dv.spend; rw [if_neg hleft]
      rw [if_neg hleft] at hwe hw
      rw [decide_eq_false hleft, hsd] at hsp
      rw [hwe, hw]
      have HSP := Lib.hid hsp
      clear h hgone hgn hleft hsd hwe hw hf hsp
      generalize D.more = E at HSP ⊢
      go_enter Try.func33, Try.ntmps33
      go_wp2_with (first
        | (go_at_call 53; refine HSP.out.mono ?_; rintro e w1 ⟨rfl, hd1, ht1⟩; have HD1 := Lib.hid hd1; have HT1 := Lib.hid ht1; clear hd1 ht1)
        | (go_at_call 50; refine (settle_any HD1.out 0 true (kn := 0) (f := fun _ => false) Bools.nil).mono ?_; rintro e w2 ⟨rfl, hd2, ht2⟩; have HD2 := Lib.hid hd2; have HT2 := Lib.hid ht2; clear hd2 ht2))
      go_ret
      refine ⟨rfl, HD2.out.congr HD1.out.ok.settle rfl rfl rfl rfl (fun i hi => ?_) (fun _ _ => rfl), (HT1.out.mono fun _ e => .inl e).trans HT2.out⟩
      show Dv.lay E.late E.laid (kpAll true 0 fun _ => false) E.keys E.keys.length i = (E.late i).getD (E.laid i)
      rw [show (kpAll true 0 fun _ => false) = fun _ => true from rfl]
      exact Dv.settle_lay E i hi
  · rw [hgone] at c3
    unfold Dv.flush Dv.flushE
    rw [if_pos hgone, if_pos hgone]
    have H := Lib.hid h
    clear h hgone
    go_enter Try.func33, Try.ntmps33
    go_wp2_with fail
    go_ret
    exact ⟨rfl, H.out, Turn.refl _ _⟩

set_option maxRecDepth 100000 in
set_option maxHeartbeats 1000000 in
theorem refcrash_any {w : World} {q a b c : Nat} {D : Dv} (h : IsRef w q a b c D) {A : Option Addr} {kn : Nat} (cc : Nat) {f : Nat → Bool} (hk : Bools (DS q a b) w A kn f) :
    Calls Try.prog 29 #[ptr q, .slice A kn cc] w fun e w' => e = .returned (.tuple #[]) ∧ IsRef w' q a b c (D.crash (kp kn f)) ∧ Turn (DS q a b) w w' := by
  have hst := Lib.hid (settle_any h cc false hk)
  have HOK := Lib.hid (h.ok.crash (kp kn f))
  clear h hk
  go_enter Try.func29, Try.ntmps29
  go_wp2_with (go_at_call 50; refine hst.out.mono ?_; rintro e w2 ⟨rfl, hd2, ht2⟩; have e3 := hd2.c3; have e2 := hd2.c2; have f3 := hd2.fr 3; have f2 := hd2.fr 2; have HD2 := Lib.hid hd2; have HT2 := Lib.hid ht2; clear hd2 ht2)
  go_end0
  have hd := HD2.out
  refine ⟨rfl, ⟨HOK.out, hd.ne, heap_setCell_same _ _ _ _ _ _ (heap_setCell_same _ _ _ _ _ _ hd.own), ?_, ?_⟩, (HT2.out.setCell ⟨q, 3, none⟩ _ (.inl (.inl rfl))).setCell ⟨q, 2, none⟩ _ (.inl (.inl rfl))⟩
  · exact hd.laid.same ((heap_setCell_other _ _ _ _ (Ne.symm hd.ne.1)).trans (heap_setCell_other _ _ _ _ (Ne.symm hd.ne.1)))
  · exact hd.late.same ((heap_setCell_other _ _ _ _ (Ne.symm hd.ne.2.1)).trans (heap_setCell_other _ _ _ _ (Ne.symm hd.ne.2.1)))

end Go.Proofs.Ytojidejlohpeaaa

namespace Go.Proofs.Ytojidejlohpeaaa
set_option maxRecDepth 100000
open Go.RowKit

theorem str_facts : (Try.prog.info? 9).map (fun i => (i.zero, i.size, i.bytes)) = some (some (.string ⟨#[]⟩), 1, 16) := by kernel_rfl

theorem wp_append {P : Program} {o : Oper} {a : Act} {w w' : World} {K : Act → World → Prop} {Q : Exit → Act → World → Prop} (s x : Operand) (t : TypeId) (ho : o.op = .call { callee := .builtin .append, args := #[s, x], argTypes := #[t, t] }) {y z v : Value} (hs : a.eval s = y) (hx : a.eval x = z)
    (hrun : (Builtin.append_ #[t, t] o.type #[y, z]).run P w = .ok v w') (h : K (a.put o.dst v) w') : o.wp P a w K Q := by
  unfold Oper.wp
  simp [execOp, ho, resolve, invoke, builtin, hs, hx, hrun, Result.andThen]
  exact h

/-- strings of the call's own, as a row -/
theorem own_strs {w : World} {base n : Nat} {A : Option Addr} {cap : Nat} {s : List UInt8} (h : w.ownsRow base 9 1 (.slice A n cap) n (List.replicate n (strV s))) (hn : 0 < n) : ∃ g, A = some ⟨g, 0, none⟩ ∧ base ≤ g ∧ StrRow w g n fun _ => s := by
  rcases h.2 with ⟨e, h0⟩ | ⟨g, c, cur, e, hb, hh, h1, h2, h3, h4⟩
  · omega
  · injection e with e1 _ e3
    subst e1
    refine ⟨g, rfl, hb, cur, hh, by omega, fun i hi => ?_⟩
    have h5 : (cur.toList.take (n * 1))[i]? = some (strV s) := by rw [h4, List.getElem?_replicate, if_pos hi]
    rw [List.getElem?_take_of_lt (by omega), Array.getElem?_toList] at h5
    exact h5

theorem made_strs {n : Nat} : (madeCells (Value.cells (.string ⟨#[]⟩)) (n * 1)).toList = List.replicate n (strV []) := by
  unfold madeCells
  rw [Array.toList_map, Array.toList_range, Nat.mul_one, List.eq_replicate_iff]
  refine ⟨by simp, fun b hb => ?_⟩
  obtain ⟨i, _, rfl⟩ := List.mem_map.1 hb
  simp [Value.cells, strV, Nat.mod_one]

/-- behind i rounds -/
structure NMid (w wr : World) (q b n B0 i : Nat) (v : Value) : Prop where
  row : wr.ownsRow B0 9 1 v i (List.replicate i (strV Dv.zeros))
  own : wr.heap[q]? = some (.cells #[v, .slice (some ⟨b, 0, none⟩) n n, .int .i64 (-1), .bool false, .int .i64 0] 93 (0, 0))
  late : StrRow wr b n fun _ => []
  bel : Below w.heap.size w wr
  size : B0 ≤ wr.heap.size

/-- what a round's region finds, and leaves -/
structure NSt (w wr w2 w4 : World) (q b n B0 i : Nat) (v v4 : Value) : Prop where
  make : (Instr.makeSlice 24 (.int .i64 64) (.int .i64 64)).run Try.prog wr.drew = .ok (.slice (some ⟨wr.heap.size, 0, none⟩) 64 64) w2
  t2 : Turn (fun k => k = q ∨ some k = v.ownBlock) wr.drew w2
  conv : ∀ V, Turn (fun k => k = q ∨ some k = v.ownBlock) w2 V → (convert 24 9 (.slice (some ⟨wr.heap.size, 0, none⟩) 64 64)).run Try.prog V = .ok (.string ⟨Dv.zeros.toArray⟩) V
  q0 : wr.cell? ⟨q, 0, none⟩ = some v
  q2 : w2.cell? ⟨q, 0, none⟩ = some v
  q3 : (w2.alloc (.cells #[.string ⟨Dv.zeros.toArray⟩] 9)).cell? ⟨q, 0, none⟩ = some v
  app : (Builtin.append_ #[91, 91] 91 #[v, .slice (some ⟨w2.heap.size, 0, none⟩) 1 1]).run Try.prog (w2.alloc (.cells #[.string ⟨Dv.zeros.toArray⟩] 9)) = .ok v4 w4
  t4 : Turn (fun k => k = q ∨ some k = v.ownBlock) (w2.alloc (.cells #[.string ⟨Dv.zeros.toArray⟩] 9)) w4
  q4 : ∃ u, w4.cell? ⟨q, 0, none⟩ = some u
  f4 : w4.frozen? ⟨q, 0, none⟩ = false
  form : ∃ A c, v4 = .slice A (i + 1) c
  next : Hid (NMid w (w4.setCell ⟨q, 0, none⟩ v4) q b n B0 (i + 1) v4)

theorem nst_mk {w wr : World} {q b n B0 i : Nat} {v : Value} (h : NMid w wr q b n B0 i v) (hi : i < n) (hn : n ≤ 4096) (hq : q < B0) (hb : b < B0) (hqb : q ≠ b) (hwq : w.heap.size ≤ q) : ∃ w2 w4 v4, NSt w wr w2 w4 q b n B0 i v v4 := by
  obtain ⟨i0, hi0, hz0, hz1, hz2⟩ := info_parts byte_info
  obtain ⟨j0, hj0, hy0, hy1, hy2⟩ := info_parts str_facts
  obtain ⟨w2, hmk, hown, hgr⟩ := run_make_full (P := Try.prog) wr.drew wr.heap.size 24 5 i0 (.int .u8 0) 1 Try.underlying24 hi0 hz0 hz1 .i64 .i64 64 (by rw [hz2]; omega) (by unfold maxLen; omega) (Nat.le_refl _)
  have hz := made_zeros hown
  have hBw := h.size
  have hvq : ¬ (some q = v.ownBlock) := fun e => by have := (h.row.lt q e.symm).1; omega
  have hvb : ¬ (some b = v.ownBlock) := fun e => by have := (h.row.lt b e.symm).1; omega
  have hs2 : wr.heap.size ≤ w2.heap.size := hgr.size
  have hT2 : Turn (fun k => k = q ∨ some k = v.ownBlock) wr.drew w2 := Turn.ofNone hgr
  have hT2' : Turn (fun _ => False) wr w2 := (Turn.refl _ _).drew.grown hgr (fun j hj => by cases hj)
  have hrow2 : w2.ownsRow B0 9 1 v i (List.replicate i (strV Dv.zeros)) := (h.row.drew).kept hgr (by rcases hv : v.ownBlock with _ | x; exact .inl rfl; exact .inr (by simp))
  have hq0 : wr.cell? ⟨q, 0, none⟩ = some v := by rw [cell_of_row _ _ _ _ _ _ h.own]; rfl
  have hq2 : w2.cell? ⟨q, 0, none⟩ = some v := hT2'.cell hq0 (fun h => h)
  have hql : q < w2.heap.size := by omega
  have hrow3 := hrow2.alloc (.cells #[.string ⟨Dv.zeros.toArray⟩] 9)
  obtain ⟨v4, w4, happ, hown4, hg4, _, _⟩ := run_append_own_at (P := Try.prog) (w2.alloc (.cells #[.string ⟨Dv.zeros.toArray⟩] 9)) B0 91 91 9 j0 (.string ⟨#[]⟩) 1 16 Try.underlying91 hj0 hy0 hy1 hy2 rfl (by omega) v i _ hrow3 ⟨w2.heap.size, 0, none⟩ 1 1 [.string ⟨Dv.zeros.toArray⟩] rfl (cell_one_new _ _ _) (fun u hu => by rw [List.mem_singleton.1 hu]; rfl) (by unfold maxLen; omega) (by omega) (by simp; omega)
  have hT3 : Turn (fun _ => False) wr (w2.alloc (.cells #[.string ⟨Dv.zeros.toArray⟩] 9)) := hT2'.alloc _
  have hT4 : Turn (fun k => some k = v.ownBlock) wr w4 := (hT3.mono fun _ h => h.elim).grown hg4 (fun j hj => .inl hj.symm)
  have ho4 := (hT4.block q (lt_of_block h.own) hvq).trans h.own
  refine ⟨w2, w4, v4, hmk, hT2, fun V hV => ?_, hq0, hq2, ?_, happ, ?_, ⟨v, by rw [cell_of_row _ _ _ _ _ _ ho4]; rfl⟩, frozen_of_row _ _ _ _ _ ho4, ?_, ?_⟩
  · refine run_string_rd (B := V.heap.size) ?_ _ _ Try.underlying24 Try.underlying5 Try.underlying9 64 64 Dv.len_zeros
    rcases hz.read with h0 | ⟨g, o, e, hg, hc⟩
    · exact .inl h0
    · injection e with e
      injection e with e1 e2
      subst e1 e2
      exact .inr ⟨_, 0, rfl, Nat.lt_of_lt_of_le hg hV.size, fun j x hx => hV.cell (hc j x hx) (fun hk => by
        rcases hk with hk | hk
        · have hk' : wr.heap.size = q := hk
          omega
        · have := (h.row.lt _ hk.symm).2
          have h9 : wr.heap.size < wr.heap.size := this
          omega)⟩
  · rw [World.cell?_alloc_lt _ _ _ hql]; exact hq2
  · exact (Turn.refl _ _).grown hg4 (fun j hj => .inl (.inr hj.symm))
  · rcases hown4.2 with ⟨_, h0⟩ | ⟨g, c, cur, e, _⟩
    · omega
    · exact ⟨_, c, e⟩
  · refine ⟨?_, ?_, ?_, ?_, ?_⟩
    · rw [List.replicate_succ']
      exact World.ownsRow.kept hown4 ((Turn.refl (· = q) w4).setCell ⟨q, 0, none⟩ v4 (.inl rfl)).toGrown (Or.inr fun e => by have := (hown4.lt q e).1; omega)
    · exact heap_setCell_same _ _ _ _ _ _ ho4
    · exact ((h.late.same (hT4.block b h.late.lt hvb))).same (heap_setCell_other _ _ _ _ (Ne.symm hqb))
    · refine (h.bel.trans (hT4.below (fun k hk => ?_) (Nat.le_trans (by omega) hBw))).setCell (by exact hwq) _
      have := (h.row.lt k hk.symm).1
      omega
    · show B0 ≤ (w4.setCell _ _).heap.size
      have h1 := hT4.size
      have h2 : (w4.setCell ⟨q, 0, none⟩ v4).heap.size = w4.heap.size := by simp [World.setCell]
      omega

theorem refnew_bad (w : World) (n : Int) (hn : n < 1 ∨ 4096 < n) : Calls Try.prog 22 #[.int .i64 n] w fun e w' => e = .returned (.tuple #[.pointer none, .int .i64 1]) ∧ w' = w := by
  by_cases h1 : n < 1
  · have d1 : decide (n < 1) = true := decide_eq_true h1
    clear hn
    go_enter Try.func22, Try.ntmps22
    go_wp2_with fail
    go_ret2
    exact ⟨rfl, rfl⟩
  · have d1 : decide (n < 1) = false := decide_eq_false h1
    have d2 : decide (4096 < n) = true := decide_eq_true (by omega)
    clear hn
    go_enter Try.func22, Try.ntmps22
    go_wp2_with fail
    go_ret2
    exact ⟨rfl, rfl⟩

/-- what New of the document answers -/
def RefNewOut (w : World) (n : Nat) (e : Ending) (w' : World) : Prop := ∃ q a b c, e = .returned (.tuple #[ptr q, .int .i64 0]) ∧ IsRef w' q a b c (.fresh n) ∧ Below w.heap.size w w' ∧ w.heap.size ≤ q ∧ w.heap.size ≤ a ∧ w.heap.size ≤ b

set_option maxRecDepth 100000 in
set_option maxHeartbeats 4000000 in
theorem refnew_any (w : World) (n : Nat) (h1 : 1 ≤ n) (h2 : n ≤ 4096) : Calls Try.prog 22 #[.int .i64 (n : Int)] w (RefNewOut w n) := by
  obtain ⟨j0, hj0, hy0, hy1, hy2⟩ := info_parts str_facts
  have HI := Lib.hid hj0
  clear hj0
  have d1 : decide ((n : Int) < 1) = false := decide_eq_false (by omega)
  have d2 : decide (4096 < (n : Int)) = false := decide_eq_false (by omega)
  go_enter Try.func22, Try.ntmps22
  go_wp2_with (at_make; refine wpList_make_full _ rfl _ _ 91 rfl w.heap.size 9 j0 (.string ⟨#[]⟩) 1 Try.underlying91 HI.out hy0 hy1 .i64 .i64 _ _ n rfl rfl rfl rfl (by rw [hy2]; omega) (by unfold maxLen; omega) (Nat.le_refl _) ?_; intro w1 hown hg1; rw [made_strs] at hown; have HO := Lib.hid (own_strs hown h1); have HG := Lib.hid hg1; clear hown hg1)
  obtain ⟨b, hb, hbw, hrow⟩ := HO.out
  injection hb with hb
  injection hb with hb _ _
  subst hb
  have hst0 : Hid (NMid w (w1.alloc (.cells #[.slice none 0 0, .slice (some ⟨w.heap.size, 0, none⟩) n n, .int .i64 (-1), .bool false, .int .i64 0] 93)) w1.heap.size w.heap.size n (w1.heap.size + 1) 0 (.slice none 0 0)) :=
    ⟨World.ownsRow_nil _ _ _ _, heap_alloc_new _ _, hrow.same (heap_alloc_old _ _ hrow.lt), ((Below.refl _ _).grown HG.out (Nat.le_refl _) (fun j hj => by cases hj)).alloc HG.out.size _, by simp⟩
  have hqb : w.heap.size < w1.heap.size := hrow.lt
  clear hrow hbw HO
  go_loopw [5] (fun u wr => ∃ (i : Nat) (v : Value), u = .int .i64 (i : Int) ∧ i ≤ n ∧ Hid (NMid w wr w1.heap.size w.heap.size n (w1.heap.size + 1) i v)) (fun u _ => n - (intOf u).toNat)
  case atStart => exact ⟨0, _, rfl, by omega, hst0⟩
  case round =>
    clear hst0
    generalize w1.heap.size = q at *
    obtain ⟨i, v, rfl, hin, HM⟩ := hrel
    rcases Nat.lt_or_ge i n with hlt | hge
    · obtain ⟨w2, w4, v4, hst⟩ := nst_mk HM.out hlt h2 (by omega) (by omega) (by omega) (by omega)
      obtain ⟨A4, c4, rfl⟩ := hst.form
      have hcv := hst.conv
      have hq0 := hst.q0
      have hq2 := hst.q2
      have hq3 := hst.q3
      obtain ⟨u4, hq4⟩ := hst.q4
      have hf4 := hst.f4
      have HST := Lib.hid hst
      have hii : i + 1 ≤ n := hlt
      have hdi : decide (i < n) = true := decide_eq_true hlt
      clear hst
      go_wp2_with fail
      refine wp_region_turn (X := (fun k => k = q ∨ some k = v.ownBlock)) (by kernel_rfl) ?_
      have hS : Turn (fun k => k = q ∨ some k = v.ownBlock) wr (World.drew wr) := (Turn.refl _ _).drew
      refine wpAnyH_take (i := 0) (oi := ⟨some 21, _, _, _, _, _⟩) (v := ?_) rfl (by kernel_rfl) (by kernel_rfl) (by kernel_rfl) (fun _ _ _ h => h) (Or.inl ⟨by rfl, ?_⟩) hS ?_
      rotate_left
      · intro W hW; go_simp; with_reducible rfl
      try simp only [Act.put, List.setIfInBounds_toArray, List.set_cons_zero, List.set_cons_succ]
      refine wpAnyH_take (i := 1) (oi := ⟨some 22, _, _, _, _, _⟩) (v := ?_) rfl (by kernel_rfl) (by kernel_rfl) (by kernel_rfl) (fun _ _ _ h => h) (Or.inl ⟨by rfl, ?_⟩) hS ?_
      rotate_left
      · intro W hW; go_simp; with_reducible rfl
      try simp only [Act.put, List.setIfInBounds_toArray, List.set_cons_zero, List.set_cons_succ]
      refine wpAnyH_take (i := 2) (oi := ⟨some 23, _, _, _, _, _⟩) (v := ?_) rfl (by kernel_rfl) (by kernel_rfl) (by kernel_rfl) (fun _ _ _ h => h) (Or.inl ⟨by rfl, ?_⟩) hS ?_
      rotate_left
      · intro W hW; go_simp; with_reducible rfl
      try simp only [Act.put, List.setIfInBounds_toArray, List.set_cons_zero, List.set_cons_succ]
      refine wpAnyH_take (i := 3) (oi := ⟨some 24, _, _, _, _, _⟩) (v := ?_) rfl (by kernel_rfl) (by kernel_rfl) (by kernel_rfl) (fun _ _ _ h => h) (Or.inl ⟨by rfl, ?_⟩) hS ?_
      rotate_left
      · intro W hW; go_simp; with_reducible rfl
      try simp only [Act.put, List.setIfInBounds_toArray, List.set_cons_zero, List.set_cons_succ]
      refine wpAnyH_ready (rs := [4, 5]) (by kernel_rfl) (by simp) ?_
      refine AllReadyH.cons (o := ⟨some 25, _, _, _, _, _⟩) rfl (fun Kr hKr => ?_) (AllReadyH.cons (o := ⟨some 26, _, _, _, _, _⟩) rfl (fun Kr hKr => ?_) AllReadyH.nil)
      · skip
        -- operation 4: a step
        go_simp
        show Kr _ _
        refine hKr.out _ _ ?_ (fun _ => ?_)
        · exact hS
        clear hKr Kr
        try simp only [Act.put, List.setIfInBounds_toArray, List.set_cons_zero, List.set_cons_succ]
        refine wpAnyH_ready (rs := [5]) (by kernel_rfl) (by simp) ?_
        refine AllReadyH.cons (o := ⟨some 26, _, _, _, _, _⟩) rfl (fun Kr hKr => ?_) AllReadyH.nil
        -- operation 5: a step
        rw [if_pos (by kernel_rfl)]
        refine wp_make 24 _ _ rfl rfl rfl HST.out.make ?_
        show Kr _ _
        refine hKr.out _ _ ?_ (fun _ => ?_)
        · exact Turn.trans hS HST.out.t2
        clear hKr Kr
        refine wpAnyH_turn (Turn.trans hS HST.out.t2) ?_
        clear hS
        have hS : Turn (fun k => k = q ∨ some k = v.ownBlock) w2 w2 := Turn.refl _ _
        try simp only [Act.put, List.setIfInBounds_toArray, List.set_cons_zero, List.set_cons_succ]
        refine wpAnyH_take (i := 6) (oi := ⟨some 27, _, _, _, _, _⟩) (v := ?_) rfl (by kernel_rfl) (by kernel_rfl) (by kernel_rfl) (fun _ _ _ h => h) (Or.inl ⟨by rfl, ?_⟩) hS ?_
        rotate_left
        · intro W hW; go_simp; with_reducible rfl
        try simp only [Act.put, List.setIfInBounds_toArray, List.set_cons_zero, List.set_cons_succ]
        refine wpAnyH_ready (rs := [7]) (by kernel_rfl) (by simp) ?_
        refine AllReadyH.cons (o := ⟨some 28, _, _, _, _, _⟩) rfl (fun Kr hKr => ?_) AllReadyH.nil
        -- operation 7: a step
        go_simp
        show Kr _ _
        refine hKr.out _ _ ?_ (fun _ => ?_)
        · exact Turn.trans hS ((Turn.refl (fun k => k = q ∨ some k = v.ownBlock) w2).alloc (.cells #[.string ⟨Dv.zeros.toArray⟩] 9))
        clear hKr Kr
        refine wpAnyH_turn (Turn.trans hS ((Turn.refl (fun k => k = q ∨ some k = v.ownBlock) w2).alloc (.cells #[.string ⟨Dv.zeros.toArray⟩] 9))) ?_
        clear hS
        have hS : Turn (fun k => k = q ∨ some k = v.ownBlock) (w2.alloc (.cells #[.string ⟨Dv.zeros.toArray⟩] 9)) (w2.alloc (.cells #[.string ⟨Dv.zeros.toArray⟩] 9)) := Turn.refl _ _
        try simp only [Act.put, List.setIfInBounds_toArray, List.set_cons_zero, List.set_cons_succ]
        refine wpAnyH_ready (rs := [8]) (by kernel_rfl) (by simp) ?_
        refine AllReadyH.cons (o := ⟨some 29, _, _, _, _, _⟩) rfl (fun Kr hKr => ?_) AllReadyH.nil
        -- operation 8: a step
        rw [if_pos (by kernel_rfl)]
        refine wp_append _ _ 91 rfl rfl rfl HST.out.app ?_
        show Kr _ _
        refine hKr.out _ _ ?_ (fun _ => ?_)
        · exact Turn.trans hS HST.out.t4
        clear hKr Kr
        refine wpAnyH_turn (Turn.trans hS HST.out.t4) ?_
        clear hS
        have hS : Turn (fun k => k = q ∨ some k = v.ownBlock) w4 w4 := Turn.refl _ _
        try simp only [Act.put, List.setIfInBounds_toArray, List.set_cons_zero, List.set_cons_succ]
        refine wpAnyH_take (i := 9) (oi := ⟨some 30, _, _, _, _, _⟩) (v := ?_) rfl (by kernel_rfl) (by kernel_rfl) (by kernel_rfl) (fun _ _ _ h => h) (Or.inl ⟨by rfl, ?_⟩) hS ?_
        rotate_left
        · intro W hW; go_simp; with_reducible rfl
        try simp only [Act.put, List.setIfInBounds_toArray, List.set_cons_zero, List.set_cons_succ]
        refine wpAnyH_take (i := 10) (oi := ⟨some 31, _, _, _, _, _⟩) (v := ?_) rfl (by kernel_rfl) (by kernel_rfl) (by kernel_rfl) (fun _ _ _ h => h) (Or.inl ⟨by rfl, ?_⟩) hS ?_
        rotate_left
        · intro W hW; go_simp; with_reducible rfl
        try simp only [Act.put, List.setIfInBounds_toArray, List.set_cons_zero, List.set_cons_succ]
        refine wpAnyH_ready (rs := [11]) (by kernel_rfl) (by simp) ?_
        refine AllReadyH.cons (o := ⟨none, _, _, _, _, _⟩) rfl (fun Kr hKr => ?_) AllReadyH.nil
        -- operation 11: a step
        go_simp
        show Kr _ _
        refine hKr.out _ _ ?_ (fun _ => ?_)
        · exact Turn.trans hS ((Turn.refl (fun k => k = q ∨ some k = v.ownBlock) w4).setCell ⟨q, 0, none⟩ (.slice A4 (i + 1) c4) (.inl (.inl rfl)))
        clear hKr Kr
        refine wpAnyH_turn (Turn.trans hS ((Turn.refl (fun k => k = q ∨ some k = v.ownBlock) w4).setCell ⟨q, 0, none⟩ (.slice A4 (i + 1) c4) (.inl (.inl rfl)))) ?_
        clear hS
        have hS : Turn (fun k => k = q ∨ some k = v.ownBlock) (w4.setCell ⟨q, 0, none⟩ (.slice A4 (i + 1) c4)) (w4.setCell ⟨q, 0, none⟩ (.slice A4 (i + 1) c4)) := Turn.refl _ _
        try simp only [Act.put]
        refine wpAnyH_done (by kernel_rfl) ?_ _
        go_wp2_with fail
        refine ⟨⟨i + 1, _, by go_num, hii, HST.out.next⟩, by simp [intOf]; omega⟩
      · skip
        -- operation 5: a step
        rw [if_pos (by kernel_rfl)]
        refine wp_make 24 _ _ rfl rfl rfl HST.out.make ?_
        show Kr _ _
        refine hKr.out _ _ ?_ (fun _ => ?_)
        · exact Turn.trans hS HST.out.t2
        clear hKr Kr
        refine wpAnyH_turn (Turn.trans hS HST.out.t2) ?_
        clear hS
        have hS : Turn (fun k => k = q ∨ some k = v.ownBlock) w2 w2 := Turn.refl _ _
        try simp only [Act.put, List.setIfInBounds_toArray, List.set_cons_zero, List.set_cons_succ]
        refine wpAnyH_take (i := 6) (oi := ⟨some 27, _, _, _, _, _⟩) (v := ?_) rfl (by kernel_rfl) (by kernel_rfl) (by kernel_rfl) (fun _ _ _ h => h) (Or.inl ⟨by rfl, ?_⟩) hS ?_
        rotate_left
        · intro W hW; go_simp; with_reducible rfl
        try simp only [Act.put, List.setIfInBounds_toArray, List.set_cons_zero, List.set_cons_succ]
        refine wpAnyH_ready (rs := [4, 7]) (by kernel_rfl) (by simp) ?_
        refine AllReadyH.cons (o := ⟨some 25, _, _, _, _, _⟩) rfl (fun Kr hKr => ?_) (AllReadyH.cons (o := ⟨some 28, _, _, _, _, _⟩) rfl (fun Kr hKr => ?_) AllReadyH.nil)
        · skip
          -- operation 4: a step
          go_simp
          show Kr _ _
          refine hKr.out _ _ ?_ (fun _ => ?_)
          · exact hS
          clear hKr Kr
          try simp only [Act.put, List.setIfInBounds_toArray, List.set_cons_zero, List.set_cons_succ]
          refine wpAnyH_ready (rs := [7]) (by kernel_rfl) (by simp) ?_
          refine AllReadyH.cons (o := ⟨some 28, _, _, _, _, _⟩) rfl (fun Kr hKr => ?_) AllReadyH.nil
          -- operation 7: a step
          go_simp
          show Kr _ _
          refine hKr.out _ _ ?_ (fun _ => ?_)
          · exact Turn.trans hS ((Turn.refl (fun k => k = q ∨ some k = v.ownBlock) w2).alloc (.cells #[.string ⟨Dv.zeros.toArray⟩] 9))
          clear hKr Kr
          refine wpAnyH_turn (Turn.trans hS ((Turn.refl (fun k => k = q ∨ some k = v.ownBlock) w2).alloc (.cells #[.string ⟨Dv.zeros.toArray⟩] 9))) ?_
          clear hS
          have hS : Turn (fun k => k = q ∨ some k = v.ownBlock) (w2.alloc (.cells #[.string ⟨Dv.zeros.toArray⟩] 9)) (w2.alloc (.cells #[.string ⟨Dv.zeros.toArray⟩] 9)) := Turn.refl _ _
          try simp only [Act.put, List.setIfInBounds_toArray, List.set_cons_zero, List.set_cons_succ]
          refine wpAnyH_ready (rs := [8]) (by kernel_rfl) (by simp) ?_
          refine AllReadyH.cons (o := ⟨some 29, _, _, _, _, _⟩) rfl (fun Kr hKr => ?_) AllReadyH.nil
          -- operation 8: a step
          rw [if_pos (by kernel_rfl)]
          refine wp_append _ _ 91 rfl rfl rfl HST.out.app ?_
          show Kr _ _
          refine hKr.out _ _ ?_ (fun _ => ?_)
          · exact Turn.trans hS HST.out.t4
          clear hKr Kr
          refine wpAnyH_turn (Turn.trans hS HST.out.t4) ?_
          clear hS
          have hS : Turn (fun k => k = q ∨ some k = v.ownBlock) w4 w4 := Turn.refl _ _
          try simp only [Act.put, List.setIfInBounds_toArray, List.set_cons_zero, List.set_cons_succ]
          refine wpAnyH_take (i := 9) (oi := ⟨some 30, _, _, _, _, _⟩) (v := ?_) rfl (by kernel_rfl) (by kernel_rfl) (by kernel_rfl) (fun _ _ _ h => h) (Or.inl ⟨by rfl, ?_⟩) hS ?_
          rotate_left
          · intro W hW; go_simp; with_reducible rfl
          try simp only [Act.put, List.setIfInBounds_toArray, List.set_cons_zero, List.set_cons_succ]
          refine wpAnyH_take (i := 10) (oi := ⟨some 31, _, _, _, _, _⟩) (v := ?_) rfl (by kernel_rfl) (by kernel_rfl) (by kernel_rfl) (fun _ _ _ h => h) (Or.inl ⟨by rfl, ?_⟩) hS ?_
          rotate_left
          · intro W hW; go_simp; with_reducible rfl
          try simp only [Act.put, List.setIfInBounds_toArray, List.set_cons_zero, List.set_cons_succ]
          refine wpAnyH_ready (rs := [11]) (by kernel_rfl) (by simp) ?_
          refine AllReadyH.cons (o := ⟨none, _, _, _, _, _⟩) rfl (fun Kr hKr => ?_) AllReadyH.nil
          -- operation 11: a step
          go_simp
          show Kr _ _
          refine hKr.out _ _ ?_ (fun _ => ?_)
          · exact Turn.trans hS ((Turn.refl (fun k => k = q ∨ some k = v.ownBlock) w4).setCell ⟨q, 0, none⟩ (.slice A4 (i + 1) c4) (.inl (.inl rfl)))
          clear hKr Kr
          refine wpAnyH_turn (Turn.trans hS ((Turn.refl (fun k => k = q ∨ some k = v.ownBlock) w4).setCell ⟨q, 0, none⟩ (.slice A4 (i + 1) c4) (.inl (.inl rfl)))) ?_
          clear hS
          have hS : Turn (fun k => k = q ∨ some k = v.ownBlock) (w4.setCell ⟨q, 0, none⟩ (.slice A4 (i + 1) c4)) (w4.setCell ⟨q, 0, none⟩ (.slice A4 (i + 1) c4)) := Turn.refl _ _
          try simp only [Act.put]
          refine wpAnyH_done (by kernel_rfl) ?_ _
          go_wp2_with fail
          refine ⟨⟨i + 1, _, by go_num, hii, HST.out.next⟩, by simp [intOf]; omega⟩
        · skip
          -- operation 7: a step
          go_simp
          show Kr _ _
          refine hKr.out _ _ ?_ (fun _ => ?_)
          · exact Turn.trans hS ((Turn.refl (fun k => k = q ∨ some k = v.ownBlock) w2).alloc (.cells #[.string ⟨Dv.zeros.toArray⟩] 9))
          clear hKr Kr
          refine wpAnyH_turn (Turn.trans hS ((Turn.refl (fun k => k = q ∨ some k = v.ownBlock) w2).alloc (.cells #[.string ⟨Dv.zeros.toArray⟩] 9))) ?_
          clear hS
          have hS : Turn (fun k => k = q ∨ some k = v.ownBlock) (w2.alloc (.cells #[.string ⟨Dv.zeros.toArray⟩] 9)) (w2.alloc (.cells #[.string ⟨Dv.zeros.toArray⟩] 9)) := Turn.refl _ _
          try simp only [Act.put, List.setIfInBounds_toArray, List.set_cons_zero, List.set_cons_succ]
          refine wpAnyH_ready (rs := [4]) (by kernel_rfl) (by simp) ?_
          refine AllReadyH.cons (o := ⟨some 25, _, _, _, _, _⟩) rfl (fun Kr hKr => ?_) AllReadyH.nil
          -- operation 4: a step
          go_simp
          show Kr _ _
          refine hKr.out _ _ ?_ (fun _ => ?_)
          · exact hS
          clear hKr Kr
          try simp only [Act.put, List.setIfInBounds_toArray, List.set_cons_zero, List.set_cons_succ]
          refine wpAnyH_ready (rs := [8]) (by kernel_rfl) (by simp) ?_
          refine AllReadyH.cons (o := ⟨some 29, _, _, _, _, _⟩) rfl (fun Kr hKr => ?_) AllReadyH.nil
          -- operation 8: a step
          rw [if_pos (by kernel_rfl)]
          refine wp_append _ _ 91 rfl rfl rfl HST.out.app ?_
          show Kr _ _
          refine hKr.out _ _ ?_ (fun _ => ?_)
          · exact Turn.trans hS HST.out.t4
          clear hKr Kr
          refine wpAnyH_turn (Turn.trans hS HST.out.t4) ?_
          clear hS
          have hS : Turn (fun k => k = q ∨ some k = v.ownBlock) w4 w4 := Turn.refl _ _
          try simp only [Act.put, List.setIfInBounds_toArray, List.set_cons_zero, List.set_cons_succ]
          refine wpAnyH_take (i := 9) (oi := ⟨some 30, _, _, _, _, _⟩) (v := ?_) rfl (by kernel_rfl) (by kernel_rfl) (by kernel_rfl) (fun _ _ _ h => h) (Or.inl ⟨by rfl, ?_⟩) hS ?_
          rotate_left
          · intro W hW; go_simp; with_reducible rfl
          try simp only [Act.put, List.setIfInBounds_toArray, List.set_cons_zero, List.set_cons_succ]
          refine wpAnyH_take (i := 10) (oi := ⟨some 31, _, _, _, _, _⟩) (v := ?_) rfl (by kernel_rfl) (by kernel_rfl) (by kernel_rfl) (fun _ _ _ h => h) (Or.inl ⟨by rfl, ?_⟩) hS ?_
          rotate_left
          · intro W hW; go_simp; with_reducible rfl
          try simp only [Act.put, List.setIfInBounds_toArray, List.set_cons_zero, List.set_cons_succ]
          refine wpAnyH_ready (rs := [11]) (by kernel_rfl) (by simp) ?_
          refine AllReadyH.cons (o := ⟨none, _, _, _, _, _⟩) rfl (fun Kr hKr => ?_) AllReadyH.nil
          -- operation 11: a step
          go_simp
          show Kr _ _
          refine hKr.out _ _ ?_ (fun _ => ?_)
          · exact Turn.trans hS ((Turn.refl (fun k => k = q ∨ some k = v.ownBlock) w4).setCell ⟨q, 0, none⟩ (.slice A4 (i + 1) c4) (.inl (.inl rfl)))
          clear hKr Kr
          refine wpAnyH_turn (Turn.trans hS ((Turn.refl (fun k => k = q ∨ some k = v.ownBlock) w4).setCell ⟨q, 0, none⟩ (.slice A4 (i + 1) c4) (.inl (.inl rfl)))) ?_
          clear hS
          have hS : Turn (fun k => k = q ∨ some k = v.ownBlock) (w4.setCell ⟨q, 0, none⟩ (.slice A4 (i + 1) c4)) (w4.setCell ⟨q, 0, none⟩ (.slice A4 (i + 1) c4)) := Turn.refl _ _
          try simp only [Act.put]
          refine wpAnyH_done (by kernel_rfl) ?_ _
          go_wp2_with fail
          refine ⟨⟨i + 1, _, by go_num, hii, HST.out.next⟩, by simp [intOf]; omega⟩
    · obtain rfl : i = n := by omega
      have hdi : decide (i < i) = false := decide_eq_false (by omega)
      go_wp2_with fail
      go_ret2
      have hr := HM.out
      have hrow := hr.row
      rcases hrow.2 with ⟨hv, h0⟩ | ⟨g, cap, cur, hv, hg, _⟩
      · omega
      · subst hv
        obtain ⟨g', e, hg', hsr⟩ := own_strs hrow h1
        injection e with e
        injection e with e _ _
        subst e
        refine ⟨q, g, w.heap.size, cap, rfl, ⟨Dv.ok_fresh h1 h2, ⟨by omega, by omega, by omega⟩, hr.own, hsr, hr.late⟩, hr.bel, by omega, by omega, Nat.le_refl _⟩

end Go.Proofs.Ytojidejlohpeaaa
