/-
  The document's device: Read, and what is cached.
-/
import Derived.Test.YtaidjnpbjoncoaaRefMem
import Derived.Laws.IdiomStrings
namespace Go.Proofs.Ytaidjnpbjoncoaa
open Go.RowKit

/-- '[]byte(s)' -/
theorem conv_back (w : World) (s : List UInt8) : ∃ C W1, (convert 9 32 (.string ⟨s.toArray⟩)).run Try.prog w = .ok (.slice (some ⟨w.heap.size, 0, none⟩) s.length C) W1 ∧ Rd W1 W1.heap.size (some ⟨w.heap.size, 0, none⟩) s ∧ Below w.heap.size w W1 := by
  have h := run_bytes_of_string (P := Try.prog) w 9 32 5 ⟨s.toArray⟩ Try.underlying9 Try.underlying32 Try.underlying5
  refine ⟨_, _, h, ?_, (Below.refl _ _).drew.alloc (Nat.le_refl _) _⟩
  refine .inr ⟨_, 0, rfl, by simp, fun j x hx => ?_⟩
  have hj := (List.getElem?_eq_some_iff.1 hx).1
  rw [Nat.zero_add]
  refine (cell_of_row _ w.heap.size j _ _ _ (heap_alloc_new w.drew _)).trans ?_
  rw [bytesRow_at _ _ _ (by simpa using hj)]
  have : s.toArray[j]'(by simpa using hj) = x := by simpa [List.getElem?_eq_getElem hj] using hx
  rw [show (⟨s.toArray⟩ : ByteArray).data[j] = x from this]
  rfl

/-- a read has answered l and er -/
def RRead (w : World) (l : List UInt8) (er : Int) (e : Ending) (w' : World) : Prop :=
  ∃ A n c, e = .returned (.tuple #[.slice A n c, .int .i64 er]) ∧ l.length = n ∧ Rd w' w'.heap.size A l ∧ Below w.heap.size w w'

set_option maxRecDepth 100000 in
set_option maxHeartbeats 1000000 in
theorem refread_any {w : World} {q a b c : Nat} {D : Dv} (h : IsRef w q a b c D) (at_ : Int) : Calls Try.prog 22 #[ptr q, .int .i64 at_] w (RRead w (D.read at_) (D.readE at_)) := by
  have c0 := h.c0
  have c1 := h.c1
  have c3 := h.c3
  unfold Dv.read Dv.readE
  cases hgone : D.gone
  · rw [hgone] at c3
    rw [if_neg Bool.false_ne_true, if_neg Bool.false_ne_true]
    by_cases hat : D.has at_ = true
    · rw [if_pos hat, if_pos hat]
      obtain ⟨hlt, h0, hi⟩ := Dv.has_lt hat
      generalize at_.toNat = i at *
      subst hi
      have hlc := h.late.cell hlt
      have hac := h.laid.cell hlt
      have htop := h.ok.top
      have hsec := h.ok.sector hlt
      cases hl : D.late i with
      | none =>
        rw [hl] at hlc hsec
        replace hlc : w.cell? ⟨b, i, none⟩ = some (.string ⟨#[]⟩) := hlc
        have hsec' : (D.laid i).length = 64 := hsec
        have HS := Lib.hid hsec'
        have d1 : decide ((i : Int) < 0) = false := decide_eq_false (by omega)
        have d2 : decide (D.n ≤ i) = false := decide_eq_false (by omega)
        clear hsec'
        obtain ⟨C, W1, hconv, hrd, hbl⟩ := conv_back w (D.laid i)
        have HRD := Lib.hid hrd
        have HBL := Lib.hid hbl
        clear hrd hbl
        replace hac : w.cell? ⟨a, i, none⟩ = some (.string ⟨(D.laid i).toArray⟩) := hac
        clear h hat hgone hsec hl
        generalize D.laid i = s at *
        generalize D.n = n at *
        go_enter Try.func22, Try.ntmps22
        go_wp2_with fail
        go_ret2
        exact ⟨_, _, _, rfl, rfl, HRD.out, HBL.out⟩
      | some s =>
        rw [hl] at hlc hsec
        replace hlc : w.cell? ⟨b, i, none⟩ = some (.string ⟨s.toArray⟩) := hlc
        have hsec' : s.length = 64 := hsec
        have HS := Lib.hid hsec'
        have d1 : decide ((i : Int) < 0) = false := decide_eq_false (by omega)
        have d2 : decide (D.n ≤ i) = false := decide_eq_false (by omega)
        have hse : s.isEmpty = false := by cases s; cases hsec'; rfl
        obtain ⟨C, W1, hconv, hrd, hbl⟩ := conv_back w s
        have HRD := Lib.hid hrd
        have HBL := Lib.hid hbl
        clear h hat hgone hsec hl hac hsec' hrd hbl
        generalize D.n = n at *
        go_enter Try.func22, Try.ntmps22
        go_wp2_with fail
        go_ret2
        exact ⟨_, _, _, rfl, rfl, HRD.out, HBL.out⟩
    · rw [if_neg hat, if_neg hat]
      rcases (show at_ < 0 ∨ (0 ≤ at_ ∧ (D.n : Int) ≤ at_) from by
        by_cases h1 : at_ < 0
        · exact .inl h1
        · refine .inr ⟨by omega, ?_⟩
          rcases Int.lt_or_le at_ (D.n : Int) with h2 | h2
          · exact absurd (by unfold Dv.has; rw [decide_eq_true (show 0 ≤ at_ by omega), decide_eq_true h2]; rfl) hat
          · exact h2) with h1 | ⟨h1, h2⟩
      · have d1 : decide (at_ < 0) = true := decide_eq_true h1
        clear h hat hgone
        generalize D.n = n at *
        go_enter Try.func22, Try.ntmps22
        go_wp2_with fail
        go_ret2
        exact ⟨_, _, _, rfl, rfl, .nil _ _ _, Below.refl _ _⟩
      · have d1 : decide (at_ < 0) = false := decide_eq_false (by omega)
        have d2 : decide ((D.n : Int) ≤ at_) = true := decide_eq_true h2
        clear h hat hgone
        generalize D.n = n at *
        go_enter Try.func22, Try.ntmps22
        go_wp2_with fail
        go_ret2
        exact ⟨_, _, _, rfl, rfl, .nil _ _ _, Below.refl _ _⟩
  · rw [hgone] at c3
    rw [if_pos rfl, if_pos rfl]
    clear h
    go_enter Try.func22, Try.ntmps22
    go_wp2_with fail
    go_ret2
    exact ⟨_, _, _, rfl, rfl, .nil _ _ _, Below.refl _ _⟩

/-- what is cached below i -/
def keysTo (D : Dv) (i : Nat) : List Nat := (List.range i).filter fun i => (D.late i).isSome
theorem keysTo_succ (D : Dv) (i : Nat) : keysTo D (i + 1) = if (D.late i).isSome then keysTo D i ++ [i] else keysTo D i := by
  unfold keysTo
  rw [List.range_succ, List.filter_append]
  cases h : (D.late i).isSome <;> simp [h]
theorem keysTo_le (D : Dv) (i : Nat) : (keysTo D i).length ≤ i := by
  have := List.length_filter_le (fun i => (D.late i).isSome) (List.range i)
  simpa [keysTo] using this

set_option maxRecDepth 100000 in
set_option maxHeartbeats 1000000 in
theorem refcached_any {w : World} {q a b c : Nat} {D : Dv} (h : IsRef w q a b c D) : Calls Try.prog 27 #[ptr q] w (Listed w D.keys) := by
  obtain ⟨i0, hi, hz0, hz1, hz2⟩ := info_parts int_facts
  have H := Lib.hid h
  have c1 := h.c1
  have htop := h.ok.top
  have hqb := h.lt
  obtain ⟨n, hn⟩ : ∃ n, D.n = n := ⟨_, rfl⟩
  rw [hn] at c1 htop
  have HNN := Lib.hid hn
  have HLT := Lib.hid hqb
  clear h hn hqb
  go_enter Try.func27, Try.ntmps27
  go_wp2_with fail
  go_loopw [3, 4] (fun v u wr => ∃ (i : Nat), u = .int .i64 (i : Int) ∧ i ≤ n ∧ Hid (wr.ownsRow w.heap.size 3 1 v (keysTo D i).length (natV (keysTo D i))) ∧ Hid (Below w.heap.size w wr)) (fun _ u _ => n - (intOf u).toNat)
  case atStart => exact ⟨0, rfl, by omega, World.ownsRow_nil _ _ _ _, Below.refl _ _⟩
  case round =>
    obtain ⟨i, rfl, hin, hrow, hnx⟩ := hrel
    have d1 := (hnx.out.cell (p := ⟨q, 1, none⟩) HLT.out.1).trans c1
    rcases Nat.lt_or_ge i n with hlt | hge
    · have hlc := (hnx.out.cell (p := ⟨b, i, none⟩) HLT.out.2.2).trans (H.out.late.cell (by rw [HNN.out]; exact hlt))
      have hks := keysTo_succ D i
      have hle := keysTo_le D i
      have hdi : decide ((i : Int) < (n : Int)) = true := decide_eq_true (by omega)
      cases hl : D.late i with
      | none =>
        rw [hl] at hlc hks
        rw [if_neg (by simp)] at hks
        replace hlc : wr.cell? ⟨b, i, none⟩ = some (.string ⟨#[]⟩) := hlc
        have HKS := Lib.hid hks
        clear hks hl hle
        go_wp2_with fail
        refine ⟨⟨i + 1, by go_num, by omega, by rw [HKS.out]; exact hrow, hnx⟩, by simp [intOf]; omega⟩
      | some s =>
        rw [hl] at hlc hks
        rw [if_pos (show (some s).isSome = true from rfl)] at hks
        have h64 := H.out.ok.late i s hl
        replace hlc : wr.cell? ⟨b, i, none⟩ = some (.string ⟨s.toArray⟩) := hlc
        have hse : s.isEmpty = false := by cases s; cases h64; rfl
        have HKS := Lib.hid hks
        obtain ⟨kl, hkl⟩ : ∃ kl, (keysTo D i).length = kl := ⟨_, rfl⟩
        have hrow2 := hrow.out
        rw [hkl] at hrow2 hle
        have HKL := Lib.hid hkl
        have hbl2 : w.heap.size ≤ wr.heap.size := hnx.out.size
        clear hks hl h64 hkl hrow
        go_wp2_with (at_builtin; refine wpList_append_own _ rfl _ _ 47 rfl w.heap.size 3 i0 (.int .i64 0) 1 8 Try.underlying47 hi hz0 hz1 hz2 rfl (by decide) _ _ _ rfl (hrow2.alloc _) ⟨wr.heap.size, 0, none⟩ 1 1 [.int .i64 (i : Int)] rfl rfl (cell_one_new _ _ _) (ints_oneCell .i64 [(i : Int)]) (by unfold maxLen; omega) (by omega) (by simp; omega) ?_; intro v' w3 hown' hg3 hnil3; go_frame; have HOWN := Lib.hid hown'; have HG3 := Lib.hid hg3; clear hown' hg3 hnil3)
        refine ⟨⟨i + 1, by go_num, by omega, ?_, ?_⟩, by simp [intOf]; omega⟩
        · show w3.ownsRow _ _ _ _ (keysTo D (i + 1)).length (natV (keysTo D (i + 1)))
          rw [HKS.out, List.length_append, List.length_singleton, HKL.out, show natV (keysTo D i ++ [i]) = natV (keysTo D i) ++ [Value.int .i64 (i : Int)] from by simp [natV]]
          exact HOWN.out
        · exact (hnx.out.alloc hbl2 _).grown HG3.out (by simp; omega) (fun j hj => (hrow2.lt j hj).1)
    · obtain rfl : i = n := by omega
      have hdi : decide ((i : Int) < (i : Int)) = false := decide_eq_false (by omega)
      go_wp2_with fail
      go_ret
      have hk : keysTo D i = D.keys := by rw [← HNN.out]; rfl
      have hrow2 := hrow.out
      rw [hk] at hrow2
      have hlen := hrow2.1
      rcases hrow2.2 with ⟨hv, h0⟩ | ⟨g, cap, cur, hv, _⟩
      · exact ⟨none, 0, 0, by rw [← hv]; rfl, h0.symm, by rw [h0, hv] at hrow2; exact hrow2, hnx.out⟩
      · exact ⟨_, _, cap, by rw [← hv]; rfl, rfl, by rw [hv] at hrow2; exact hrow2, hnx.out⟩

end Go.Proofs.Ytaidjnpbjoncoaa
