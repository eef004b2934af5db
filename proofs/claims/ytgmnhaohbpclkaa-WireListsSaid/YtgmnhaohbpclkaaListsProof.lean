/-
  WireLists: the statement, out of its walk: for every input the law returns true, and each argument reads as it read.
-/
import Derived.Test.YtgmnhaohbpclkaaListsWalk
import Derived.Test.YtgmnhaohbpclkaaRow
import Derived.Deep.Slices
namespace Go.Proofs.Ytgmnhaohbpclkaa.wireLists
open Go.ChangeShapes Go.WideShapes Go.ChangeAt Go.RowKit
set_option linter.unusedVariables false

theorem cells_sl : Try.prog.cellsOf 22 = 1 := by kernel_rfl

theorem add_none (b o i : Nat) : (⟨b, o, none⟩ : Addr).add i = ⟨b, o + i, none⟩ := by
  unfold Addr.add
  split
  · next h => subst h; rfl
  · rfl

/-- one slice of bytes, as it is read -/
theorem sl_of_trod {H : Type} {enc : TypeId × Value → H} {W : World} {spare : Nat → Bool} {held : Bool} {n : Nat} {v : Value} {y : DataW H × List MemPlace} (h : DataW.trod enc Try.prog W 0 spare held n 22 [v] = some y) :
    ∃ (A : Option Addr) (N C : Nat) (X : List UInt8), v = .slice A N C ∧ X.length = N ∧ N ≤ 9223372036854775807 ∧ Rd W W.heap.size A X := by
  rcases open_ints Try.underlying22 Try.underlying5 cells_u8 h with ⟨hcs, _⟩ | ⟨x, n, c, zs, hcs, _, hl, hm, hz, _, hcell, hwz⟩
  · simp at hcs
    exact ⟨none, 0, 0, [], hcs, rfl, by omega, .nil _ _ _⟩
  · simp at hcs
    have hlen : n ≤ zs.length := by rw [hz]; split <;> omega
    obtain ⟨l, hl1, hl2⟩ := bytes_of_wf zs hwz
    refine ⟨some x, n, c, l.take n, hcs, by rw [List.length_take]; omega, by unfold maxLen at hm; omega, cells_bytes fun i y hy => ?_⟩
    rw [List.getElem?_take] at hy
    split at hy
    · rw [hcell i (by omega), hl2 i y hy]; rfl
    · cases hy

/-- slices of bytes that came in -/
theorem open_ls {H : Type} {enc : TypeId × Value → H} {W : World} {spare : Nat → Bool} {held : Bool} {ts : List TypeId} {ds : List (DataW H)} {d : DataW H} {p : List MemPlace} {a : Option Addr} {len cap : Nat}
    (h : DataW.Trod enc Try.prog W 0 spare held 52 (.slice a len cap) d p) (_ : (DataW.weightsEach Try.prog ts ds).all (· ≤ reachBytes) = true) {j : Nat} (_ : ts[j]? = some 52) (_ : ds[j]? = some d) :
    ∃ X : Nat → List UInt8, Ls W a len X := by
  obtain ⟨fuel, hf⟩ := h
  rcases Go.Deep.open_slice1 Try.underlying52 cells_sl hf with ⟨hcs, _⟩ | ⟨x, n, c, m, k, V, D, Pl, hcs, _, hl, hm, hmm, _, hi⟩
  · simp [Value.cells] at hcs
    obtain ⟨rfl, rfl, rfl⟩ := hcs
    exact ⟨fun _ => [], .inl rfl⟩
  · simp [Value.cells] at hcs
    obtain ⟨rfl, rfl, rfl⟩ := hcs
    have hlm : len ≤ m := by rw [hmm]; split <;> omega
    have hX : ∀ i, ∃ X : List UInt8, i < len → ∃ A N C, V i = .slice A N C ∧ X.length = N ∧ N ≤ 9223372036854775807 ∧ Rd W W.heap.size A X := fun i => by
      by_cases hil : i < len
      · obtain ⟨A, N, C, X, h1, h2, h3, h4⟩ := sl_of_trod (hi i (by omega)).2
        exact ⟨X, fun _ => ⟨A, N, C, h1, h2, h3, h4⟩⟩
      · exact ⟨[], fun h => absurd h hil⟩
    refine ⟨fun i => (hX i).choose, ?_⟩
    rcases Nat.eq_zero_or_pos len with h0 | h0
    · exact .inl h0
    · have hc0 := (hi 0 (by omega)).1
      have hs : x.spot = none := by simpa [Addr.add] using World.cell?_spot hc0
      have hb : x.block < W.heap.size := by simpa [Addr.add] using block_lt_of_cell hc0
      obtain ⟨b, o, s⟩ := x
      simp only at hs
      subst hs
      refine .inr ⟨b, o, rfl, hb, fun i hil => ?_⟩
      obtain ⟨A, N, C, h1, h2, h3, h4⟩ := (hX i).choose_spec hil
      have g0 := (hi i (by omega)).1
      rw [add_none, h1] at g0
      exact ⟨A, N, C, g0, h2, h3, h4⟩

set_option maxRecDepth 100000 in
theorem lifted (os : Os) (started : os.Started) (H : Type) (enc : TypeId × Value → H) :
    ReturnsInHanded {} Try.checked os 8 .any (Rows.wireListsSpec.pre6 enc Try.prog Try.f8 Rows.wireListsRow.domain false) (Rows.wireListsSpec.post enc Try.prog Try.f8 false true false false) := by
  refine returnsInHanded_of_change_sized (C := Try.checked) rowOwn started (by kernel_rfl) Try.func8
    (ChangeSpec.witness6 (enc := enc) (C := Try.checked) false ⟨#[], #[.slice none 0 0, .int .i64 0], []⟩ 8 (by kernel_rfl) (by kernel_rfl) (by kernel_rfl) (by kernel_rfl)) ?_
  intro W base args ds gs before hval0 hW _ hsz0 _
  have hval : ∀ (j : Nat) t v, Try.f8.params[j]? = some t → args[j]? = some v → Value.okWide Try.prog W .any base t v := hval0
  have hsz : (DataW.weightsEach Try.prog (Try.f8.params.toList ++ Rows.wireListsSpec.plain.varTypes Try.prog) (ds ++ gs)).all (· ≤ reachBytes) = true := hsz0
  clear hsz0
  have hW' := hW
  obtain ⟨p, q, hA0, hV, rfl, hfz, hnd⟩ := hW
  have hA : DataW.TrodAll enc Try.prog W 0 (fun _ => true) true Try.f8.params.toList args.toList ds p := hA0
  rw [Try.params8] at hA hval hsz
  obtain ⟨v0, vs0, d0, ds0, p0, q0, hargs, rfl, rfl, h0, r0⟩ := trodAll_cons hA
  obtain ⟨v1, vs1, d1, ds1, p1, q1, rfl, rfl, rfl, h1, r1⟩ := trodAll_cons r0
  obtain ⟨rfl, rfl, rfl⟩ := trodAll_nil r1
  obtain rfl : args = #[v0, v1] := by cases args; simp_all
  obtain ⟨rfl, rfl⟩ := trodVars_none hV
  obtain ⟨a0, len0, cap0, rfl⟩ := okWide_slice Try.underlying52 (hval 0 52 v0 rfl rfl)
  have k0 := h0
  have lt0 : ∀ x ∈ p0, x.block < W.heap.size := by obtain ⟨m, hm⟩ := k0; exact DataW.trod_lt m _ _ _ hm
  obtain ⟨l0, b0⟩ := open_ls h0 hsz (j := 0) rfl rfl
  obtain ⟨a1, rfl, rfl, rfl, w1⟩ := open_int Try.underlying3 (hval 1 3 v1 rfl rfl) h1
  clear hA0 hval0
  refine (lists_walk a0 len0 cap0 l0 a1 W b0).mono fun e W' ⟨he, bel⟩ => ?_
  subst he
  exact ⟨_, rfl, _, _, _, [], _, [], hW', trodAll_mk1 (shut_bool Try.underlying4 _), (trodAll_cons_mk (Below.trod rowLaidOut (by kernel_rfl) (of_decide_eq_true (by kernel_rfl)) k0 bel lt0) (trodAll_cons_mk (shut_int Try.underlying3 w1) trodAll_mk0)), rfl, bel.frame _, fun h => by cases h⟩

theorem over : Rows.wireListsRow.holds Try.pinned (OpenSpec.ofChange Rows.wireListsSpec) :=
  OpenClaim.holds_of_wide 8 Try.f8 rfl rfl rfl rfl rfl rfl rfl ⟨rfl, rfl, rfl, rfl, rfl⟩ rfl rfl rfl rfl rfl (by kernel_rfl) Try.func8 (by kernel_rfl)
    (of_decide_eq_true (by kernel_rfl)) (by unfold Func.isWrapper; first | (rw [if_pos (by decide +kernel)]; kernel_rfl) | (rw [if_neg (by decide +kernel)]; exact ⟨rfl, rfl⟩))
    (fun os started H enc _ => lifted os started H enc)

/-- the statement -/
theorem proved : Rows.WireListsSaid := over
#print axioms proved
end Go.Proofs.Ytgmnhaohbpclkaa.wireLists
