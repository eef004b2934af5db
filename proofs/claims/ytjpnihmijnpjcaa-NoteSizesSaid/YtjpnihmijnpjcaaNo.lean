/-
  A note that came in by value: how a statement's argument is opened to it.
-/
import Derived.Test.YtjpnihmijnpjcaaRow
import Derived.Test.YtjpnihmijnpjcaaNw
import Derived.Deep.Slices
namespace Go.Proofs.Ytjpnihmijnpjcaa
set_option maxRecDepth 100000
set_option linter.unusedVariables false
open Go.RowKit Wm Nn
theorem cells_int : Try.prog.cellsOf 3 = 1 := by kernel_rfl
theorem cells_bs : Try.prog.cellsOf 26 = 1 := by kernel_rfl
theorem cells_img : Try.prog.cellsOf 51 = 2 := by kernel_rfl
theorem cells_aop : Try.prog.cellsOf 53 = 2 := by kernel_rfl
theorem cells_imgs : Try.prog.cellsOf 22 = 1 := by kernel_rfl
theorem cells_aops : Try.prog.cellsOf 23 = 1 := by kernel_rfl
theorem cells_note : Try.prog.cellsOf 25 = 4 := by kernel_rfl
theorem img_fields : ∃ f0 f1 : Field, Try.prog.underlying 51 = some (.struct #[f0, f1]) ∧ (f0.offset = 0 ∧ f1.offset = 1) ∧ f0.type = 3 ∧ f1.type = 26 := ⟨_, _, Try.underlying51, ⟨rfl, rfl⟩, rfl, rfl⟩
theorem aop_fields : ∃ f0 f1 : Field, Try.prog.underlying 53 = some (.struct #[f0, f1]) ∧ (f0.offset = 0 ∧ f1.offset = 1) ∧ f0.type = 3 ∧ f1.type = 3 := ⟨_, _, Try.underlying53, ⟨rfl, rfl⟩, rfl, rfl⟩
theorem note_fields : ∃ f0 f1 f2 f3 : Field, Try.prog.underlying 25 = some (.struct #[f0, f1, f2, f3]) ∧ (f0.offset = 0 ∧ f1.offset = 1 ∧ f2.offset = 2 ∧ f3.offset = 3) ∧ (f0.type = 3 ∧ f1.type = 3 ∧ f2.type = 22 ∧ f3.type = 23) :=
  ⟨_, _, _, _, Try.underlying25, ⟨rfl, rfl, rfl, rfl⟩, rfl, rfl, rfl, rfl⟩

section
open Go.ChangeShapes Go.WideShapes Go.ChangeAt
variable {H : Type} {enc : TypeId × Value → H} {W : World} {spare : Nat → Bool} {held : Bool}
theorem lies_of_trod {n : Nat} {v : Value} {y : DataW H × List MemPlace} (h : DataW.trod enc Try.prog W 0 spare held n 26 [v] = some y) : ∃ (A : Option Addr) (N C : Nat) (X : List UInt8), v = .slice A N C ∧ Lies W A C N X := by
  rcases open_ints Try.underlying26 Try.underlying5 cells_u8 h with ⟨hcs, _⟩ | ⟨x, n, c, zs, hcs, _, hl, hm, hz, _, hcell, hwz⟩
  · simp at hcs
    exact ⟨none, 0, 0, [], hcs, .nil _ _ _, rfl, Nat.le_refl _⟩
  · simp at hcs
    have hlen : n ≤ zs.length := by rw [hz]; split <;> omega
    obtain ⟨l, hl1, hl2⟩ := bytes_of_wf zs hwz
    refine ⟨some x, n, c, l.take n, hcs, cells_bytes fun i y hy => ?_, by rw [List.length_take]; omega, by omega⟩
    rw [List.getElem?_take] at hy
    split at hy
    · rw [hcell i (by omega), hl2 i y hy]; rfl
    · cases hy
theorem wf_okI {n : Int} (h : (Lit.int .i64 n).wf = true) : okI n := bounds_i64 h
theorem Rk.At.mk {α : Type} {R : Rk α} (hR : R.Ok) {l : List α} {b o : Nat} (hb : b < W.heap.size) (h : ∀ (i : Nat) (x : α), l[i]? = some x → ∀ (k : Nat) u, (R.enc x)[k]? = some u → W.cell? ⟨b, o + i * R.m + k, none⟩ = some u) : R.At W (some ⟨b, o, none⟩) l := by
  refine .inr ⟨b, o, rfl, hb, fun j u hu => ?_⟩
  have hpos := hR.pos
  have hj : j < l.length * R.m := by rw [← hR.length]; exact (List.getElem?_eq_some_iff.1 hu).1
  have hi : j / R.m < l.length := Nat.div_lt_of_lt_mul (by rw [Nat.mul_comm]; exact hj)
  have hx : l[j / R.m]? = some (l[j / R.m]'hi) := List.getElem?_eq_getElem hi
  have hk : j % R.m < R.m := Nat.mod_lt _ hpos
  have e : j / R.m * R.m + j % R.m = j := by rw [Nat.mul_comm]; exact Nat.div_add_mod _ _
  have h2 := hR.at l (j / R.m) _ (j % R.m) hx hk
  rw [e, hu] at h2
  have h3 := h (j / R.m) _ hx (j % R.m) u h2.symm
  rw [Nat.add_assoc, e] at h3
  exact h3
theorem ims_of_trod {n : Nat} {v : Value} {y : DataW H × List MemPlace} (h : DataW.trod enc Try.prog W 0 spare held n 22 [v] = some y) (hfm : ∀ A N C, v = .slice A N C → A = none ∨ ∃ b o, A = some ⟨b, o, none⟩) : ∃ (A : Option Addr) (N C : Nat) (l : List Im) (rs : List Ir), v = .slice A N C ∧ ImAt W A N C l rs := by
  obtain ⟨f0, f1, hu, ⟨o0, o1⟩, t0, t1⟩ := img_fields
  rcases Go.Deep.open_slice Try.underlying22 h with ⟨hcs, _⟩ | ⟨x, n, c, m, k, D, Pl, hcs, _, hl, hm, hmm, _, hi⟩
  · simp at hcs
    exact ⟨none, 0, 0, [], [], hcs, .inl rfl, rfl, rfl, Nat.le_refl _, .inl rfl, fun i r x hr => by simp at hr⟩
  · simp at hcs
    have hlm : n ≤ m := by rw [hmm]; split <;> omega
    have each : ∀ i, ∃ q : Ir × Im, i < n → (W.cell? (x.add (i * 2)) = some (.int .i64 q.1.k) ∧ W.cell? (x.add (i * 2 + 1)) = some (.slice q.1.a q.1.n q.1.c) ∧ q.1.k = q.2.k ∧ Lies W q.1.a q.1.c q.1.n q.2.d ∧ okI q.2.k) := fun i => by
      by_cases hil : i < n
      · obtain ⟨cs', h1, h2⟩ := hi i (by omega)
        rw [cells_img] at h1
        obtain ⟨_, hlen, hcell⟩ := World.cells?_some h1
        obtain ⟨xs, k', _, _, _, hxl, hf⟩ := DataW.trod_struct hu h2
        match xs, hxl, cs', hlen with
        | [y0, y1], _, [v0, v1], _ =>
          have g0 := hf 0 f0 rfl
          have g1 := hf 1 f1 rfl
          simp [o0, o1, t0, t1, cells_int, cells_bs] at g0 g1
          have e0 := hcell 0 (by omega)
          have e1 := hcell 1 (by omega)
          rw [Go.Deep.add_add] at e0 e1
          obtain ⟨z0, w0, _, hz0⟩ := DataW.trod_int Try.underlying3 g0
          obtain ⟨A, N, C, X, w1, hX⟩ := lies_of_trod g1
          simp at w0
          subst w0 w1
          exact ⟨⟨⟨z0, A, N, C⟩, ⟨z0, X⟩⟩, fun _ => ⟨by simpa using e0, by simpa using e1, rfl, hX, wf_okI hz0⟩⟩
      · exact ⟨⟨⟨0, none, 0, 0⟩, ⟨0, []⟩⟩, fun h => absurd h hil⟩
    obtain ⟨q, hq⟩ := Classical.skolem.1 each
    obtain ⟨b, o, hx⟩ : ∃ b o, x = ⟨b, o, none⟩ := by
      rcases hfm _ _ _ hcs with h | ⟨b, o, h⟩
      · cases h
      · injection h with h; exact ⟨b, o, h⟩
    subst hx
    refine ⟨_, n, c, (List.range n).map (fun i => (q i).2), (List.range n).map (fun i => (q i).1), hcs, ?_, by simp, by simp, hl, .inr ⟨b, o, rfl⟩, fun i r z hr hz => ?_⟩
    · rcases Nat.eq_zero_or_pos n with h0 | h0
      · subst h0; exact .inl rfl
      · have hb : b < W.heap.size := by simpa [Addr.add] using block_lt_of_cell (hq 0 h0).1
        refine Rk.At.mk ri_ok hb fun i r hr k u hu => ?_
        rw [List.getElem?_map] at hr
        have hin : i < n := by
          rcases Nat.lt_or_ge i n with h | h
          · exact h
          · rw [List.getElem?_eq_none (by simpa using h)] at hr; cases hr
        rw [List.getElem?_range hin] at hr
        injection hr with hr
        subst hr
        obtain ⟨c0, c1, _⟩ := hq i hin
        simp only [addr_add, ← Nat.add_assoc] at c0 c1
        have hk : k < 2 := by have := (List.getElem?_eq_some_iff.1 hu).1; simpa [RI] using this
        show W.cell? ⟨b, o + i * 2 + k, none⟩ = some u
        match k, hk with
        | 0, _ => simp [RI] at hu; rw [← hu]; exact c0
        | 1, _ => simp [RI] at hu; rw [← hu]; exact c1
    · rw [List.getElem?_map] at hr hz
      have hin : i < n := by
        rcases Nat.lt_or_ge i n with h | h
        · exact h
        · rw [List.getElem?_eq_none (by simpa using h)] at hr; cases hr
      rw [List.getElem?_range hin] at hr hz
      injection hr with hr
      injection hz with hz
      subst hr hz
      exact (hq i hin).2.2
theorem ops_of_trod {n : Nat} {v : Value} {y : DataW H × List MemPlace} (h : DataW.trod enc Try.prog W 0 spare held n 23 [v] = some y) (hfm : ∀ A N C, v = .slice A N C → A = none ∨ ∃ b o, A = some ⟨b, o, none⟩) : ∃ (A : Option Addr) (N C : Nat) (l : List Od), v = .slice A N C ∧ OpAt W A N C l := by
  obtain ⟨f0, f1, hu, ⟨o0, o1⟩, t0, t1⟩ := aop_fields
  rcases Go.Deep.open_slice Try.underlying23 h with ⟨hcs, _⟩ | ⟨x, n, c, m, k, D, Pl, hcs, _, hl, hm, hmm, _, hi⟩
  · simp at hcs
    exact ⟨none, 0, 0, [], hcs, .inl rfl, rfl, Nat.le_refl _, .inl rfl, fun i x hr => by simp at hr⟩
  · simp at hcs
    have hlm : n ≤ m := by rw [hmm]; split <;> omega
    have each : ∀ i, ∃ q : Od, i < n → (W.cell? (x.add (i * 2)) = some (.int .i64 q.c) ∧ W.cell? (x.add (i * 2 + 1)) = some (.int .i64 q.b) ∧ okI q.c ∧ okI q.b) := fun i => by
      by_cases hil : i < n
      · obtain ⟨cs', h1, h2⟩ := hi i (by omega)
        rw [cells_aop] at h1
        obtain ⟨_, hlen, hcell⟩ := World.cells?_some h1
        obtain ⟨xs, k', _, _, _, hxl, hf⟩ := DataW.trod_struct hu h2
        match xs, hxl, cs', hlen with
        | [y0, y1], _, [v0, v1], _ =>
          have g0 := hf 0 f0 rfl
          have g1 := hf 1 f1 rfl
          simp [o0, o1, t0, t1, cells_int] at g0 g1
          have e0 := hcell 0 (by omega)
          have e1 := hcell 1 (by omega)
          rw [Go.Deep.add_add] at e0 e1
          obtain ⟨z0, w0, _, hz0⟩ := DataW.trod_int Try.underlying3 g0
          obtain ⟨z1, w1, _, hz1⟩ := DataW.trod_int Try.underlying3 g1
          simp at w0 w1
          subst w0 w1
          exact ⟨⟨z0, z1⟩, fun _ => ⟨by simpa using e0, by simpa using e1, wf_okI hz0, wf_okI hz1⟩⟩
      · exact ⟨⟨0, 0⟩, fun h => absurd h hil⟩
    obtain ⟨q, hq⟩ := Classical.skolem.1 each
    obtain ⟨b, o, hx⟩ : ∃ b o, x = ⟨b, o, none⟩ := by
      rcases hfm _ _ _ hcs with h | ⟨b, o, h⟩
      · cases h
      · injection h with h; exact ⟨b, o, h⟩
    subst hx
    have inn : ∀ (i : Nat) (z : Od), ((List.range n).map q)[i]? = some z → i < n ∧ z = q i := fun i z hr => by
      rw [List.getElem?_map] at hr
      have hin : i < n := by
        rcases Nat.lt_or_ge i n with h | h
        · exact h
        · rw [List.getElem?_eq_none (by simpa using h)] at hr; cases hr
      rw [List.getElem?_range hin] at hr
      injection hr with hr
      exact ⟨hin, hr.symm⟩
    refine ⟨_, n, c, (List.range n).map q, hcs, ?_, by simp, hl, .inr ⟨b, o, rfl⟩, fun i z hz => ?_⟩
    · rcases Nat.eq_zero_or_pos n with h0 | h0
      · subst h0; exact .inl rfl
      · have hb : b < W.heap.size := by simpa [Addr.add] using block_lt_of_cell (hq 0 h0).1
        refine Rk.At.mk ro_ok hb fun i r hr k u hu => ?_
        obtain ⟨hin, rfl⟩ := inn i r hr
        obtain ⟨c0, c1, _⟩ := hq i hin
        simp only [addr_add, ← Nat.add_assoc] at c0 c1
        have hk : k < 2 := by have := (List.getElem?_eq_some_iff.1 hu).1; simpa [RO] using this
        show W.cell? ⟨b, o + i * 2 + k, none⟩ = some u
        match k, hk with
        | 0, _ => simp [RO] at hu; rw [← hu]; exact c0
        | 1, _ => simp [RO] at hu; rw [← hu]; exact c1
    · obtain ⟨hin, rfl⟩ := inn i z hz
      exact (hq i hin).2.2

theorem slice_fm {t e : TypeId} {b : Nat} {A : Option Addr} {N C : Nat} (hu : Try.prog.underlying t = some (.slice e)) (h : Cell.okWide Try.prog W .any b t (.slice A N C)) : A = none ∨ ∃ b o, A = some ⟨b, o, none⟩ := by
  cases A with
  | none => exact .inl rfl
  | some a =>
    simp only [Cell.okWide, hu, Cell.ok] at h
    obtain ⟨_, _, h⟩ := h
    unfold World.has at h
    obtain ⟨b, o, s⟩ := a
    have hs : s = none := h.2.1
    subst hs
    exact .inr ⟨b, o, rfl⟩
theorem note_types : Try.prog.cellTypes Try.prog.depth 25 = some [3, 3, 22, 23] := by kernel_rfl
/-- a note that came in -/
theorem open_note {base : Nat} {v : Value} {d : DataW H} {p : List MemPlace} (hv : Value.okWide Try.prog W .any base 25 v) (h : DataW.Trod enc Try.prog W 0 spare held 25 v d p) : ∃ (x : Nt) (r : Nr), v = ntV x r ∧ NtAt W x r := by
  have hv2 := hv
  simp only [Value.okWide, Try.underlying25] at hv2
  obtain ⟨cs, rfl, hsz, hrow⟩ := hv2
  rw [cells_note] at hsz
  obtain ⟨ts, hts, _, hcw⟩ := hrow
  rw [note_types] at hts
  injection hts with hts
  subst hts
  obtain ⟨fuel, hf⟩ := h
  obtain ⟨f0, f1, f2, f3, hu, ⟨o0, o1, o2, o3⟩, t0, t1, t2, t3⟩ := note_fields
  obtain ⟨xs, k', _, _, _, hxl, hf⟩ := DataW.trod_struct hu hf
  obtain ⟨cl⟩ := cs
  simp only [List.size_toArray] at hsz
  match xs, hxl, cl, hsz with
  | [y0, y1, y2, y3], _, [v0, v1, v2, v3], _ =>
    have g0 := hf 0 f0 rfl
    have g1 := hf 1 f1 rfl
    have g2 := hf 2 f2 rfl
    have g3 := hf 3 f3 rfl
    simp [Value.cells, o0, o1, o2, o3, t0, t1, t2, t3, cells_int, cells_imgs, cells_aops] at g0 g1 g2 g3
    obtain ⟨z0, w0, _, hz0⟩ := DataW.trod_int Try.underlying3 g0
    obtain ⟨z1, w1, _, hz1⟩ := DataW.trod_int Try.underlying3 g1
    simp at w0 w1
    subst w0 w1
    have c2 : Cell.okWide Try.prog W .any base 22 v2 := by
      obtain ⟨u, hu2, h2⟩ := hcw 2 v2 rfl
      have e : u = 22 := by injection hu2 with hu2; exact hu2.symm
      rw [← e]; exact h2
    have c3 : Cell.okWide Try.prog W .any base 23 v3 := by
      obtain ⟨u, hu2, h2⟩ := hcw 3 v3 rfl
      have e : u = 23 := by injection hu2 with hu2; exact hu2.symm
      rw [← e]; exact h2
    obtain ⟨A, N, C, l, rs, rfl, hI⟩ := ims_of_trod g2 (fun A N C e => by subst e; exact slice_fm Try.underlying22 c2)
    obtain ⟨B, M, D, os, rfl, hO⟩ := ops_of_trod g3 (fun A N C e => by subst e; exact slice_fm Try.underlying23 c3)
    exact ⟨⟨z0, z1, l, os⟩, ⟨A, N, C, B, M, D, rs⟩, rfl, hI, hO, wf_okI hz0, wf_okI hz1⟩
/-- bytes that came in -/
theorem open_lies {base : Nat} {v : Value} {d : DataW H} {p : List MemPlace} (hv : Value.okWide Try.prog W .any base 26 v) (h : DataW.Trod enc Try.prog W 0 spare held 26 v d p) : ∃ (A : Option Addr) (n c : Nat) (l : List UInt8), v = .slice A n c ∧ Lies W A c n l ∧ (A = none ∨ ∃ b o, A = some ⟨b, o, none⟩) ∧ c ≤ 9223372036854775807 := by
  obtain ⟨A, n, c, rfl⟩ := okWide_slice Try.underlying26 hv
  have hv2 : Cell.okWide Try.prog W .any base 26 (.slice A n c) := by
    simp only [Value.okWide, Try.underlying26] at hv
    exact hv
  obtain ⟨fuel, hf⟩ := h
  obtain ⟨A', N, C, X, e, hX⟩ := lies_of_trod (v := .slice A n c) (by simpa [Value.cells] using hf)
  injection e with e1 e2 e3
  subst e1 e2 e3
  refine ⟨A, n, c, X, rfl, hX, slice_fm Try.underlying26 hv2, ?_⟩
  cases A with
  | none =>
    simp only [Cell.okWide, Try.underlying26, Cell.ok] at hv2
    split at hv2 <;> simp_all
  | some a =>
    simp only [Cell.okWide, Try.underlying26, Cell.ok] at hv2
    have h2 := hv2.2.1
    have h3 : IntKind.i64.max = 9223372036854775807 := by decide
    rw [h3] at h2
    omega
/-- a byte that came in -/
theorem open_byte {base : Nat} {v : Value} {d : DataW H} {p : List MemPlace} (hv : Value.okWide Try.prog W .any base 5 v) (h : DataW.Trod enc Try.prog W 0 spare held 5 v d p) : ∃ x : UInt8, v = .int .u8 (x.toNat : Int) := by
  obtain ⟨a, rfl, _, _, hw⟩ := open_int Try.underlying5 hv h
  have hb : 0 ≤ a ∧ a ≤ 255 := bounds_u8 hw
  refine ⟨UInt8.ofNat a.toNat, ?_⟩
  have e : ((UInt8.ofNat a.toNat).toNat : Int) = a := by
    rw [toNat_ofNat]
    omega
  rw [e]
end
end Go.Proofs.Ytjpnihmijnpjcaa
