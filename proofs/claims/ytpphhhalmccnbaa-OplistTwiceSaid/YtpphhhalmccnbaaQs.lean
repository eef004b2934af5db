/-
  A range over a function of the program's own whose rounds are told what lies in memory at what they are handed: 'Pr x W'. For bodies that never leave the loop.
-/
import Derived.Test.YtpphhhalmccnbaaTreeC
import Derived.RangeFuncNested
import Derived.RangeFuncWrites
namespace Go.Proofs.Ytpphhhalmccnbaa
set_option linter.unusedVariables false
open Go.RowKit Go.Shelf
variable {F : Fence} {n : Nat} {P : Program}

/-- the iterator: it calls its rounds where Pr holds of what they are handed, and all rounds go on -/
def SeqPr {α : Type} (F : Fence) (n : Nat) (P : Program) (g : Nat) (lb : Array Value) (encs : α → Array Value) (Pr : α → World → Prop) (My : Nat → World → Nat → Prop) (Kp : Nat → World → World → Prop) (S : List α → Prop) (N : Nat) (w : World) : Prop :=
  ∀ (l : Nat) (J : List α → World → Prop) (W : World), l < W.heap.size → w.heap.size ≤ l → Below w.heap.size w W → (∀ s X Y, J s X → Turn (fun k => W.heap.size ≤ k ∧ My l X k) X Y → J s Y) →
    (∀ pre x W1, J pre W1 → Pr x W1 → pre.length < N → YieldAt F (n - 1) P l (encs x) W1 fun e W' => e = .returned (.bool true) ∧ J (pre ++ [x]) W' ∧ Kp l W1 W') →
    J [] W → CallsIn F n P g (#[.func (.yield l) #[] #[]] ++ lb) W fun e W' => (∃ v, e = .returned v) ∧ ∃ xs, S xs ∧ J xs W'

/-- how a round may end: it goes on -/
def onPost {α : Type} (B : Nat) (Kp : World → World → Prop) (I : List α → World → Prop) (xs : List α) (W : World) : Exit → Act → World → Prop
  | .normal, _, W' => KeepsFrom B W W' ∧ Kp W W' ∧ I xs W'
  | _, _, _ => False

theorem wpIn_rangeFunc_pr {α : Type} {g : Operand} {ps : Array Tmp} {assign body : Code} {Q : Exit → Act → World → Prop} {a : Act} {w : World}
    (hro : F.round = none) (h1 : 1 ≤ n) {gf : Nat} {lb : Array Value} (hg : a.eval g = .func (.func gf) #[] lb) (hFg : F.fn gf) (eg : ∀ args w, (callFunc gf args).run P w = .ok (.enter gf args) w)
    {encs : α → Array Value} {Pr : α → World → Prop} {My : Nat → World → Nat → Prop} {Kp : Nat → World → World → Prop} {S : List α → Prop} {N : Nat} {w0 : World} (hseq : SeqPr F (n - 1) P gf lb encs Pr My Kp S N w0)
    (hKt : ∀ {A B C : World}, Kp (w.heap.size + 1) A B → Kp (w.heap.size + 1) B C → Kp (w.heap.size + 1) A C) (hKb : ∀ (W : World) (o' : Obj), Kp (w.heap.size + 1) W (W.putObj (w.heap.size + 1) o')) (hb0 : Below w0.heap.size w0 w) (hps : ∀ x, (encs x).size = ps.size)
    (I : List α → World → Prop) (hI : OwnFrom w.heap.size I) (hIa : ∀ s X Y, I s X → Turn (fun k => w.heap.size + 2 ≤ k ∧ My (w.heap.size + 1) X k) X Y → I s Y) (h0 : I [] w) (Ax : α → Act → World → Prop) (hAx : ∀ x a', OwnFrom w.heap.size (fun (_ : Unit) W => Ax x a' W))
    (hassign : ∀ (l : Nat) (pre : List α) (x : α) (W : World) (K : Act → World → Prop), I pre W → Pr x W → (∀ a' W', KeepsFrom w.heap.size W W' → Kp (w.heap.size + 1) W W' → I pre W' → Ax x a' W' → K a' W') →
      assign.wpIn (F.inRound l) (n - 1 - 1) P (Exit.then K (fun _ _ _ => False)) { tmps := (ps.zip (encs x)).foldl (fun t (p, v) => t.setIfInBounds p v) a.tmps, defers := [] } W)
    (hbody : ∀ (l : Nat) (pre : List α) (x : α) (a' : Act) (W : World), I pre W → Ax x a' W → pre.length < N → body.wpIn (F.inRound l) (n - 1 - 1) P (onPost w.heap.size (Kp (w.heap.size + 1)) I (pre ++ [x]) W) a' W)
    (hdone : ∀ (D : Nat) (xs : List α) (W : World), w.heap.size ≤ D → S xs → I xs W → W.heap[D]? = some (.deferred (some [])) → Q .normal { a with defers := { target := .collected D, args := #[] } :: a.defers } W) :
    (Code.rangeFunc g ps assign body).wpIn F n P Q a w := by
  refine wpIn_rangeFunc fun fn hfn => ?_
  rw [hro]
  obtain ⟨B, hB⟩ : ∃ B, B = w.heap.size := ⟨_, rfl⟩
  obtain ⟨rc, hrc⟩ : ∃ rc : LoopState → Loop, rc = fun st => { state := st, pending := none, fn, tmps := a.tmps, params := ps, assign, body, defers := B } := ⟨_, rfl⟩
  -- the two blocks of book-keeping
  let Bkk : World → Prop := fun W => W.heap[B + 1]? = some (.loop (rc .ready)) ∧ W.heap[B]? = some (.deferred (some []))
  obtain ⟨W1, hW1⟩ : ∃ W1, W1 = (w.alloc (.deferred (some []))).alloc (.loop (rc .ready)) := ⟨_, rfl⟩
  have hs1 : W1.heap.size = B + 2 := by rw [hW1]; simp [hB]
  have hBk1 : Bkk W1 := by
    refine ⟨?_, ?_⟩
    · have h := World.alloc_heap_new (w.alloc (.deferred (some []))) (.loop (rc .ready))
      rw [World.size_alloc] at h
      rw [hW1, hB]; exact h
    · rw [hW1, hB]; exact (Below.heap_alloc _ _ _ (by simp)).trans (World.alloc_heap_new w _)
  have hI1 : I [] W1 := by rw [hW1]; exact hI.alloc _ (hI.alloc _ h0)
  have hb1 : Below w0.heap.size w0 W1 := by
    rw [hW1]; exact hb0.trans ((((Below.refl _ w).alloc (Nat.le_refl _) _).alloc (by simp) _).mono hb0.size)
  refine ⟨B + 1, [{ target := .collected B, args := #[] }], W1, { target := .fn (.func gf) lb, args := #[.func (.yield (B + 1)) #[] #[]] }, W1, gf, #[.func (.yield (B + 1)) #[] #[]] ++ lb, W1, ?_, ?_, ?_, ?_, fun _ => h1, ?_⟩
  · rw [hW1, hrc, hB]; exact run_enterLoop_outer _ _ _ _ _
  · simp only [resolve, hg]
    simp [go_sem]
  · intro f' hf'; simp [Target.leads] at hf'; subst hf'; exact hFg
  · simp [invoke, go_sem, eg]
  refine (hseq (B + 1) (fun pre W => I pre W ∧ Bkk W) W1 (by omega) (by have := hb0.size; omega) hb1 (fun s X Y hs ht => ?_) (fun pre x W hJ hpr hlen => ?_) ⟨hI1, hBk1⟩).mono ?_
  · refine ⟨hIa s X Y hs.1 (ht.mono fun k e => ⟨by have := e.1; omega, by have h := e.2; rwa [hB] at h⟩), (ht.block _ (Array.getElem?_eq_some_iff.1 hs.2.1).1 (fun e => by have := e.1; omega)).trans hs.2.1, (ht.block _ (Array.getElem?_eq_some_iff.1 hs.2.2).1 (fun e => by have := e.1; omega)).trans hs.2.2⟩
  · obtain ⟨hi, hl, hk⟩ := hJ
    have hy := run_yield (P := P) (args := encs x) hl (by rw [hrc]; exact hps x)
    rw [hrc] at hy
    refine ⟨fn, _, assign, body, hy, roundIn_of_wpIn hfn (hassign _ pre x W _ hi hpr fun a' V hkf hkp hiV hax => ?_)⟩
    rw [← hB] at hkf
    have hlV := hkf.same _ _ (by omega) hl rfl
    have hkV := hkf.same _ _ (Nat.le_refl _) hk rfl
    have hltV : B + 1 < V.heap.size := (Array.getElem?_eq_some_iff.1 hlV).1
    refine ⟨_, run_beginRound hlV (by rw [hrc]), ?_⟩
    obtain ⟨V2, hV2⟩ : ∃ V2, V2 = V.putObj (B + 1) (.loop { rc .ready with state := .busy }) := ⟨_, rfl⟩
    have hl2 : V2.heap[B + 1]? = some (.loop { rc .ready with state := .busy }) := by rw [hV2]; exact World.putObj_heap_same hltV
    have hk2 : V2.heap[B]? = some (.deferred (some [])) := by rw [hV2]; exact (World.putObj_heap_other (by omega)).trans hkV
    have hi2 : I pre V2 := by rw [hV2]; exact hI.putObj _ hiV (by omega) hlV rfl
    have ha2 : Ax x a' V2 := by rw [hV2]; exact (hAx x a').putObj (s := ()) _ hax (by omega) hlV rfl
    have hw2 : Kp (w.heap.size + 1) V V2 := by rw [hV2, hB]; exact hKb _ _
    rw [← hV2]
    refine wpIn_mono (hbody _ pre x a' _ hi2 ha2 hlen) ?_
    intro e a3 W3 hp
    cases e with
    | normal =>
      obtain ⟨hk3, hkp3, hi3⟩ := hp
      rw [← hB] at hk3
      have hl3 := hk3.same _ _ (by omega) hl2 rfl
      have hr := run_endRound (P := P) none hl3
      rw [hrc] at hr
      refine ⟨_, _, hr, rfl, ⟨hI.putObj _ hi3 (by omega) hl3 rfl, ?_, ?_⟩, by rw [hB]; exact hKt hkp (hKt (hKt hw2 hkp3) (hKb _ _))⟩
      · rw [World.putObj_heap_same (Array.getElem?_eq_some_iff.1 hl3).1, hrc]; rfl
      · exact (World.putObj_heap_other (by omega)).trans (hk3.same _ _ (Nat.le_refl _) hk2 rfl)
    | ret => exact hp.elim
    | exit id => exact hp.elim
    | goto t => exact hp.elim
    | panic ch => exact hp.elim
    | outgrown => exact hp.elim
  · rintro e W2 ⟨⟨v, rfl⟩, xs, hS, hi, hl, hk⟩
    have hr := run_endLoop (P := P) hl (by rw [hrc]; simp)
    rw [hrc] at hr
    exact ⟨none, _, hr, hdone _ xs _ (by omega) hS (hI.putObj _ hi (by omega) hl rfl) ((World.putObj_heap_other (by omega)).trans hk)⟩
theorem Rk.Own.kept {α : Type} {R : Rk α} {X Y : World} {base : Nat} {v : Value} {l : List α} {row : Option Nat} (h : R.Own X base v l) (hg : X.grownBy Y row) (hr : ∀ r, row = some r → ∃ o : Obj, X.heap[r]? = some o ∧ o.isCells = false) : R.Own Y base v l := by
  refine ⟨h.1, ?_⟩
  rcases h.2 with h2 | ⟨g, c, cur, e, hb, hh, rest⟩
  · exact .inl h2
  · refine .inr ⟨g, c, cur, e, hb, (hg.block g (lt_of_block hh) (fun e2 => ?_)).trans hh, rest⟩
    obtain ⟨o, ho, hc⟩ := hr g e2.symm
    rw [hh] at ho
    injection ho with ho
    rw [← ho] at hc
    cases hc
theorem Rk.Own.cells {α : Type} {R : Rk α} {X : World} {base : Nat} {v : Value} {l : List α} (h : R.Own X base v l) {j : Nat} {o : Obj} (e : v.ownBlock = some j) (ho : X.heap[j]? = some o) : o.isCells = true := by
  rcases h.2 with ⟨h2, _⟩ | ⟨g, c, cur, h2, hb, hh, _⟩
  · rw [h2] at e; cases e
  · rw [h2] at e
    injection e with e
    have e' : g = j := e
    subst e'
    rw [hh] at ho
    injection ho with ho
    rw [← ho]; rfl
theorem Bk.kept {X Y : World} {g : Nat} {cs : Array Value} {t : TypeId} {row : Option Nat} (h : Bk X g cs t) (hg : X.grownBy Y row) (hr : ∀ r, row = some r → ∃ o : Obj, X.heap[r]? = some o ∧ o.isCells = false) : Bk Y g cs t := by
  refine (hg.block g h.lt (fun e2 => ?_)).trans h
  obtain ⟨o, ho, hc⟩ := hr g e2.symm
  have h' : X.heap[g]? = _ := h
  rw [h'] at ho
  injection ho with ho
  rw [← ho] at hc
  cases hc
theorem Bk.set1 {W : World} {g : Nat} {v : Value} {t : TypeId} (h : Bk W g #[v] t) (u : Value) : Bk (W.setCell ⟨g, 0, none⟩ u) g #[u] t := by
  have := heap_setCell_same W g 0 #[v] t u h
  unfold Bk
  rw [this]; rfl
theorem Rk.At.kept {α : Type} {R : Rk α} (hR : R.Ok) {X Y : World} {A : Option Addr} {l : List α} {row : Option Nat} (h : R.At X A l) (hg : X.grownBy Y row) (hr : ∀ r, row = some r → ∃ o : Obj, X.heap[r]? = some o ∧ o.isCells = false) : R.At Y A l := by
  rcases h with h | ⟨b, o, e, hb, hc⟩
  · exact .inl h
  · exact .inr ⟨b, o, e, Nat.lt_of_lt_of_le hb hg.size, fun j u hu => cell_kept (hc j u hu) hg (fun r e => hr r e)⟩
end Go.Proofs.Ytpphhhalmccnbaa
