/-
  What the calls of layer 15 answer, things done one behind the other, and what the law's five functions look at. No program in it.
-/
import Derived.Test.YtpphhhalmccnbaaOc
namespace Go.Proofs.Ytpphhhalmccnbaa
set_option maxRecDepth 100000
set_option linter.unusedVariables false
set_option linter.unusedSimpArgs false

/-! ### the answers -/
def newE (t c b : Int) : En := ⟨t, c, b, false⟩
def doE (l : List En) (e : En) : List En × Int := if saneE l && e.may then (if saneE (l ++ [e]) then (l ++ [e], 0) else ([], 13)) else ([], 1)
def undoE (l : List En) (T : List Int) : List En :=
  match openO l with
  | none => l
  | some P => withU (amongE T) l P
def pickE (sel : En → Bool) (l : List En) : List En :=
  match openO l with
  | none => []
  | some P => pickO sel P
section
variable {l : List En} {P : List Pe}
theorem SanO.undoE (h : SanO l P) (T : List Int) : undoE l T = withU (amongE T) l P := by unfold Proofs.Ytpphhhalmccnbaa.undoE; rw [h.op]
theorem SanO.pickE (h : SanO l P) (sel : En → Bool) : pickE sel l = pickO sel P := by unfold Proofs.Ytpphhhalmccnbaa.pickE; rw [h.op]
theorem doE_sane (h : saneE l = true) (e : En) : doE l e = if e.may then (if saneE (l ++ [e]) then (l ++ [e], 0) else ([], 13)) else ([], 1) := by
  unfold doE; rw [h, Bool.true_and]
theorem SanO.doE (h : SanO l P) {e : En} (he : e.u = false) : doE l e = if e.may then (if l.length + P.length ≤ 254 then (l ++ [e], 0) else ([], 13)) else ([], 1) := by
  rw [doE_sane h.sane]
  by_cases hm : e.may = true
  · rw [if_pos hm, if_pos hm, h.snoc_iff he hm]; simp
  · rw [if_neg hm, if_neg hm]
theorem SanO.done (h : SanO l P) {e : En} (he : e.u = false) (ho : (Proofs.Ytpphhhalmccnbaa.doE l e).2 = 0) : (Proofs.Ytpphhhalmccnbaa.doE l e).1 = l ++ [e] ∧ e.may = true ∧ SanO (l ++ [e]) (P ++ [(l.length, e)]) := by
  rw [h.doE he] at ho ⊢
  by_cases hm : e.may = true
  · rw [if_pos hm] at ho ⊢
    by_cases hf : l.length + P.length ≤ 254
    · rw [if_pos hf]; exact ⟨rfl, hm, h.snoc he hm hf⟩
    · rw [if_neg hf] at ho; simp at ho
  · rw [if_neg hm] at ho; simp at ho
theorem SanO.not_done (h : SanO l P) {e : En} (he : e.u = false) (ho : (Proofs.Ytpphhhalmccnbaa.doE l e).2 ≠ 0) : (Proofs.Ytpphhhalmccnbaa.doE l e).1 = [] ∧ ((Proofs.Ytpphhhalmccnbaa.doE l e).2 = 13 ∨ ((Proofs.Ytpphhhalmccnbaa.doE l e).2 = 1 ∧ e.may = false)) := by
  rw [h.doE he] at ho ⊢
  by_cases hm : e.may = true
  · rw [if_pos hm] at ho ⊢
    by_cases hf : l.length + P.length ≤ 254
    · rw [if_pos hf] at ho; simp at ho
    · rw [if_neg hf]; exact ⟨rfl, .inl rfl⟩
  · rw [if_neg hm]; exact ⟨rfl, .inr ⟨rfl, by simpa using hm⟩⟩
end

/-! ### things done one behind the other -/
structure Ac where
  w : Int
  t : Int
  o : Int
  c : Int
  b : Int
structure Ac.Ok (a : Ac) : Prop where
  w : okI a.w
  t : okI a.t
  o : okI a.o
  c : okI a.c
  b : okI a.b
def growE (l : List En) (a : Ac) : List En :=
  if a.w = 4 then undoE l [a.t % 8, a.o % 8] else
  if (doE l (newE (a.t % 8) (a.c % 4) a.b)).2 = 0 then (doE l (newE (a.t % 8) (a.c % 4) a.b)).1 else l
def grownE (A : List Ac) : List En := A.foldl growE []
theorem grownE_take {A : List Ac} {i : Nat} {a : Ac} (h : A[i]? = some a) : grownE (A.take (i + 1)) = growE (grownE (A.take i)) a := by
  unfold grownE; rw [List.take_add_one, h, Option.toList_some, List.foldl_append]; rfl
structure GroO (l : List En) (P : List Pe) : Prop where
  sa : SanO l P
  ok : ∀ e ∈ l, e.Ok
  tx : ∀ e ∈ l, 0 ≤ e.t ∧ e.t < 8
  co : ∀ e ∈ l, 0 ≤ e.c ∧ e.c < 4
section
variable {l : List En} {P : List Pe}
theorem GroO.mem (h : GroO l P) {p : Pe} (hp : p ∈ P) : p.2 ∈ l := List.mem_of_getElem? (h.sa.fit.at' p hp)
theorem GroO.undo (h : GroO l P) (T : List Int) : GroO (withU (amongE T) l P) (P.filter fun p => !amongE T p.2) := by
  have hu : ∀ e ∈ withU (amongE T) l P, e ∈ l ∨ ∃ x ∈ l, e = x.neg := by
    intro e he
    rcases List.mem_append.mp he with he | he
    · exact .inl he
    · unfold undoL at he
      obtain ⟨p, hp, rfl⟩ := List.mem_map.mp he
      rw [List.mem_reverse, List.mem_filter] at hp
      exact .inr ⟨_, h.mem hp.1, rfl⟩
  refine ⟨h.sa.undo (amongE_tx T) fun e he => (h.ok e he).b, h.sa.undo_ok h.ok, ?_, ?_⟩
  · intro e he
    rcases hu e he with he | ⟨x, hx, rfl⟩
    · exact h.tx e he
    · exact h.tx x hx
  · intro e he
    rcases hu e he with he | ⟨x, hx, rfl⟩
    · exact h.co e he
    · exact h.co x hx
theorem GroO.undoE (h : GroO l P) (T : List Int) : GroO (undoE l T) (P.filter fun p => !amongE T p.2) := by rw [h.sa.undoE]; exact h.undo T
theorem GroO.snoc (h : GroO l P) {e : En} (hs : SanO (l ++ [e]) (P ++ [(l.length, e)])) (hk : e.Ok) (ht : 0 ≤ e.t ∧ e.t < 8) (hc : 0 ≤ e.c ∧ e.c < 4) : GroO (l ++ [e]) (P ++ [(l.length, e)]) := by
  refine ⟨hs, ?_, ?_, ?_⟩ <;> intro x hx <;> rcases List.mem_append.mp hx with hx | hx
  · exact h.ok x hx
  · simp at hx; rw [hx]; exact hk
  · exact h.tx x hx
  · simp at hx; rw [hx]; exact ht
  · exact h.co x hx
  · simp at hx; rw [hx]; exact hc
theorem newE_ok {t c b : Int} (ht : 0 ≤ t ∧ t < 8) (hc : 0 ≤ c ∧ c < 4) (hb : okI b) : (newE t c b).Ok := ⟨by unfold okI newE; simp only; omega, by unfold okI newE; simp only; omega, hb⟩
theorem GroO.grow (h : GroO l P) {a : Ac} (ha : okI a.b) : ∃ Q, GroO (growE l a) Q := by
  have h8 : 0 ≤ a.t % 8 ∧ a.t % 8 < 8 := by omega
  have h4 : 0 ≤ a.c % 4 ∧ a.c % 4 < 4 := by omega
  unfold growE
  by_cases hw : a.w = 4
  · rw [if_pos hw]; exact ⟨_, h.undoE _⟩
  · rw [if_neg hw]
    by_cases ho : (doE l (newE (a.t % 8) (a.c % 4) a.b)).2 = 0
    · rw [if_pos ho]
      obtain ⟨e1, hm, hs⟩ := h.sa.done (e := newE (a.t % 8) (a.c % 4) a.b) rfl ho
      rw [e1]
      exact ⟨_, h.snoc hs (newE_ok h8 h4 ha) h8 h4⟩
    · rw [if_neg ho]; exact ⟨_, h⟩
end
theorem groO_nil : GroO [] [] := ⟨sanO_nil, by simp, by simp, by simp⟩
theorem grown_gro {A : List Ac} (h : ∀ a ∈ A, a.Ok) : ∃ P, GroO (grownE A) P := by
  suffices ∀ (A : List Ac) (l : List En) (P : List Pe), (∀ a ∈ A, a.Ok) → GroO l P → ∃ Q, GroO (A.foldl growE l) Q from this A [] [] h groO_nil
  intro A
  induction A with
  | nil => intro l P _ h; exact ⟨P, h⟩
  | cons a A ih =>
    intro l P ha h
    obtain ⟨Q, hq⟩ := h.grow (ha a (by simp)).b
    exact ih _ Q (fun x hx => ha x (by simp [hx])) hq
/-- things done make but few entries -/
theorem SanO.len {l : List En} {P : List Pe} (h : SanO l P) : l.length ≤ 256 := by have := h.few; omega

/-! ### what is open, of all -/
theorem netE_flat {n : Nat} {P : List Pe} {c : Int} : ((List.range n).flatMap fun t : Nat => netE (openT P (t : Int)) c) = netE ((List.range n).flatMap fun t : Nat => openT P (t : Int)) c := by
  induction n with
  | zero => rfl
  | succ n ih => rw [List.range_succ, List.flatMap_append, List.flatMap_append, netE_append, ih]; simp
theorem openT_cons_len {p : Pe} {P : List Pe} {t : Int} : (openT (p :: P) t).length = (openT P t).length + (if p.2.t = t then 1 else 0) := by
  unfold openT
  rw [List.filter_cons]
  by_cases h : p.2.t = t <;> simp [h]
theorem openT_len {P : List Pe} {W : Int → Bool} {n : Nat} (h : ∀ p ∈ P, 0 ≤ p.2.t) (hw : ∀ t, W t = true → t < (n : Int)) :
    ((pickO (fun e => W e.t) P).length : Int) = sumI ((List.range n).map fun t : Nat => if W (t : Int) then ((openT P (t : Int)).length : Int) else 0) := by
  induction P with
  | nil =>
    have : ((List.range n).map fun t : Nat => if W (t : Int) then ((openT [] (t : Int)).length : Int) else 0) = (List.range n).map fun _ => (0 : Int) := by
      apply List.map_congr_left; intro t _; simp [openT]
    rw [this]
    have hz : ∀ m : Nat, sumI ((List.range m).map fun _ => (0 : Int)) = 0 := by
      intro m
      induction m with
      | zero => rfl
      | succ m ih => rw [List.range_succ, List.map_append, sumI_append, ih]; simp [sumI_cons, sumI_nil]
    rw [hz]; rfl
  | cons p P ih =>
    have ih := ih fun q hq => h q (by simp [hq])
    have hp := h p (by simp)
    have key : ∀ m : Nat, sumI ((List.range m).map fun t : Nat => if W (t : Int) then ((openT (p :: P) (t : Int)).length : Int) else 0) =
        sumI ((List.range m).map fun t : Nat => if W (t : Int) then ((openT P (t : Int)).length : Int) else 0) + (if W p.2.t = true ∧ p.2.t < (m : Int) then 1 else 0) := by
      intro m
      induction m with
      | zero => rw [if_neg (fun e => by omega)]; rfl
      | succ m ihm =>
        rw [List.range_succ, List.map_append, List.map_append, sumI_append, sumI_append, ihm]
        simp only [List.map_cons, List.map_nil, sumI_cons, sumI_nil]
        rw [openT_cons_len]
        generalize sumI (List.map _ _) = S
        by_cases e : p.2.t = (m : Int)
        · rw [e, if_neg (show ¬(W (m : Int) = true ∧ (m : Int) < (m : Int)) from fun h => by omega), if_pos rfl]
          by_cases hh : W (m : Int) = true
          · rw [if_pos hh, if_pos hh, if_pos ⟨hh, by omega⟩]; omega
          · rw [if_neg hh, if_neg hh, if_neg (fun h => hh h.1)]; omega
        · rw [if_neg e]
          by_cases hh : W p.2.t = true ∧ p.2.t < (m : Int)
          · rw [if_pos hh, if_pos (show W p.2.t = true ∧ p.2.t < ((m + 1 : Nat) : Int) from ⟨hh.1, by omega⟩)]; simp only [Nat.add_zero]; omega
          · rw [if_neg hh, if_neg (show ¬(W p.2.t = true ∧ p.2.t < ((m + 1 : Nat) : Int)) from fun h => hh ⟨h.1, by omega⟩)]; simp only [Nat.add_zero]; omega
    rw [key, ← ih]
    unfold pickO
    rw [List.filter_cons]
    by_cases hh : W p.2.t = true
    · rw [if_pos hh, if_pos ⟨hh, hw _ hh⟩]; simp
    · rw [if_neg (by simpa using hh), if_neg fun h => hh h.1]; simp
end Go.Proofs.Ytpphhhalmccnbaa
