/-
  A variable of lists; what is open of one, as it is told.
-/
import Derived.Test.YtpphhhalmccnbaaQo
import Derived.Test.YtpphhhalmccnbaaUg
namespace Go.Proofs.Ytpphhhalmccnbaa
set_option maxRecDepth 100000
set_option linter.unusedVariables false
set_option linter.unusedSimpArgs false
open Go.RowKit

/-- a variable that holds entries -/
structure Lv (W : World) (g : Nat) (A : Option Addr) (n a : Nat) (l : List En) : Prop where
  bk : Bk W g (liC A n a) 32
  es : EsAt REo W A n l
  sp : l = [] ∨ Sp A
  na : n ≤ a
section
variable {W V : World} {g : Nat} {A : Option Addr} {n a : Nat} {l : List En}
theorem Lv.below (h : Lv W g A n a l) (hb : Below W.heap.size W V) : Lv V g A n a l := ⟨h.bk.below hb, h.es.below hb, h.sp, h.na⟩
theorem Lv.c0 (h : Lv W g A n a l) : W.cell? ⟨g, 0, none⟩ = some (.slice A n a) := h.bk.c 0 _ rfl
theorem Lv.new (h : EsAt REo W A n l) (hs : l = [] ∨ Sp A) (hn : n ≤ a) : Lv (W.alloc (.cells (liC A n a) 32)) W.heap.size A n a l := ⟨Bk.new W _ _, h.below (below_new W _), hs, hn⟩
end
theorem openT_ok {l : List En} {P : List Pe} (hf : Fit l P) (h : ∀ e ∈ l, e.Ok) {t : Int} : ∀ e ∈ openT P t, e.Ok := by
  intro e he
  unfold openT at he
  obtain ⟨p, hp, rfl⟩ := List.mem_map.mp he
  exact h _ (List.mem_of_getElem? (hf.at' p (List.mem_filter.mp hp).1))
theorem openT_no {l : List En} {P : List Pe} (hf : Fit l P) {t : Int} : ∀ e ∈ openT P t, e.u = false := by
  intro e he
  unfold openT at he
  obtain ⟨p, hp, rfl⟩ := List.mem_map.mp he
  exact hf.no p (List.mem_filter.mp hp).1
/-- what Open answers, as a slice -/
def OpOut (w : World) (m : Nat) (L : List En) (r : Ending) (w' : World) : Prop :=
  Below w.heap.size w w' ∧ ∃ A' c', r = .returned (.slice A' m c') ∧ EsAt REo w' A' m L
theorem open2_any (A : Option Addr) (n a m : Nat) (l : List En) (P : List Pe) (t : Int) (hP : openO l = some P) (hn : n ≤ 1000) (w : World) (hl : EsAt REo w A n l) (hm : (openT P t).length = m) :
    Calls Try.prog 20 #[liV A n a, .int .i64 t] w (OpOut w m (openT P t)) := by
  refine (open_any A n a l P t hP hn w hl).mono ?_
  rintro r w' ⟨v, rfl, ho, hb⟩
  obtain ⟨A', c', rfl⟩ := own_slice re_oko ho hm
  exact ⟨hb, A', c', rfl, own_es re_oko ho (openT_ok (open_fit hP) hl.ok)⟩
theorem openT_few {l : List En} {P : List Pe} (hf : Fit l P) {t : Int} : (openT P t).length ≤ l.length := by
  unfold openT
  rw [List.length_map]
  exact Nat.le_trans (List.length_filter_le ..) hf.len
/-- how Undo answers, of grown ones -/
theorem undo_gro (A : Option Addr) (n a : Nat) (l : List En) (P : List Pe) (B : Option Addr) (m b : Nat) (T : List Int) (hG : GroO l P) (hm : m ≤ 1000) (hsp : l = [] ∨ Sp A) (w : World) (hl : EsAt REo w A n l) (hT : Ls w B m T) :
    Calls Try.prog 18 #[liV A n a, .slice B m b] w (UndoOut w (withU (amongE T) l P)) :=
  undo_any A n a l P B m b T hG.sa.op (by have := hG.sa.len; have := hl.len; omega) hm hsp w hl hT
theorem theirs2_any (A : Option Addr) (n a : Nat) (l : List En) (hm : n ≤ 3000) (w : World) (hl : EsAt REo w A n l) :
    Calls Try.prog 13 #[.slice A n a] w fun r w' => Below w.heap.size w w' ∧ ∃ A' c', r = .returned (.slice A' n c') ∧ EsAt REr w' A' n l := by
  refine (theirs_any A n a l hm w hl).mono ?_
  rintro r w' ⟨v, rfl, ho, hb⟩
  obtain ⟨A', c', rfl⟩ := own_slice re_okr ho hl.len
  exact ⟨hb, A', c', rfl, own_es re_okr ho hl.ok⟩
/-- what the document's Open answers, as a slice -/
theorem refopen2_any (A : Option Addr) (n a m : Nat) (l : List En) (P : List Pe) (t : Int) (hP : openO l = some P) (hn : n ≤ 1000) (w : World) (hl : EsAt REr w A n l) (hm : (openT P t).length = m) :
    Calls Try.prog 21 #[liV A n a, .int .i64 t] w fun r w' => Below w.heap.size w w' ∧ ∃ A' c', r = .returned (.slice A' m c') ∧ EsAt REr w' A' m (openT P t) := by
  refine (refopent_any A n a l P t hP hn w hl).mono ?_
  rintro r w' ⟨v, rfl, ho, hb, _⟩
  obtain ⟨A', c', rfl⟩ := own_slice re_okr ho hm
  exact ⟨hb, A', c', rfl, own_es re_okr ho (openT_ok (open_fit hP) hl.ok)⟩
end Go.Proofs.Ytpphhhalmccnbaa
