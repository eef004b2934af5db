/-
  The statements' example.
-/
import Derived.Test.YtpphhhalmccnbaaQj
import Derived.Test.YtpphhhalmccnbaaQm
import Derived.Test.YtpphhhalmccnbaaQk
import Derived.Test.YtpphhhalmccnbaaUn
import Derived.Test.YtpphhhalmccnbaaUk
import Derived.Test.YtpphhhalmccnbaaUj
namespace Go.Proofs.Ytpphhhalmccnbaa
set_option maxRecDepth 100000
set_option linter.unusedVariables false
set_option linter.unusedSimpArgs false
open Go.RowKit

/-- where entries lie is no variable of lists -/
theorem EsAt.off {W : World} {A : Option Addr} {n g : Nat} {l : List En} {cs : Array Value} {ty : TypeId} (h : EsAt REo W A n l) (k : Bk W g cs ty) (hcs : ∀ j : Nat, ∀ z : Int, cs[j]? ≠ some (.int .i64 z)) : ∀ q o, A = some ⟨q, o, none⟩ → l = [] ∨ q ≠ g := by
  intro q o e
  rcases Nat.eq_zero_or_pos n with h0 | h0
  · exact .inl (List.eq_nil_of_length_eq_zero (by rw [h.len]; exact h0))
  · obtain ⟨b, o2, e2, _, _, _, h1, _⟩ := h.eo h0
    rw [e] at e2; injection e2 with e2; injection e2 with e2 e3
    refine .inr fun h3 => hcs (o2 + 0 * 4) (l.getD 0 enD).t ?_
    rw [← h1, ← e2, h3]
    exact (cell_of_row _ _ _ _ _ _ k).symm
theorem EsAt.put {W : World} {A : Option Addr} {n g : Nat} {l : List En} {cs : Array Value} {ty : TypeId} (h : EsAt REo W A n l) (k : Bk W g cs ty) (hcs : ∀ j : Nat, ∀ z : Int, cs[j]? ≠ some (.int .i64 z)) (v : Value) : EsAt REo (W.setCell ⟨g, 0, none⟩ v) A n l :=
  ⟨h.len, h.ok, h.at'.turn ((Turn.refl (fun q => q = g) W).setCell _ _ (.inl rfl)) fun q o e => h.off k hcs q o e⟩
theorem li_no (A : Option Addr) (n a : Nat) : ∀ j : Nat, ∀ z : Int, (liC A n a)[j]? ≠ some (.int .i64 z) := by
  intro j z e
  match j with
  | 0 => injection e with e; cases e
  | j + 1 => cases e
theorem Bk.put {W : World} {g : Nat} {A : Option Addr} {n a : Nat} {t : TypeId} (h : Bk W g (liC A n a) t) (B : Option Addr) (m b : Nat) : Bk (W.setCell ⟨g, 0, none⟩ (.slice B m b)) g (liC B m b) t := h.set1 (.slice B m b)
def ex1 : List En := [⟨1, 0, 5, false⟩]
def ex2 : List En := [⟨1, 0, 5, false⟩, ⟨1, 0, 3, false⟩]
def ex4 : List En := [⟨1, 0, 5, false⟩, ⟨1, 0, 3, false⟩, ⟨1, 0, -3, true⟩, ⟨1, 0, -5, true⟩]
theorem ex_do1 : doE [] (newE 1 0 5) = (ex1, 0) := by decide
theorem ex_do2 : doE ex1 (newE 1 0 3) = (ex2, 0) := by decide
theorem ex_open : openO ex2 = some [(0, ⟨1, 0, 5, false⟩), (1, ⟨1, 0, 3, false⟩)] := by decide
theorem ex_undo : withU (amongE [1]) ex2 [(0, ⟨1, 0, 5, false⟩), (1, ⟨1, 0, 3, false⟩)] = ex4 := by decide
theorem ex_sane : saneE ex4 = true := by decide

set_option maxHeartbeats 4000000 in
theorem awake_any (w : World) : Calls Try.prog 8 #[] w fun e w' => e = .returned (.bool true) ∧ Below w.heap.size w w' := by
  have HD1 := Lib.hid (do_any none 0 0 [] 1 0 5 (by decide) (by decide) (by decide) (by omega) (.inl rfl) w ⟨rfl, by simp, .inl rfl⟩)
  rw [ex_do1] at HD1
  go_enter Try.func8, Try.ntmps8
  go_wp2_with fail
  refine HD1.out.mono ?_
  rintro r w2 ⟨hb2, A2, n2, a2, rfl, he2, hs2, _⟩
  have hn2 : n2 = 1 := he2.len.symm
  subst hn2
  have HB2 := Lib.hid (hb2.trans ((below_new w2 (.cells (liC A2 1 a2) 32)).mono hb2.size))
  have HE2 := Lib.hid (he2.below (below_new w2 (.cells (liC A2 1 a2) 32)))
  have HK2 := Lib.hid (Bk.new w2 (liC A2 1 a2) 32)
  have HG2 := Lib.hid (show w.heap.size ≤ w2.heap.size from hb2.size)
  have HSP2 := Lib.hid (show ex1 = [] ∨ Sp A2 from hs2)
  have hA2 := Lib.hid (fun q o (e : A2 = some ⟨q, o, none⟩) => (show q < w2.heap.size from by
    obtain ⟨b, o2, e2, hb, _⟩ := he2.eo (i := 0) (by omega)
    rw [e] at e2; injection e2 with e2; injection e2 with e2; omega))
  clear hb2 he2 hs2 HD1
  go_upto_region 2 with fail
  obtain ⟨g1, hg1⟩ : ∃ g1, g1 = w2.heap.size := ⟨_, rfl⟩
  rw [← hg1] at HK2 HG2 hA2 ⊢
  clear hg1
  generalize w2.alloc (.cells (liC A2 1 a2) 32) = w3 at *
  have x0 := HK2.out.c 0 _ rfl
  have HD2 := Lib.hid (do_any A2 1 a2 ex1 1 0 3 (by decide) (by decide) (by decide) (by omega) HSP2.out w3 HE2.out)
  rw [ex_do2] at HD2
  go_wp2_with fail
  refine HD2.out.mono ?_
  rintro r w4 ⟨hb4, A4, n4, a4, rfl, he4, hs4, _⟩
  have hn4 : n4 = 2 := he4.len.symm
  subst hn4
  have HK4 := Lib.hid (HK2.out.below hb4)
  have HB4 := Lib.hid (HB2.out.trans (hb4.mono HB2.out.size))
  have HE4 := Lib.hid he4
  have HSP4 := Lib.hid hs4
  clear hb4 he4 hs4 HD2 x0
  have x0 := HK4.out.c 0 _ rfl
  have f0 := HK4.out.fr 0
  go_upto_region 3 with fail
  have HK5 := Lib.hid (HK4.out.put A4 2 a4)
  have HE5 := Lib.hid (HE4.out.put HK4.out (li_no _ _ _) (.slice A4 2 a4))
  have HB5 := Lib.hid (show Below w.heap.size w (w4.setCell ⟨g1, 0, none⟩ (.slice A4 2 a4)) from HB4.out.setCell (by have := HG2.out; show _ ≤ g1; omega) _)
  clear x0 f0 HK4 HE4 HB4 HK2 HE2 HB2
  generalize w4.setCell ⟨g1, 0, none⟩ (.slice A4 2 a4) = w5 at *
  have x0 := HK5.out.c 0 _ rfl
  have hbn := below_new w5 (.cells #[.int .i64 1] 3)
  have HUN := Lib.hid (undo_any A4 2 a4 ex2 _ (some ⟨w5.heap.size, 0, none⟩) 1 1 [1] ex_open (by omega) (by omega) HSP4.out _ (HE5.out.below hbn) (Ls.new w5 [1] (by decide)))
  rw [ex_undo] at HUN
  have HB6 := Lib.hid (HB5.out.trans (hbn.mono HB5.out.size))
  clear hbn
  go_wp2_with fail
  refine HUN.out.mono ?_
  rintro r w7 ⟨hb7, A7, n7, a7, rfl, he7, hs7, _⟩
  have hn7 : n7 = 4 := he7.len.symm
  subst hn7
  have hb8 := below_new w7 (.cells (liC A7 4 a7) 32)
  have HB8 := Lib.hid ((HB6.out.trans (hb7.mono HB6.out.size)).trans (hb8.mono (HB6.out.trans (hb7.mono HB6.out.size)).size))
  have HE8 := Lib.hid (he7.below hb8)
  have HK8 := Lib.hid (Bk.new w7 (liC A7 4 a7) 32)
  clear hb7 he7 hs7 hb8 HUN x0
  go_upto_region 4 with fail
  generalize w7.heap.size = g7 at *
  generalize w7.alloc (.cells #[.slice A7 4 a7] 32) = w8 at *
  have x0 := HK8.out.c 0 _ rfl
  obtain ⟨b8, o8, e8, _, _, _, _, _, y2, _⟩ := HE8.out.eo (i := 2) (by omega)
  obtain ⟨b9, o9, e9, _, _, _, _, _, z2, z3⟩ := HE8.out.eo (i := 3) (by omega)
  rw [e8] at e9
  injection e9 with e9
  injection e9 with e9 e10
  subst e9; subst e10; subst e8
  replace y2 : w8.cell? ⟨b8, o8 + 8 + 2, none⟩ = some (.int .i64 (-3)) := y2
  replace z2 : w8.cell? ⟨b8, o8 + 12 + 2, none⟩ = some (.int .i64 (-5)) := z2
  replace z3 : w8.cell? ⟨b8, o8 + 12 + 3, none⟩ = some (.bool true) := z3
  have HSA := Lib.hid (sane_any (some ⟨b8, o8, none⟩) 4 a7 ex4 (by omega) w8 HE8.out)
  rw [ex_sane] at HSA
  go_wp2_with fail
  refine HSA.out.mono ?_
  rintro r w9 ⟨rfl, hb9⟩
  have HB9 := Lib.hid (HB8.out.trans (hb9.mono HB8.out.size))
  clear hb9 HSA
  go_wp2_with fail
  go_ret
  exact ⟨rfl, HB9.out⟩
end Go.Proofs.Ytpphhhalmccnbaa
