/-
  A sector's bytes copied out; a sector read into a frame of its own.
-/
import Derived.Test.YtnpgmiokimahiaaQg
namespace Go.Proofs.Ytnpgmiokimahiaa
set_option maxRecDepth 100000
set_option linter.unusedVariables false
set_option linter.unusedSimpArgs false
open Go.RowKit Pl

theorem run_nil_eql (t e : TypeId) (A : Option Addr) (n a : Nat) (h : Try.prog.underlying t = some (.slice e)) (V : World) : (binOp .eql t (.slice A n a) (.slice none 0 0)).run Try.prog V = .ok (.bool A.isNone) V := by
  simp only [binOp]
  simp [run_equal_slice_nil V t e A n a h]
theorem lit8 (w : World) : Owns (w.alloc (.cells #[] 5)) w.heap.size (some ⟨w.heap.size, 0, none⟩) 0 0 [] :=
  World.ownsRow_lit w #[] 0 (Nat.le_refl _) (by simp [maxLen]) rfl

/-- bytes that lie somewhere, in new memory -/
theorem clone8_any (w : World) (ad : Addr) (n c : Nat) (l : List UInt8) (hr : Rd w w.heap.size (some ad) l) (hn : l.length = n) (hm : n ≤ 1000) :
    Calls Try.prog 28 #[.slice (some ad) n c] w (Made w n l) := by
  have HR := Lib.hid (hr.below (below_new w (.cells #[] 5)))
  have HN := Lib.hid hn
  have hnil := fun V => run_nil_eql 33 _ (some ad) n c Try.underlying33 V
  simp only [Option.isNone_some] at hnil
  obtain ⟨i, hi, hz, hs, hb⟩ : ∃ i, Try.prog.info? 5 = some i ∧ i.zero = some (.int .u8 0) ∧ i.size = 1 ∧ i.bytes = 1 := by
    obtain ⟨i, h1, h2, h3, h4⟩ := parts_of (e := 5) (z := some (.int .u8 0)) (s := 1) (b := 1) (by kernel_rfl)
    exact ⟨i, h1, h2, h3, h4⟩
  have HI := Lib.hid (And.intro hi (And.intro hz (And.intro hs hb)))
  clear hr hn hi hz hs hb
  go_enter Try.func28, Try.ntmps28
  go_wp2_with (first
    | (at_builtin; refine wpList_append_rd rfl (.tmp 5) (.tmp 6) 33 rfl w.heap.size i Try.underlying33 HI.out.1 HI.out.2.1 HI.out.2.2.1 HI.out.2.2.2 (.slice (some ⟨w.heap.size, 0, none⟩) 0 0) 0 [] rfl (lit8 w) w.heap.size (some ad) l n c rfl HR.out HN.out (by omega) (by simp) ?_; intro v7 w7 hx1 hg1 ha1; have HO7 := Lib.hid hx1; have HG7 := Lib.hid hg1; clear hx1 hg1 ha1)
    | fail)
  go_ret
  refine Made.of_own (n := 0 + n) (by have := HO7.out; rwa [List.nil_append] at this) (Below.grown (below_new w _) HG7.out (by simp) (fun q e => by have e2 : w.heap.size = q := Option.some.inj e; omega)) (by omega)
end Go.Proofs.Ytnpgmiokimahiaa
