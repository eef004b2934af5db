/-
  The document's example, as the statements' own first look has it: it is always so.
-/
import Derived.Test.YtgmnhaohbpclkaaPut
namespace Go.Proofs.Ytgmnhaohbpclkaa
open Go.RowKit Wm

/-- the bytes of an owned row of a known length, cell by cell -/
theorem Owns.at_ {w : World} {base : Nat} {A : Option Addr} {cap n : Nat} {l : List UInt8} (h : Owns w base A cap n l) (hn : 0 < n) : ∃ g, A = some ⟨g, 0, none⟩ ∧ g < w.heap.size ∧ base ≤ g ∧ ∀ j x, l[j]? = some x → w.cell? ⟨g, j, none⟩ = some (byteV x) := by
  have hlen := h.len
  rcases h.2 with ⟨e, h0⟩ | ⟨g, c, cur, e, hb, hh, _, _, _, _⟩
  · omega
  · injection e with e1 _ e3
    subst e1
    refine ⟨g, rfl, (h.lt g rfl).2, hb, fun j x hx => ?_⟩
    have hj := h.cells (g := g) rfl j (byteV x) (by simp [byteVs, hx])
    unfold Addr.add at hj
    split at hj
    · next h0 => subst h0; exact hj
    · simpa using hj

theorem put_example (w : World) : Calls Try.prog 10 #[.slice none 0 0, .int .u64 258, .int .i64 2] w (Made w 2 [2, 1]) :=
  put_any none 0 0 [] rfl 258 2 w (Rd.nil _ _ _) (by omega) (by omega) (by omega)
theorem signed_example (w : World) : Calls Try.prog 12 #[.slice none 0 0, .int .i64 (-1)] w (Made w 8 [255, 255, 255, 255, 255, 255, 255, 255]) :=
  signed_any none 0 0 [] rfl (-1) w (Rd.nil _ _ _) (by omega)

set_option maxHeartbeats 400000 in
theorem awake_any (w : World) : Calls Try.prog 9 #[] w fun e w' => e = .returned (.bool true) ∧ Below w.heap.size w w' := by
  go_enter Try.func9, Try.ntmps9
  go_wp2_with fail
  refine (put_example w).mono ?_
  rintro e w1 ⟨A1, c1, rfl, ho1, hb1⟩
  go_wp2_with fail
  refine (signed_example w1).mono ?_
  rintro e w2 ⟨A2, c2, rfl, ho2, hb2⟩
  obtain ⟨g1, rfl, hl1, hg1, hc1⟩ := ho1.at_ (by decide)
  obtain ⟨g2, rfl, hl2, hg2, hc2⟩ := ho2.at_ (by decide)
  have k0 : w2.cell? ⟨g1, 0, none⟩ = some (.int .u8 2) := (hb2.cell (by exact hl1)).trans (hc1 0 2 rfl)
  have k1 : w2.cell? ⟨g1, 1, none⟩ = some (.int .u8 1) := (hb2.cell (by exact hl1)).trans (hc1 1 1 rfl)
  have k2 : w2.cell? ⟨g2, 7, none⟩ = some (.int .u8 255) := hc2 7 255 rfl
  have hbb : Below w.heap.size w w2 := hb1.trans (hb2.mono hb1.size)
  clear hc1 hc2 ho1 ho2 hb1 hb2
  go_wp2_with fail
  go_ret
  exact ⟨rfl, hbb⟩

end Go.Proofs.Ytgmnhaohbpclkaa
