/-
  How many one stands in.
-/
import Derived.Test.YtglbcplkfmppnaaUp
namespace Go.Proofs.Ytglbcplkfmppnaa
set_option maxRecDepth 100000
set_option linter.unusedVariables false
open Go.RowKit Go.Shelf
attribute [local go_sem] Oper.semAt_some

theorem len_ids {n : Nat} {xs : List (Id n)} {l : List Nat} (h : xs.map (·.val) = l) : xs.length = l.length := by rw [← h]; simp

set_option maxHeartbeats 4000000 in
theorem deep_any (A : Option Addr) (T : Tr) (N cap : Nat) (c i : Int) (hN : T.l.length = N) (hG : Good T) (w : World) (hT : TxAt w A T.l) :
    Calls Try.prog 37 #[.agg #[.slice A N cap, .int .i64 c], .int .i64 i] w fun e w' => e = .returned (.int .i64 ((T.way i).length : Int)) ∧ Below w.heap.size w w' := by
  refine (callsIn_wide (n := 9)).1 ?_
  refine callsIn_of_wp_marks Try.func37 rfl trivial ?_ rfl
  simp only [Try.ntmps37, List.size_toArray, List.length_cons, List.length_nil, Nat.reduceAdd, Nat.reduceSub, Array.replicate_succ, Array.replicate_zero, List.push_toArray, List.append_toArray, List.nil_append, List.cons_append]
  have HG := Lib.hid hG
  have HT := Lib.hid hT
  have HN := Lib.hid hN
  clear hG hT hN
  gi_wp2_with fail
  have hc := (cell_new (w.alloc (.cells #[.slice A N cap, .int .i64 c] 26)) #[.int .i64 0] 3 0).trans rfl
  have hf := frozen_new (w.alloc (.cells #[.slice A N cap, .int .i64 c] 26)) #[.int .i64 0] 3 0
  have HB := Lib.hid (below_two (below_new w (.cells #[.slice A N cap, .int .i64 c] 26)) (below_new _ (.cells #[.int .i64 0] 3)))
  have hs : ((w.alloc (.cells #[.slice A N cap, .int .i64 c] 26)).alloc (.cells #[.int .i64 0] 3)).heap.size = w.heap.size + 2 := by simp
  rw [World.size_alloc] at hc hf
  have HT2 := Lib.hid (HT.out.below HB.out)
  have HA := Lib.hid HT.out.lt
  have HC := Lib.hid hc
  have HF := Lib.hid hf
  have HS := Lib.hid hs
  clear hc hf hs HT
  generalize (w.alloc (.cells #[.slice A N cap, .int .i64 c] 26)).alloc (.cells #[.int .i64 0] 3) = w2 at *
  refine ⟨trivial, (callsIn_wide.2 (up_any A N cap c i w2)).mono ?_⟩
  rintro e w3 ⟨rfl, rfl⟩
  gi_wp2_with fail
  refine wpIn_rangeFunc_ownF rfl (by omega) (gf := 40) (lb := #[.pointer (some ⟨w2.heap.size + 1, 0, none⟩), .pointer (some ⟨w2.heap.size, 0, none⟩)]) rfl trivial (enters_of Try.func40 (by kernel_rfl) rfl)
    (up_stops 8 (by omega) (fun k => k = w.heap.size + 1 ∨ w2.heap.size + 2 ≤ k) A T N cap c i HN.out HG.out w2 HT2.out (fun b o e => (HA.out b o e).imp id (fun h h2 => by have := HS.out; omega)) (fun h => by have := HS.out; omega)) Kp.t (Kp.b (by simp; omega)) (Below.refl _ _) (fun _ => rfl)
    (fun pre W => (W.cell? ⟨w.heap.size + 1, 0, none⟩ = some (.int .i64 (pre.length : Int)) ∧ W.frozen? ⟨w.heap.size + 1, 0, none⟩ = false) ∧ Below w.heap.size w W)
    (fun _ _ _ => False)
    (OwnFrom.and (Own.from (fun s A B row hs hg hr => ⟨cell_kept hs.1 hg hr, (frozen_kept hs.1 hg hr).trans hs.2⟩) _) (ownFrom_below (Nat.le_refl _) (by have := HS.out; simp; omega)))
    (fun _ _ _ _ _ hs _ _ => hs)
    ⟨⟨cell_al _ (cell_al _ HC.out), (frozen_kept (cell_al _ HC.out) (World.grownBy_alloc _ _ none) (fun r e => by cases e)).trans ((frozen_kept HC.out (World.grownBy_alloc _ _ none) (fun r e => by cases e)).trans HF.out)⟩, HB.out.trans (((below_new w2 _).trans ((below_new _ _).mono (by simp))).mono HB.out.size)⟩
    ?acts ?assign ?body ?done ?stop
  case assign =>
    intro l x W K hK
    gi_wp2
    exact hK
  case body =>
    rintro l pre x W ⟨⟨hc, hf⟩, hB⟩ hlen
    have hn8 : pre.length < 9 := hlen
    have wr : IntKind.i64.wrap ((pre.length : Int) + 1) = ((pre.length + 1 : Nat) : Int) := by simp [IntKind.wrap, IntKind.bits, IntKind.signed]; omega
    have HB3 := Lib.hid hB
    clear hB hlen
    gi_wp2
    refine ⟨KeepsOthers.setCell _ _ _, ⟨KeepsWalks.setCell _ _ _, (Turn.refl _ W).setCell _ _ (.inl (.inl rfl))⟩, ⟨?_, ?_⟩, HB3.out.setCell (by simp) _⟩
    · rw [World.cell?_setCell_same' _ _ _ (by rw [hc]; rfl)]; simp
    · rw [World.frozen?_setCell]; exact hf
  case done =>
    rintro D ys W hD hys ⟨⟨hc, hf⟩, hB⟩ hK
    have HB3 := Lib.hid hB
    have HD := Lib.hid hD
    clear hB hD
    gi_wp2
    refine ⟨by simp, .inl ⟨_, _, rfl, run_takeDeferred hK, ?_⟩⟩
    exact ⟨_, results_tmp rfl _ _ _, by rw [len_ids hys]; rfl, HB3.out.trans ((Turn.refl (fun k => k = D) W).grown (grownBy_putObj' W D _) (fun j e => by cases e; exact .inl rfl) |>.below (fun k e => by have h1 := HD.out; have h2 := HS.out; simp at h1; omega) HB3.out.size)⟩
  case stop =>
    rintro D c pre W _ _ h _
    exact h.elim
end Go.Proofs.Ytglbcplkfmppnaa
