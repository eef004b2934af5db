/-
  How many one stands in.
-/
import Derived.Test.YtohnfjneghbceaaUp
import Derived.RangeFuncWrites
import Derived.Maps.OwnIn
import Derived.Maps.OwnSet
namespace Go.Proofs.Ytohnfjneghbceaa
set_option maxRecDepth 100000
set_option linter.unusedVariables false
open Go.RowKit Go.Shelf
attribute [local go_sem] Oper.semAt_some

theorem len_ids {n : Nat} {xs : List (Id n)} {l : List Nat} (h : xs.map (·.val) = l) : xs.length = l.length := by rw [← h]; simp

theorem nodup_of_map {n : Nat} {xs : List (Id n)} (h : (xs.map (·.val)).Nodup) : xs.Nodup := by
  rw [List.nodup_iff_pairwise_ne, List.pairwise_map] at h
  exact h.imp fun hn e => hn (by rw [e])
theorem way_nodup {T : Tr} (i : Int) : (T.way i).Nodup := by
  unfold Tr.way
  split
  · exact wayN_nodup _ _
  · exact List.nodup_nil

open Go.Maps in
set_option maxHeartbeats 4000000 in
theorem deep_any (A : Option Addr) (T : Tr) (N cap : Nat) (c i : Int) (hN : T.l.length = N) (hG : Good T) (w : World) (hT : TxAt w A T.l) :
    Calls Try.prog 18 #[.agg #[.slice A N cap, .int .i64 c], .int .i64 i] w fun e w' => e = .returned (.int .i64 ((T.way i).length : Int)) ∧ Below w.heap.size w w' := by
  have hmm := @run_makeMap Try.prog
  refine (callsIn_wide (n := 9)).1 ?_
  refine callsIn_of_wp_marks Try.func18 rfl trivial ?_ rfl
  simp only [Try.ntmps18, List.size_toArray, List.length_cons, List.length_nil, Nat.reduceAdd, Nat.reduceSub, Array.replicate_succ, Array.replicate_zero, List.push_toArray, List.append_toArray, List.nil_append, List.cons_append]
  have HG := Lib.hid hG
  have HT := Lib.hid hT
  have HN := Lib.hid hN
  clear hG hT hN
  gi_wp2_with fail
  have hm0 := World.ownsMap_made (w.alloc (.cells #[.slice A N cap, .int .i64 c] 26)) Try.prog 3 (unitElem (H := Unit))
  have hc := (cell_new ((w.alloc (.cells #[.slice A N cap, .int .i64 c] 26)).alloc (.map #[] 0)) #[.map (some (w.heap.size + 1))] 78 0).trans rfl
  have HB := Lib.hid (below_two (below_two (below_new w (.cells #[.slice A N cap, .int .i64 c] 26)) (below_new _ (.map #[] 0))) (below_new _ (.cells #[.map (some (w.heap.size + 1))] 78)))
  have hs : (((w.alloc (.cells #[.slice A N cap, .int .i64 c] 26)).alloc (.map #[] 0)).alloc (.cells #[.map (some (w.heap.size + 1))] 78)).heap.size = w.heap.size + 3 := by simp
  rw [World.size_alloc, World.size_alloc] at hc
  rw [World.size_alloc] at hm0
  have HM := Lib.hid (hm0.alloc (.cells #[.map (some (w.heap.size + 1))] 78))
  have HT2 := Lib.hid (HT.out.below HB.out)
  have HA := Lib.hid HT.out.lt
  have HC := Lib.hid hc
  have HS := Lib.hid hs
  clear hc hs HT hm0
  generalize ((w.alloc (.cells #[.slice A N cap, .int .i64 c] 26)).alloc (.map #[] 0)).alloc (.cells #[.map (some (w.heap.size + 1))] 78) = w2 at *
  refine ⟨trivial, (callsIn_wide.2 (up_any A N cap c i w2)).mono ?_⟩
  rintro e w3 ⟨rfl, rfl⟩
  gi_wp2_with fail
  refine wpIn_rangeFunc_ownG rfl (by omega) (gf := 62) (lb := #[.pointer (some ⟨w2.heap.size + 1, 0, none⟩), .pointer (some ⟨w2.heap.size, 0, none⟩)]) rfl trivial (enters_of Try.func62 (by kernel_rfl) rfl)
    (up_stopsK (Turn fun k => k = w.heap.size + 1 ∨ w2.heap.size + 2 ≤ k) 8 (by omega) (fun k => k = w.heap.size + 1 ∨ w2.heap.size + 2 ≤ k) A T N cap c i HN.out HG.out w2 HT2.out (fun b o e => (HA.out b o e).imp id (fun h h2 => by have := HS.out; omega)) (fun h => by have := HS.out; omega) (fun _ _ h => h)) (fun h k => h.trans k) (fun W l o o' hl _ _ _ => (Turn.refl _ W).grown (grownBy_putObj' W l o') (fun j e => by cases e; simp at hl; exact .inl (.inr (by omega)))) (Below.refl _ _) (fun _ => rfl)
    (fun pre W => (W.cell? ⟨w.heap.size + 2, 0, none⟩ = some (.map (some (w.heap.size + 1))) ∧ ∃ D, W.ownsMap Try.prog 3 (unitElem (H := Unit)) (w.heap.size + 1) pre.length D ∧ (∀ y : Int, Maps.has D (.int .i64 y) = true → ∃ x ∈ pre, y = (x.val : Int)) ∧ (pre.Nodup → Maps.size D = pre.length)) ∧ Below w.heap.size w W)
    (fun _ _ _ => False)
    (OwnFrom.and (fun s X Y row hs hg hr => ⟨cell_kept hs.1 hg (fun r e => (hr r e).2), let ⟨D, h1, h2⟩ := hs.2; ⟨D, h1.kept hg (fun e => by have := (hr _ e.symm).1; have := HS.out; simp at *; omega), h2⟩⟩) (ownFrom_below (Nat.le_refl _) (by have := HS.out; simp; omega)))
    (fun _ _ _ _ _ hs _ _ => hs)
    ⟨⟨cell_al _ (cell_al _ HC.out), .map [], (HM.out.alloc _).alloc _, fun y h => by simp [Maps.has_eq] at h, fun _ => rfl⟩, HB.out.trans (((below_new w2 _).trans ((below_new _ _).mono (by simp))).mono HB.out.size)⟩
    ?acts ?assign ?body ?done ?stop
  case assign =>
    intro l x W K hK
    gi_wp2
    exact hK
  case body =>
    rintro l pre x W ⟨⟨hc, D, hown, hD, hz⟩, hB⟩ hlen
    have HD := Lib.hid hD
    have HZ := Lib.hid hz
    have hn8 : pre.length < 9 := hlen
    have hn64 : N ≤ 64 := by have := HG.out.n; have := HN.out; omega
    have hx := x.isLt
    have hkey : keyOf Try.prog 3 (.int .i64 (x.val : Int)) = some (.int .i64 (x.val : Int)) := Maps.keyOf_int_mk Try.underlying3 (wfN (by omega) (by omega))
    have HB3 := Lib.hid hB
    clear hB hlen hD hz
    gi_wp2_with (first | (gi_at_mapUpdate; refine wpListIn_mapUpdate_own _ rfl _ _ _ 78 rfl 3 79 (Maps.int_keyed Try.underlying3) Try.underlying78 unitElem (w.heap.size + 1) pre.length D rfl hown (by unfold maxLen; omega) _ _ _ rfl rfl hkey _ [] unitElem_mk ?_; intro w1 hown1 hg1) | fail)
    have hle := HB3.out.size
    have ht : Tidy D := hown.tidy (Maps.int_keyed Try.underlying3)
    have hkl : WideAt.IsKeyLit (Lit.int .i64 (x.val : Int)) := trivial
    obtain ⟨es, ck, hh, _⟩ := hown
    refine ⟨KeepsFrom.of_grownBy hg1 (fun j e => by cases e; have := HS.out; simp; omega), (Turn.refl _ W).grown hg1 (fun j e => by cases e; exact .inl (.inl rfl)), ⟨cell_kept hc hg1 (fun r e => by cases e; exact ⟨_, hh, rfl⟩), _, by rw [List.length_append]; exact hown1, fun y hy => ?_, fun hnd => ?_⟩, HB3.out.grown hg1 hle (fun k e => by cases e; omega)⟩
    · by_cases he : y = (x.val : Int)
      · exact ⟨x, by simp, he⟩
      · rw [has_put_other (by intro e; injection e with _ e; exact he e)] at hy
        obtain ⟨z, hz, e⟩ := HD.out y hy
        exact ⟨z, by simp [hz], e⟩
    · rw [size_put ht]
      have hno : Maps.has D (.int .i64 (x.val : Int)) = false := by
        cases hh2 : Maps.has D (.int .i64 (x.val : Int)) with
        | false => rfl
        | true =>
          obtain ⟨z, hz, e⟩ := HD.out _ hh2
          have : z = x := Fin.ext (by omega)
          subst this
          rw [List.nodup_append] at hnd
          exact (hnd.2.2 z hz z (by simp) rfl).elim
      rw [hno, HZ.out (List.nodup_append.1 hnd).1]
      simp
  case done =>
    rintro D ys W hD hys ⟨⟨hc, M, hown, hM, hz⟩, hB⟩ hK
    have HB3 := Lib.hid hB
    have HD := Lib.hid hD
    clear hB hD
    have hl := fun ty => hown.len Try.underlying78 ty
    gi_wp2
    refine ⟨by simp, .inl ⟨_, _, rfl, run_takeDeferred hK, ?_⟩⟩
    refine ⟨_, results_tmp rfl _ _ _, ?_, HB3.out.trans ((Turn.refl (fun k => k = D) W).grown (grownBy_putObj' W D _) (fun j e => by cases e; exact .inl rfl) |>.below (fun k e => by have h1 := HD.out; have h2 := HS.out; simp at h1; omega) HB3.out.size)⟩
    have hnd : ys.Nodup := nodup_of_map (by rw [hys]; exact way_nodup i)
    show Ending.returned (Value.int .i64 (Maps.size M : Int)) = _
    rw [hz hnd, len_ids hys]
  case stop =>
    rintro D c pre W _ _ h _
    exact h.elim
end Go.Proofs.Ytohnfjneghbceaa
