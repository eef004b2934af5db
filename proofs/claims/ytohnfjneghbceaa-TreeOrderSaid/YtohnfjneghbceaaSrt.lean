/-
  A row of IDs sorted by the comparison: the last to end first.
-/
import Derived.Test.YtohnfjneghbceaaOr
import Derived.Test.YtohnfjneghbceaaOrd
namespace Go.Proofs.Ytohnfjneghbceaa
set_option maxRecDepth 100000
set_option linter.unusedVariables false
open Go.RowKit Go.Shelf Go.Sort

theorem below_only (w : World) (os : Array Obj) : Below w.heap.size w (grow w os) :=
  ⟨rfl, rfl, rfl, by show w.heap.size ≤ (w.heap ++ os).size; simp, fun k hk => by show (w.heap ++ os)[k]? = _; rw [Array.getElem?_append_left hk]⟩
theorem turn_setCells (b : Nat) : ∀ (vs : List Value) (o : Nat) (W : World), Turn (fun k => k = b) W (W.setCells b o vs)
  | [], _, W => Turn.refl _ W
  | v :: r, o, W => ((Turn.refl (fun k => k = b) W).setCell ⟨b, o, none⟩ v (.inl rfl)).trans (turn_setCells b r (o + 1) _)
theorem turn_drewN (S : Nat → Prop) (w : World) (q : Nat) : Turn S w (w.drewN q) := ⟨rfl, rfl, rfl, Nat.le_refl _, fun _ _ _ => rfl⟩

def encN (N : Nat) (x : Fin N) : Value := .int .i64 (x.val : Int)
def cfN (T : Tr) (N : Nat) (x y : Fin N) : Int := T.cf x.val y.val
theorem lt_cfN (T : Tr) (N : Nat) (x y : Fin N) : ltOf (cfN T N) x y = decide ((T.tx y).e < (T.tx x).e ∨ ((T.tx y).e = (T.tx x).e ∧ y.val < x.val)) := by
  unfold ltOf cfN
  exact decide_eq_decide.2 (cf_neg T x.val y.val)
theorem swoN (T : Tr) (N : Nat) : SWO (ltOf (cfN T N)) where
  irrefl x := by rw [lt_cfN]; simp
  trans x y z h1 h2 := by
    rw [lt_cfN, decide_eq_true_eq] at *
    omega
  ntrans x y z h1 h2 := by
    rw [lt_cfN, decide_eq_false_iff_not] at *
    omega
theorem totN (T : Tr) (N : Nat) (x y : Fin N) (h1 : ltOf (cfN T N) x y = false) (h2 : ltOf (cfN T N) y x = false) : x = y := by
  rw [lt_cfN, decide_eq_false_iff_not] at h1 h2
  exact Fin.ext (by omega)

/-- sorted: the last to end first -/
def Sd (T : Tr) (L : List Nat) : Prop := L.Pairwise (fun x y => ¬ ((T.tx x).e < (T.tx y).e ∨ ((T.tx x).e = (T.tx y).e ∧ x < y)))

theorem sort_any (A : Option Addr) (T : Tr) (N k : Nat) (c : Int) (g q cap : Nat) (L0 : List Nat) (hN : T.l.length = N) (hn64 : N ≤ 64) (hL : ∀ x ∈ L0, x < N) (hlen : L0.length ≤ 64) (hne : 0 < L0.length) (w : World) (hT : TB w g A N k c) (hX : TxAt w A T.l) (hgq : g ≠ q) (hAq : ∀ b o, A = some ⟨b, o, none⟩ → b ≠ q)
    (hI : IdAt w (some ⟨q, 0, none⟩) L0) (hf : ∀ j, j < L0.length → w.frozen? ⟨q, j, none⟩ = false) :
    Calls Try.prog 58 #[.slice (some ⟨q, 0, none⟩) L0.length cap, .func (.func 59) #[] #[.pointer (some ⟨g, 0, none⟩)]] w fun e w' => e = .returned (.tuple #[]) ∧ Turn (fun b => b = q) w w' ∧ ∃ L : List Nat, L.Perm L0 ∧ Sd T L ∧ IdAt w' (some ⟨q, 0, none⟩) L := by
  rcases hI with ⟨h, _⟩ | ⟨b, eb, hb, hc⟩
  · cases h
  · injection eb with eb
    injection eb with eb
    subst eb
    obtain ⟨dl, hdl⟩ : ∃ dl : List (Fin N), dl.map Fin.val = L0 := ⟨L0.attach.map (fun x => ⟨x.1, hL x.1 x.2⟩), by simp [List.map_map, Function.comp_def]⟩
    have hdn : dl.length = L0.length := by rw [← hdl]; simp
    have hN0 : 0 < N := by
      have h := hL (L0[0]) (List.getElem_mem hne)
      omega
    haveI : Inhabited (Fin N) := ⟨⟨0, hN0⟩⟩
    have hH : Holds (encN N) w q 0 dl.toArray := by
      intro j hj
      have hj' : j < dl.length := by simpa using hj
      rw [Nat.zero_add]
      refine ⟨?_, hf j (by omega)⟩
      rw [getElem!_pos dl.toArray j hj]
      refine hc j _ ?_
      rw [← hdl, List.getElem?_map, List.getElem?_eq_getElem hj']
      simp
    have eg : ∀ args w, (callFunc 59 args).run Try.prog w = .ok (.enter 59 args) w := enters_of Try.func59 (by kernel_rfl) rfl
    have turnW : ∀ (m : Nat) (os : Array Obj) (ys : List (Fin N)), ys.length = dl.length → Turn (fun b => b = q) w (sortWorld (encN N) w q 0 m ys.toArray os) := by
      intro m os ys hys
      unfold sortWorld
      rw [Lib.putRow_eq_setCells (encN N) w q 0 dl.toArray ys m hH (by simpa using hys)]
      exact ((turn_drewN _ w m).trans (turn_setCells q _ 0 _)).trans (Turn.ofBelow (below_only _ os))
    have hcmp : CmpLays1 Try.prog 59 #[.pointer (some ⟨g, 0, none⟩)] (encN N) (cfN T N) q 0 dl.toArray.size w := by
      intro m os dk hdk x y
      have ht := turnW m os dk.toList (by simpa using hdk)
      rw [show dk.toList.toArray = dk from by simp] at ht
      exact less_any A T N k c g x.val y.val x.isLt y.isLt hN hn64 _ (hT.turn ht hgq) (hX.turn ht (fun b o e => .inr (hAq b o e)))
    have hS := Any.slices_SortFunc_total Try.sortL (encN N) (fun _ => rfl) (cfN T N) (swoN T N) 59 #[.pointer (some ⟨g, 0, none⟩)] q 0 cap dl.toArray w eg hcmp hH hb (by simp; omega) (totN T N)
    rw [show dl.toArray.size = L0.length from by simpa using hdn] at hS
    refine Calls.mono hS ?_
    rintro e w' ⟨rfl, n, os, rfl⟩
    obtain ⟨ys, hys⟩ : ∃ ys, ys = dl.mergeSort (fun x y => !(ltOf (cfN T N)) y x) := ⟨_, rfl⟩
    have hp : ys.Perm dl := by rw [hys]; exact List.mergeSort_perm _ _
    have hso : ys.Pairwise (fun x y => (!(ltOf (cfN T N)) y x) = true) := by
      rw [hys]
      refine List.pairwise_mergeSort (fun a b c h1 h2 => ?_) (fun a b => ?_) dl
      · simp only [Bool.not_eq_true'] at *
        exact (swoN T N).ntrans _ _ _ h2 h1
      · cases h1 : ltOf (cfN T N) b a with
        | false => rfl
        | true =>
          cases h2 : ltOf (cfN T N) a b with
          | false => rfl
          | true =>
            have h3 := (swoN T N).trans _ _ _ h1 h2
            rw [(swoN T N).irrefl] at h3
            cases h3
    have hl := hp.length_eq
    have hT2 := turnW n os ys hl
    rw [show (dl.toArray.toList.mergeSort fun x y => !(ltOf (cfN T N)) y x).toArray = ys.toArray from by rw [hys]]
    refine ⟨rfl, hT2, ys.map Fin.val, by rw [← hdl]; exact hp.map _, ?_, .inr ⟨q, rfl, Nat.lt_of_lt_of_le hb hT2.size, ?_⟩⟩
    · unfold Sd
      rw [List.pairwise_map]
      refine hso.imp (fun {x y} h => ?_)
      rw [Bool.not_eq_true', lt_cfN, decide_eq_false_iff_not] at h
      exact h
    · intro j x hx
      rw [List.getElem?_map] at hx
      have hj : j < ys.length := by
        rcases Nat.lt_or_ge j ys.length with h | h
        · exact h
        · rw [List.getElem?_eq_none h] at hx; cases hx
      rw [List.getElem?_eq_getElem hj] at hx
      injection hx with hx
      unfold sortWorld
      rw [Lib.putRow_eq_setCells (encN N) w q 0 dl.toArray ys n hH (by simpa using hl)]
      have h1 := World.cell?_setCells_in q (ys.map (encN N)) 0 (w.drewN n) (fun i hi => by
        have hi' : i < dl.length := by rw [← hl]; simpa using hi
        have h2 := (hH i (by simpa using hi')).1
        show ((w.cell? ⟨q, 0 + i, none⟩).isSome) = true
        rw [h2]; rfl) j (by simpa using hj)
      rw [Nat.zero_add] at h1
      refine ((below_only _ os).cell (p := ⟨q, j, none⟩) (block_lt_of_cell h1)).trans (h1.trans ?_)
      rw [List.getElem_map, ← hx]; rfl
end Go.Proofs.Ytohnfjneghbceaa
