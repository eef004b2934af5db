/-
  Numbers folded: into a wide number, into two.
-/
import Derived.Test.YtpphhhalmccnbaaSm
namespace Go.Proofs.Ytpphhhalmccnbaa
set_option maxRecDepth 100000
set_option linter.unusedVariables false
set_option linter.unusedSimpArgs false
open Go.RowKit

/-- ints -/
def RI : Rk Int := ⟨3, 28, 1, 8, .int .i64 0, fun x => [.int .i64 x]⟩
theorem ri_ok : RI.Ok := ⟨by decide, by decide, fun _ => rfl, fun x v hv => by simp [RI] at hv; subst hv; rfl, Try.underlying28, by kernel_rfl, rfl⟩
theorem ri_cells (l : List Int) : RI.cells l = l.map (Value.int .i64) := by
  induction l with
  | nil => rfl
  | cons x l ih =>
    unfold Rk.cells at ih ⊢
    rw [List.flatMap_cons, ih]; rfl
/-- so many ints lie there -/
structure Ls (W : World) (A : Option Addr) (n : Nat) (l : List Int) : Prop where
  len : l.length = n
  ok : ∀ x ∈ l, okI x
  at_ : RI.At W A l
section
variable {W V : World} {A : Option Addr} {n : Nat} {l : List Int}
theorem Ls.below (h : Ls W A n l) (hb : Below W.heap.size W V) : Ls V A n l := ⟨h.len, h.ok, h.at_.below hb⟩
theorem Ls.get (h : Ls W A n l) {i : Nat} (hi : i < n) : ∃ b o, A = some ⟨b, o, none⟩ ∧ b < W.heap.size ∧ okI (l.getD i 0) ∧ l[i]? = some (l.getD i 0) ∧ W.cell? ⟨b, o + i, none⟩ = some (.int .i64 (l.getD i 0)) := by
  have hl : i < l.length := by rw [h.len]; exact hi
  have hx : l[i]? = some (l.getD i 0) := by rw [List.getD_eq_getElem?_getD, List.getElem?_eq_getElem hl]; rfl
  obtain ⟨b, o, e, hb, hc⟩ := h.at_.get ri_ok hx
  have hc0 := hc 0 (.int .i64 (l.getD i 0)) rfl
  rw [show i * RI.m + 0 = i from by show i * 1 + 0 = i; omega] at hc0
  exact ⟨b, o, e, hb, h.ok _ (List.mem_of_getElem? hx), hx, hc0⟩
end

theorem Ls.new (w : World) (l : List Int) (h : ∀ x ∈ l, okI x) : Ls (w.alloc (.cells (l.map (Value.int .i64)).toArray 3)) (some ⟨w.heap.size, 0, none⟩) l.length l :=
  ⟨rfl, h, .inr ⟨w.heap.size, 0, rfl, by simp, fun j u hu => by rw [Nat.zero_add, cell_new, ← hu, ri_cells]; simp⟩⟩

/-- bools that came in -/
def BoolsAt (w : World) (A : Option Addr) (n : Nat) (f : Nat → Bool) : Prop :=
  n = 0 ∨ ∃ b o, A = some ⟨b, o, none⟩ ∧ b < w.heap.size ∧ ∀ i, i < n → w.cell? ⟨b, o + i, none⟩ = some (.bool (f i))
theorem BoolsAt.below {w W : World} {A : Option Addr} {n : Nat} {f : Nat → Bool} (h : BoolsAt w A n f) (hb : Below w.heap.size w W) : BoolsAt W A n f := by
  rcases h with h | ⟨b, o, e, hl, hc⟩
  · exact .inl h
  · exact .inr ⟨b, o, e, Nat.lt_of_lt_of_le hl hb.size, fun i hi => (hb.cell (p := ⟨b, o + i, none⟩) hl).trans (hc i hi)⟩
/-- an address of a slice -/
def Sp (A : Option Addr) : Prop := A = none ∨ ∃ b o, A = some ⟨b, o, none⟩

theorem far_sum {l : List Int} (h : ∀ x ∈ l, okI x) (hn : l.length ≤ 4096) : far (sumI l) := by
  have key : ∀ m : List Int, (∀ x ∈ m, okI x) → -9223372036854775808 * (m.length : Int) ≤ sumI m ∧ sumI m ≤ 9223372036854775807 * (m.length : Int) := by
    intro m hm
    induction m with
    | nil => simp [sumI_nil]
    | cons x m ih =>
      have h1 := ih (fun y hy => hm y (List.mem_cons_of_mem _ hy))
      have h2 := hm x (List.mem_cons_self ..)
      unfold okI at h2
      rw [sumI_cons, List.length_cons]
      omega
  have h2 := key l h
  unfold far
  omega

section
variable {W : World} {g k i : Nat} {cs : Array Value} {x y u v : Int} {t : TypeId}
theorem Bk.oth (h : Bk W g cs t) (hk : g ≠ k) (i : Nat) (v : Value) : Bk (W.setCell ⟨k, i, none⟩ v) g cs t := (heap_setCell_other _ _ _ _ (by exact hk)).trans h
theorem Bk.setw (h : Bk W g (wdC x) t) (y : Int) : Bk ((W.setCell ⟨g, 0, none⟩ (.int .i64 (whi y))).setCell ⟨g, 1, none⟩ (.int .u64 (wlo y))) g (wdC y) t :=
  heap_setCell_same _ g 1 _ _ (.int .u64 (wlo y)) (heap_setCell_same W g 0 _ _ (.int .i64 (whi y)) h)
theorem Bk.sete (h : Bk W g (enC x y) t) (u v : Int) : Bk ((((W.setCell ⟨g, 0, none⟩ (.int .i64 (whi u))).setCell ⟨g, 1, none⟩ (.int .u64 (wlo u))).setCell ⟨g, 2, none⟩ (.int .i64 (whi v))).setCell ⟨g, 3, none⟩ (.int .u64 (wlo v))) g (enC u v) t :=
  heap_setCell_same _ g 3 _ _ (.int .u64 (wlo v)) (heap_setCell_same _ g 2 _ _ (.int .i64 (whi v)) (heap_setCell_same _ g 1 _ _ (.int .u64 (wlo u)) (heap_setCell_same W g 0 _ _ (.int .i64 (whi u)) h)))
end

theorem sum_ok {l : List Int} {n : Nat} (h : ∀ x ∈ l, okI x) (hl : l.length = n) (hn : n ≤ 4096) (j : Nat) : far (sumI (l.take j)) :=
  far_sum (fun x hx => h x (List.mem_of_mem_take hx)) (by rw [List.length_take]; omega)

set_option maxHeartbeats 1000000 in
theorem wfold_any (A : Option Addr) (n c : Nat) (l : List Int) (hn : n ≤ 4096) (w : World) (hl : Ls w A n l) :
    Calls Try.prog 47 #[.slice A n c, wdV 0, .func (.func 48) #[] #[]] w fun e w' => e = .returned (wdV (sumI l)) ∧ Below w.heap.size w w' := by
  have HX := Lib.hid ((Bk.new w (wdC 0) 103).al (.cells wd0 103))
  have HY := Bk.new (w.alloc (.cells (wdC 0) 103)) wd0 103
  rw [size_al] at HY
  have HY := Lib.hid HY
  have HB := Lib.hid (below_two (below_new w (.cells (wdC 0) 103)) (below_new _ (.cells wd0 103)))
  have HL := Lib.hid hl
  have HF := Lib.hid (sum_ok hl.ok hl.len hn)
  clear hl
  go_enter Try.func47, Try.ntmps47
  go_wp2_with fail
  go_loopw [11] (fun u wr => ∃ j : Nat, u = .int .i64 (j : Int) ∧ j ≤ n ∧ Hid (Bk wr w.heap.size (wdC (sumI (l.take j))) 103) ∧ Hid (Bk wr (w.heap.size + 1) wd0 103) ∧ Hid (Below w.heap.size w wr)) (fun u _ => n - (intOf u).toNat)
  case atStart => exact ⟨0, rfl, Nat.zero_le _, HX, HY, HB⟩
  case round =>
    obtain ⟨j, rfl, hj, HXj, HYj, HBj⟩ := hrel
    have x0 := HXj.out.w0
    have x1 := HXj.out.w1
    rcases Nat.lt_or_ge j n with hlt | hge
    · obtain ⟨b, o, rfl, hb, hz, hget, hc⟩ := HL.out.get hlt
      have cz := (HBj.out.cell (p := ⟨b, o + j, none⟩) hb).trans hc
      have HS := Lib.hid (sumI_take_succ hget)
      generalize l.getD j 0 = z at *
      have hp := wplus_any (sumI (l.take j)) z (HF.out j) hz
      have hd : decide ((j : Int) < (n : Int)) = true := decide_eq_true (by omega)
      have hd2 : decide (j < n) = true := decide_eq_true hlt
      clear hc hget hz hb
      go_wp2_with fail
      refine (hp _).mono ?_
      rintro e w2 ⟨rfl, hb2⟩
      rw [← HS.out]
      have HX2 := Lib.hid (HXj.out.below hb2)
      have HY2 := Lib.hid (HYj.out.below hb2)
      have HB2 := Lib.hid (HBj.out.trans (hb2.mono HBj.out.size))
      clear hb2 HXj HYj HBj x0 x1 hp
      have x0 := HX2.out.w0
      have x1 := HX2.out.w1
      have f0 := HX2.out.fr 0
      have f1 := HX2.out.fr 1
      go_wp2_with fail
      refine ⟨⟨j + 1, rfl, hlt, Lib.hid (HX2.out.setw _), Lib.hid ((HY2.out.oth (by omega) _ _).oth (by omega) _ _), Lib.hid ((HB2.out.setCell (Nat.le_refl _) _).setCell (Nat.le_refl _) _)⟩, by simp [intOf]; omega⟩
    · obtain rfl : j = n := by omega
      have hd : decide ((j : Int) < (j : Int)) = false := decide_eq_false (by omega)
      have hd2 : decide (j < j) = false := decide_eq_false (by omega)
      have y0 : wr.cell? ⟨w.heap.size + 1, 0, none⟩ = some (.int .i64 0) := HYj.out.c 0 _ rfl
      have y1 : wr.cell? ⟨w.heap.size + 1, 1, none⟩ = some (.int .u64 0) := HYj.out.c 1 _ rfl
      have f0 := HYj.out.fr 0
      have f1 := HYj.out.fr 1
      have hlj : l.take j = l := List.take_of_length_le (by rw [HL.out.len]; exact Nat.le_refl _)
      rw [hlj] at x0 x1
      go_wp2_with fail
      exact bodyPost_ret (v := wdV (sumI l)) (by rw [results_cell_one rfl]; go_simp) rfl ⟨rfl, (HBj.out.setCell (Nat.le_succ _) _).setCell (Nat.le_succ _) _⟩
theorem eplus_take {v : Int} {l : List Int} {i : Nat} {x : Int} (h : l[i]? = some x) :
    enV (loI v (l.take (i + 1))) (hiI v (l.take (i + 1))) = (if x < 0 then enV (loI v (l.take i) + x) (hiI v (l.take i)) else enV (loI v (l.take i)) (hiI v (l.take i) + x)) := by
  rw [loI_take_succ h, hiI_take_succ h]
  split <;> simp
theorem ends_far {v : Int} {l : List Int} (hv : okI v) (h : ∀ x ∈ l, okI x) (hn : l.length ≤ 4096) : far (loI v l) ∧ far (hiI v l) := by
  have key : ∀ m : List Int, (∀ x ∈ m, okI x) → -9223372036854775808 * (m.length : Int) ≤ sumI (lows m) ∧ sumI (highs m) ≤ 9223372036854775807 * (m.length : Int) := by
    intro m hm
    induction m with
    | nil => simp [sumI_nil, lows, highs]
    | cons x m ih =>
      have h1 := ih (fun y hy => hm y (List.mem_cons_of_mem _ hy))
      have h2 := hm x (List.mem_cons_self ..)
      unfold okI at h2
      unfold lows highs at h1 ⊢
      by_cases hx : x < 0
      · rw [List.filter_cons, if_pos (by simpa using hx), List.filter_cons, if_neg (by simpa using hx), sumI_cons, List.length_cons]; omega
      · rw [List.filter_cons, if_neg (by simpa using hx), List.filter_cons, if_pos (by simpa using hx), sumI_cons, List.length_cons]; omega
  have h2 := key l h
  have h3 := lows_neg l
  have h4 := highs_pos l
  unfold okI at hv
  unfold far loI hiI
  omega
theorem ends_ok {v : Int} {l : List Int} {n : Nat} (hv : okI v) (h : ∀ x ∈ l, okI x) (hl : l.length = n) (hn : n ≤ 4096) (j : Nat) : far (loI v (l.take j)) ∧ far (hiI v (l.take j)) :=
  ends_far hv (fun x hx => h x (List.mem_of_mem_take hx)) (by rw [List.length_take]; omega)

end Go.Proofs.Ytpphhhalmccnbaa
