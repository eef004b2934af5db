/-
  Transactions and their locks in two variables; things that are done, as they lie.
-/
import Derived.Test.YtbokhhialfbjcaaGreatApt
import Derived.Laws.BitsLemmas
import Derived.RegionTactic
import Derived.Deep.CutBlock
import Derived.Deep.CutRange
namespace Go.Proofs.YtbokhhialfbjcaaGreat
set_option maxRecDepth 100000
set_option linter.unusedVariables false
open Go.RowKit Go.Shelf

theorem and_mask (n : Int) (m : Int) (k : Nat) (hm : (BitVec.ofInt 64 m).toNat = 2 ^ k - 1) (hk : k ≤ 62) : bits .and .i64 n m = n % ((2 ^ k : Nat) : Int) := by
  have key : (BitVec.ofInt 64 n &&& BitVec.ofInt 64 m).toNat = (n % ((2 ^ 64 : Nat) : Int)).toNat % 2 ^ k := by
    rw [BitVec.toNat_and, BitVec.toNat_ofInt, hm, Nat.and_two_pow_sub_one_eq_mod]
  show IntKind.i64.wrap ((BitVec.ofInt 64 n &&& BitVec.ofInt 64 m).toNat : Nat) = _
  have hp : (2 ^ k : Nat) ∣ 2 ^ 64 := Nat.pow_dvd_pow 2 (by omega)
  have hpos : 0 < 2 ^ k := Nat.two_pow_pos k
  have hle : 2 ^ k ≤ 2 ^ 62 := Nat.pow_le_pow_right (by omega) hk
  have h64 : n % ((2 ^ 64 : Nat) : Int) % ((2 ^ k : Nat) : Int) = n % ((2 ^ k : Nat) : Int) := Int.emod_emod_of_dvd n (by exact_mod_cast hp)
  rw [key, IntKind.wrap_i64]
  generalize 2 ^ k = K at *
  have g0 : 0 ≤ n % ((2 ^ 64 : Nat) : Int) := Int.emod_nonneg n (by decide)
  have e1 : (((n % ((2 ^ 64 : Nat) : Int)).toNat % K : Nat) : Int) = n % (K : Int) := by
    rw [Int.natCast_emod, Int.toNat_of_nonneg g0, h64]
  rw [e1]
  have g1 := Int.emod_nonneg n (b := (K : Int)) (by omega)
  have g2 := Int.emod_lt_of_pos n (b := (K : Int)) (by omega)
  omega

/-- a number's low bits, named -/
theorem low (n m : Int) (k : Nat) (hm : (BitVec.ofInt 64 m).toNat = 2 ^ k - 1) (hk : k ≤ 62) : ∃ x : Nat, x < 2 ^ k ∧ bits .and .i64 n m = (x : Int) := by
  have hpos : 0 < 2 ^ k := Nat.two_pow_pos k
  have g1 := Int.emod_nonneg n (b := ((2 ^ k : Nat) : Int)) (by omega)
  have g2 := Int.emod_lt_of_pos n (b := ((2 ^ k : Nat) : Int)) (by omega)
  exact ⟨(n % ((2 ^ k : Nat) : Int)).toNat, by omega, by rw [and_mask n m k hm hk]; omega⟩

theorem TxAt.box {W V : World} {A A' : Option Addr} {l : List Tx} {g n k : Nat} {c : Int} (h : TxAt W A l) (hb : TB W g A' n k c) (hg : W.grownBy V (some g)) : TxAt V A l := by
  refine h.turn (S := fun j => j = g) ((Turn.refl _ W).grown hg (fun j e => by injection e with e; exact .inl e.symm)) (fun b o e => ?_)
  rcases h with ⟨h1, h2⟩ | ⟨b', e', hl, hc⟩
  · exact .inl h2
  · rw [e] at e'
    injection e' with e'
    injection e' with e1
    subst e1
    cases l with
    | nil => exact .inl rfl
    | cons x l =>
      refine .inr (fun hbg => ?_)
      have h1 := (hc 0 x rfl).1
      have h2 := hb.c0
      rw [← hbg] at h2
      rw [Nat.zero_mul, h2] at h1
      cases h1
theorem TxAt.boxK {W V : World} {A A' : Option Addr} {l : List Tx} {g n k : Nat} (h : TxAt W A l) (hb : KB W g A' n k) (hg : W.grownBy V (some g)) : TxAt V A l := by
  refine h.turn (S := fun j => j = g) ((Turn.refl _ W).grown hg (fun j e => by injection e with e; exact .inl e.symm)) (fun b o e => ?_)
  rcases h with ⟨h1, h2⟩ | ⟨b', e', hl, hc⟩
  · exact .inl h2
  · rw [e] at e'
    injection e' with e'
    injection e' with e1
    subst e1
    cases l with
    | nil => exact .inl rfl
    | cons x l =>
      refine .inr (fun hbg => ?_)
      have h1 := (hc 0 x rfl).1
      have h2 := hb.c0
      rw [← hbg] at h2
      rw [Nat.zero_mul, h2] at h1
      cases h1
theorem IdAt.box {W V : World} {A A' : Option Addr} {l : List Nat} {g n k : Nat} {c : Int} (h : IdAt W A l) (hb : TB W g A' n k c) (hg : W.grownBy V (some g)) : IdAt V A l := by
  rcases h with ⟨h1, h2⟩ | ⟨b', e', hl, hc⟩
  · exact .inl ⟨h1, h2⟩
  · cases l with
    | nil => exact .inr ⟨b', e', Nat.lt_of_lt_of_le hl hg.size, fun j x hx => by simp at hx⟩
    | cons x l =>
      have hne : b' ≠ g := fun hbg => by
        have h1 := hc 0 x rfl
        have h2 := hb.c0
        rw [← hbg] at h2
        rw [h2] at h1
        cases h1
      exact .inr ⟨b', e', Nat.lt_of_lt_of_le hl hg.size, fun j y hy => hg.cell (hc j y hy) (fun e => by injection e with e; exact hne e)⟩

theorem LkAt.box0 {W V : World} {A : Option Addr} {l : List Lk} {g : Nat} {A' : Option Addr} {n k : Nat} (h : LkAt W A l) (hc0 : W.cell? ⟨g, 0, none⟩ = some (.slice A' n k)) (hc1 : ∀ o y, 0 < o → ¬ CellsAt W g o y) (hg : W.grownBy V (some g)) : LkAt V A l := by
  refine h.turn (S := fun j => j = g) ((Turn.refl _ W).grown hg (fun j e => by injection e with e; exact .inl e.symm)) (fun b o e => ?_)
  rcases h with h1 | ⟨b', o', e', hl, hc⟩
  · exact .inl h1
  · rw [e] at e'
    injection e' with e'
    injection e' with e1 e2
    subst e1
    subst e2
    cases l with
    | nil => exact .inl rfl
    | cons x l =>
      refine .inr (fun hbg => ?_)
      have h1 := hc 0 x rfl
      rw [hbg, Nat.zero_mul, Nat.add_zero] at h1
      rcases Nat.eq_zero_or_pos o with h0 | h0
      · subst h0
        have h2 := h1.c0
        rw [hc0] at h2
        cases h2
      · exact hc1 o x h0 h1
theorem LkAt.box {W V : World} {A A' : Option Addr} {l : List Lk} {g n k : Nat} {c : Int} (h : LkAt W A l) (hb : TB W g A' n k c) (hg : W.grownBy V (some g)) : LkAt V A l :=
  h.box0 hb.c0 (fun o y h0 hc => by
    have h1 := hc.c1
    have hr : W.heap[g]? = _ := hb
    rw [cell_of_row _ _ _ _ _ _ hr, Array.getElem?_eq_none (by simp; omega)] at h1
    cases h1) hg
theorem LkAt.boxK {W V : World} {A A' : Option Addr} {l : List Lk} {g n k : Nat} (h : LkAt W A l) (hb : KB W g A' n k) (hg : W.grownBy V (some g)) : LkAt V A l :=
  h.box0 hb.c0 (fun o y h0 hc => by
    have h1 := hc.c1
    have hr : W.heap[g]? = _ := hb
    rw [cell_of_row _ _ _ _ _ _ hr, Array.getElem?_eq_none (by simp)] at h1
    cases h1) hg

theorem wp_alloc_table {o : Oper} {a : Act} {W : World} {K : Act → World → Prop} {Q : Exit → Act → World → Prop} (ho : o.op = .alloc 34)
    (h : ∀ w' g, W.heap.size ≤ g → KB w' g none 0 0 → Below W.heap.size W w' → K (a.put o.dst (.pointer (some ⟨g, 0, none⟩))) w') : o.wp Tryz.prog a W K Q := by
  unfold Oper.wp execOp
  simp only [ho]
  go_simp
  exact h _ _ (Nat.le_refl _) (KB.new W none 0 0) (below_new W _)

/-- a tree in a variable -/
structure Tp (W : World) (g : Nat) (A : Option Addr) (n k : Nat) (c : Int) (T : Tr) : Prop where
  t : TB W g A n k c
  x : TxAt W A T.l
  hn : T.l.length = n
  hc : T.c = c
/-- a table in a variable -/
structure Lp (W : World) (g : Nat) (A : Option Addr) (n k : Nat) (L : List Lk) : Prop where
  t : KB W g A n k
  x : LkAt W A L
  hn : L.length = n
  hk : n ≤ k
  s : Sp A
section
variable {W V : World} {g h : Nat} {A A' B B' : Option Addr} {n k n' k' m kb : Nat} {c c' : Int} {T : Tr} {L : List Lk}
theorem Tp.below (s : Tp W g A n k c T) (hb : Below W.heap.size W V) : Tp V g A n k c T := ⟨s.t.below hb, s.x.below hb, s.hn, s.hc⟩
theorem Lp.below (s : Lp W g A n k L) (hb : Below W.heap.size W V) : Lp V g A n k L := ⟨s.t.below hb, s.x.below hb, s.hn, s.hk, s.s⟩
theorem Tp.farK (s : Tp W g A n k c T) (hb : KB W h B m kb) (hg : W.grownBy V (some h)) (hne : g ≠ h) : Tp V g A n k c T := ⟨s.t.far hg (fun e => by injection e with e; exact hne e), s.x.boxK hb hg, s.hn, s.hc⟩
theorem Tp.farT (s : Tp W g A n k c T) (hb : TB W h B m kb c') (hg : W.grownBy V (some h)) (hne : g ≠ h) : Tp V g A n k c T := ⟨s.t.far hg (fun e => by injection e with e; exact hne e), s.x.box hb hg, s.hn, s.hc⟩
theorem Lp.farT (s : Lp W g A n k L) (hb : TB W h B m kb c') (hg : W.grownBy V (some h)) (hne : g ≠ h) : Lp V g A n k L := ⟨s.t.far hg (fun e => by injection e with e; exact hne e), s.x.box hb hg, s.hn, s.hk, s.s⟩
theorem Lp.farK (s : Lp W g A n k L) (hb : KB W h B m kb) (hg : W.grownBy V (some h)) (hne : g ≠ h) : Lp V g A n k L := ⟨s.t.far hg (fun e => by injection e with e; exact hne e), s.x.boxK hb hg, s.hn, s.hk, s.s⟩
end

theorem TxAt.off {W : World} {A : Option Addr} {l : List Tx} {g : Nat} {A' : Option Addr} {n k : Nat} (h : TxAt W A l) (hc : W.cell? ⟨g, 0, none⟩ = some (.slice A' n k)) : ∀ b o, A = some ⟨b, o, none⟩ → l = [] ∨ b ≠ g := by
  intro b o e
  rcases h with ⟨h1, h2⟩ | ⟨b', e', hl, hcc⟩
  · exact .inl h2
  · rw [e] at e'
    injection e' with e'
    injection e' with e1
    subst e1
    cases l with
    | nil => exact .inl rfl
    | cons x l =>
      refine .inr (fun hbg => ?_)
      have h1 := (hcc 0 x rfl).1
      rw [hbg, Nat.zero_mul, hc] at h1
      cases h1
theorem LkAt.off {W : World} {A : Option Addr} {l : List Lk} {g : Nat} {A' : Option Addr} {n k : Nat} (h : LkAt W A l) (hc0 : W.cell? ⟨g, 0, none⟩ = some (.slice A' n k)) (hc1 : ∀ o y, 0 < o → ¬ CellsAt W g o y) : ∀ b o, A = some ⟨b, o, none⟩ → l = [] ∨ b ≠ g := by
  intro b o e
  rcases h with h1 | ⟨b', o', e', hl, hc⟩
  · exact .inl h1
  · rw [e] at e'
    injection e' with e'
    injection e' with e1 e2
    subst e1
    subst e2
    cases l with
    | nil => exact .inl rfl
    | cons x l =>
      refine .inr (fun hbg => ?_)
      have h1 := hc 0 x rfl
      rw [hbg, Nat.zero_mul, Nat.add_zero] at h1
      rcases Nat.eq_zero_or_pos o with h0 | h0
      · subst h0
        have h2 := h1.c0
        rw [hc0] at h2
        cases h2
      · exact hc1 o x h0 h1
theorem TB.nocells {W : World} {A : Option Addr} {g n k : Nat} {c : Int} (hb : TB W g A n k c) (o : Nat) (y : Lk) (h0 : 0 < o) : ¬ CellsAt W g o y := fun hc => by
  have h1 := hc.c1
  have hr : W.heap[g]? = _ := hb
  rw [cell_of_row _ _ _ _ _ _ hr, Array.getElem?_eq_none (by simp; omega)] at h1
  cases h1
theorem KB.nocells {W : World} {A : Option Addr} {g n k : Nat} (hb : KB W g A n k) (o : Nat) (y : Lk) (h0 : 0 < o) : ¬ CellsAt W g o y := fun hc => by
  have h1 := hc.c1
  have hr : W.heap[g]? = _ := hb
  rw [cell_of_row _ _ _ _ _ _ hr, Array.getElem?_eq_none (by simp)] at h1
  cases h1

theorem results_grown {fn : Func} {p u : Tmp} {W : World} {g h : Nat} {A B : Option Addr} {n k m kb : Nat} {c : Int} (hf : fn.results = #[.cell p 31, .cell u 34]) (tmps : Array Value) (hp : tmps.getD p undef = .pointer (some ⟨g, 0, none⟩)) (hu : tmps.getD u undef = .pointer (some ⟨h, 0, none⟩)) (ht : TB W g A n k c) (hk : KB W h B m kb) :
    (results fn tmps).run Tryz.prog W = .ok (.tuple #[.agg #[.slice A n k, .int .i64 c], .agg #[.slice B m kb]]) W := by
  have hp' : tmps[p]?.getD undef = .pointer (some ⟨g, 0, none⟩) := by simpa using hp
  have hu' : tmps[u]?.getD undef = .pointer (some ⟨h, 0, none⟩) := by simpa using hu
  simp [results, hf, hp', hu', asAddr, run_load_tree ht, run_load_table hk]

/-- the things that are done lie there: what, in which, for which block, for which mode -/
def Acts (w : World) (a : Option Addr) (len : Nat) (F G P Q : Nat → Int) : Prop :=
  len = 0 ∨ ∃ b o, a = some ⟨b, o, none⟩ ∧ b < w.heap.size ∧ ∀ i, i < len → w.cell? ⟨b, o + i * 4, none⟩ = some (.int .i64 (F i)) ∧ w.cell? ⟨b, o + i * 4 + 1, none⟩ = some (.int .i64 (G i)) ∧ w.cell? ⟨b, o + i * 4 + 2, none⟩ = some (.int .i64 (P i)) ∧ w.cell? ⟨b, o + i * 4 + 3, none⟩ = some (.int .i64 (Q i))
end Go.Proofs.YtbokhhialfbjcaaGreat

namespace Go.Proofs.YtbokhhialfbjcaaGreat
set_option maxRecDepth 100000
set_option linter.unusedVariables false
open Go.RowKit Go.Shelf

def T1 : Tr := ⟨[⟨-1, 1, 1, 0⟩], 1⟩
def T2 : Tr := ⟨[⟨-1, 1, 1, 0⟩, ⟨0, 1, 2, 0⟩], 2⟩
def T3 : Tr := ⟨[⟨-1, 1, 1, 0⟩, ⟨0, 1, 2, 0⟩, ⟨-1, 1, 3, 0⟩], 3⟩
theorem way0 (T : Tr) (h : (T.tx 0).p < 0) : wayN T.par 0 = [0] := wayN_top h
theorem may1 : MayBegin ⟨[], 0⟩ (-1) := ⟨.inl rfl, by decide, by simp [Tr.way]⟩
theorem may2 : MayBegin T1 0 := ⟨.inr ⟨0, rfl, by decide, rfl⟩, by decide, by
  rw [show (0 : Int) = ((0 : Nat) : Int) from rfl, Tr.way_nat (by decide), way0 T1 (by decide)]
  decide⟩
theorem may3 : MayBegin T2 (-1) := ⟨.inl rfl, by decide, by simp [Tr.way]⟩
theorem good1 : Good T1 := Good.begun (T := ⟨[], 0⟩) (p := -1) good_nil may1
theorem good2 : Good T2 := good1.begun may2
theorem good3 : Good T3 := good2.begun may3
theorem way3a : wayN T3.par 1 = [1, 0] := by rw [wayN_up (f := T3.par) (i := 1) (j := 0) rfl (by decide), way0 T3 (by decide)]
theorem way3b : wayN T3.par 2 = [2] := wayN_top (by decide)

def K1 : List Lk := [⟨5, 0, 2, 0⟩]
def K2 : List Lk := [⟨5, 0, 2, 0⟩, ⟨5, 1, 1, 0⟩]
theorem ask1 : askE T3 [] 0 5 2 = 0 := by
  unfold askE
  rw [if_pos (by decide), if_pos (show (T3.tx (Int.toNat 0)).s = 1 from rfl), if_pos (show agL T3 0 5 2 [] = [] from rfl)]
theorem st10 : T3.stands 1 0 = true := (stands_of (T := T3) (i := 1) (of := 0) (by decide)).2 (by rw [way3a]; simp)
theorem st20 : T3.stands 2 0 = false := by
  have h := stands_of (T := T3) (i := 2) (of := 0) (by decide)
  rw [way3b] at h
  cases hh : T3.stands 2 0 with
  | false => rfl
  | true => exact absurd (h.1 hh) (by simp)
theorem ag2 : agL T3 1 5 1 K1 = [] := by
  unfold agL K1
  have : hit T3 1 5 1 ⟨5, 0, 2, 0⟩ = false := by unfold hit; simp only; rw [st10]; simp
  rw [List.filter_cons, this]
  rfl
theorem ask2 : askE T3 K1 1 5 1 = 0 := by
  unfold askE
  rw [if_pos (by decide), if_pos (show (T3.tx (Int.toNat 1)).s = 1 from rfl), if_pos ag2]
theorem ag3 : agL T3 2 5 1 K2 ≠ [] := by
  unfold agL K2
  have : hit T3 2 5 1 ⟨5, 0, 2, 0⟩ = true := by unfold hit; simp only; rw [st20]; rfl
  rw [List.filter_cons, this]
  simp
theorem ask3 : askE T3 K2 2 5 1 = 9 := by
  unfold askE
  rw [if_pos (by decide), if_pos (show (T3.tx (Int.toNat 2)).s = 1 from rfl), if_neg ag3]
theorem apt3 : Apt T3 [] := ((apt_nil.begun may1).begun (T := T1) may2).begun (T := T2) may3
theorem apk1 : Apt T3 K1 := apt3.ask (by decide) (.inr rfl) ask1
theorem apk2 : Apt T3 K2 := apk1.ask (by decide) (.inl rfl) ask2
theorem askl1 : askL T3 [] 0 5 2 = K1 := by unfold askL; rw [if_pos ask1]; rfl
theorem askl2 : askL T3 K1 1 5 1 = K2 := by unfold askL; rw [if_pos ask2]; rfl

theorem aw1 (w : World) : Calls Tryz.prog 13 #[.agg #[.slice none 0 0, .int .i64 0], .int .i64 (-1)] w fun e w' => ∃ A k, e = .returned (.tuple #[.agg #[.slice A 1 k, .int .i64 1], .int .i64 0, .int .i64 0]) ∧ TxAt w' A T1.l ∧ Below w.heap.size w w' := by
  refine (begin_any none ⟨[], 0⟩ 0 0 0 (-1) rfl good_nil rfl (by decide) w (.inl ⟨rfl, rfl⟩)).mono ?_
  rintro e w1 ⟨hb, ⟨_, A, k, n, rfl, rfl, htx⟩ | ⟨_, _, hno, _⟩⟩
  · exact ⟨A, k, rfl, htx, hb⟩
  · exact absurd may1 hno
theorem aw2 (A : Option Addr) (k : Nat) (w : World) (h : TxAt w A T1.l) : Calls Tryz.prog 13 #[.agg #[.slice A 1 k, .int .i64 1], .int .i64 0] w fun e w' => ∃ A k, e = .returned (.tuple #[.agg #[.slice A 2 k, .int .i64 2], .int .i64 1, .int .i64 0]) ∧ TxAt w' A T2.l ∧ Below w.heap.size w w' := by
  refine (begin_any A T1 1 k 1 0 rfl good1 rfl (by decide) w h).mono ?_
  rintro e w1 ⟨hb, ⟨_, A, k, n, rfl, rfl, htx⟩ | ⟨_, _, hno, _⟩⟩
  · exact ⟨A, k, rfl, htx, hb⟩
  · exact absurd may2 hno
theorem aw3 (A : Option Addr) (k : Nat) (w : World) (h : TxAt w A T2.l) : Calls Tryz.prog 13 #[.agg #[.slice A 2 k, .int .i64 2], .int .i64 (-1)] w fun e w' => ∃ A k, e = .returned (.tuple #[.agg #[.slice A 3 k, .int .i64 3], .int .i64 2, .int .i64 0]) ∧ TxAt w' A T3.l ∧ Below w.heap.size w w' := by
  refine (begin_any A T2 2 k 2 (-1) rfl good2 rfl (by decide) w h).mono ?_
  rintro e w1 ⟨hb, ⟨_, A, k, n, rfl, rfl, htx⟩ | ⟨_, _, hno, _⟩⟩
  · exact ⟨A, k, rfl, htx, hb⟩
  · exact absurd may3 hno
theorem ak1 (Ax : Option Addr) (k : Nat) (w : World) (h : TxAt w Ax T3.l) : Calls Tryz.prog 14 #[.agg #[.slice none 0 0], .agg #[.slice Ax 3 k, .int .i64 3], .int .i64 0, .int .i64 5, .int .i64 2] w fun e w' => ∃ A k, e = .returned (.tuple #[.agg #[.slice A 1 k], .int .i64 0]) ∧ 1 ≤ k ∧ Sp A ∧ LkAt w' A K1 ∧ Below w.heap.size w w' := by
  refine (ask_any none [] 0 0 rfl (Nat.le_refl _) (.inl rfl) lg_nil Ax T3 3 k 3 rfl good3 0 5 2 (by decide) (.inr rfl) w (.inl rfl) h).mono ?_
  rintro e w1 ⟨A, n, k1, rfl, ho, hb⟩
  rw [askl1] at ho
  obtain ⟨h1, h2, h3, h4⟩ := ho.parts
  have hn : n = 1 := h1.symm
  subst hn
  rw [ask1]
  exact ⟨A, k1, rfl, h2, h3, h4, hb⟩
theorem ak2 (B Ax : Option Addr) (kb k : Nat) (w : World) (hk : 1 ≤ kb) (hs : Sp B) (hl : LkAt w B K1) (h : TxAt w Ax T3.l) : Calls Tryz.prog 14 #[.agg #[.slice B 1 kb], .agg #[.slice Ax 3 k, .int .i64 3], .int .i64 1, .int .i64 5, .int .i64 1] w fun e w' => ∃ A k, e = .returned (.tuple #[.agg #[.slice A 2 k], .int .i64 0]) ∧ 2 ≤ k ∧ Sp A ∧ LkAt w' A K2 ∧ Below w.heap.size w w' := by
  refine (ask_any B K1 1 kb rfl hk hs apk1.tab Ax T3 3 k 3 rfl good3 1 5 1 (by decide) (.inl rfl) w hl h).mono ?_
  rintro e w1 ⟨A, n, k1, rfl, ho, hb⟩
  rw [askl2] at ho
  obtain ⟨h1, h2, h3, h4⟩ := ho.parts
  have hn : n = 2 := h1.symm
  subst hn
  rw [ask2]
  exact ⟨A, k1, rfl, h2, h3, h4, hb⟩
theorem ak3 (B Ax : Option Addr) (kb k : Nat) (w : World) (hk : 2 ≤ kb) (hs : Sp B) (hl : LkAt w B K2) (h : TxAt w Ax T3.l) : Calls Tryz.prog 14 #[.agg #[.slice B 2 kb], .agg #[.slice Ax 3 k, .int .i64 3], .int .i64 2, .int .i64 5, .int .i64 1] w fun e w' => ∃ A n k, e = .returned (.tuple #[.agg #[.slice A n k], .int .i64 9]) ∧ Below w.heap.size w w' := by
  refine (ask_any B K2 2 kb rfl hk hs apk2.tab Ax T3 3 k 3 rfl good3 2 5 1 (by decide) (.inl rfl) w hl h).mono ?_
  rintro e w1 ⟨A, n, k1, rfl, ho, hb⟩
  rw [ask3]
  exact ⟨A, n, k1, rfl, hb⟩

end Go.Proofs.YtbokhhialfbjcaaGreat
