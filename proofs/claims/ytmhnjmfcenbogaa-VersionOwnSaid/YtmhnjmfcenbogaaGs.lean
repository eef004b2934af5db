/-
  What grown holds while it goes: transactions in one variable, a table in another one.
-/
import Derived.Test.YtmhnjmfcenbogaaDw
namespace Go.Proofs.Ytmhnjmfcenbogaa
set_option maxRecDepth 100000
set_option linter.unusedVariables false
open Go.RowKit

/-- the program's Free, asked for as words -/
def FreeOk : Prop := ∀ (A B : Option Addr) (n a m b : Nat) (t : Vt) (E : Option Addr) (q r : Nat) (l : List Nat) (w : World),
  VtAt RVo w A n a B m b t → SanV t → t.L.length ≤ 1000 → IdAt w E l → l.length = q → q ≤ 1000 → (∀ z ∈ l, z ≤ 1000) →
    Calls Try.prog 15 #[vtV A n a B m b, .slice E q r] w fun e w' => Below w.heap.size w w' ∧ ∃ A' n' a' B' m' b', (∀ g, (g < w.heap.size ∧ Away A B g) ∨ w'.heap.size ≤ g → Away A' B' g) ∧ e = .returned (vtV A' n' a' B' m' b') ∧ VtAt RVo w' A' n' a' B' m' b' ⟨t.B, freeV t.L (l.map Int.ofNat)⟩
def SaneOk : Prop := ∀ (A B : Option Addr) (n a m b : Nat) (t : Vt) (w : World), VtAt RVo w A n a B m b t → SanV t → t.L.length ≤ 1000 →
    Calls Try.prog 13 #[vtV A n a B m b] w fun e w' => e = .returned (.bool true) ∧ Below w.heap.size w w'

structure Gs (W : World) (g0 g1 g2 g3 : Nat) (A : Option Addr) (n k : Nat) (c : Int) (T : Tr) (A1 : Option Addr) (n1 a1 : Nat) (B1 : Option Addr) (m1 b1 : Nat) (t : Vt) : Prop where
  x : TxAt W A T.l
  bx : Bk W g2 (txC2 A n k c) 26
  bt : Bk W g3 (vtC A1 n1 a1 B1 m1 b1) 30
  t : VtAt RVo W A1 n1 a1 B1 m1 b1 t
  r0 : Bk W g0 (txC2 none 0 0 0) 26
  r1 : Bk W g1 (vtC none 0 0 none 0 0) 30
  a0 : Away A1 B1 g0
  a1 : Away A1 B1 g1
  a2 : Away A1 B1 g2
  a3 : Away A1 B1 g3
  fr : ∀ g, W.heap.size ≤ g → Away A1 B1 g
  nk : n ≤ k
section
variable {W V : World} {g0 g1 g2 g3 n k n1 a1 m1 b1 : Nat} {A A1 B1 : Option Addr} {c : Int} {T : Tr} {t : Vt}
theorem Gs.below (h : Gs W g0 g1 g2 g3 A n k c T A1 n1 a1 B1 m1 b1 t) (hb : Below W.heap.size W V) : Gs V g0 g1 g2 g3 A n k c T A1 n1 a1 B1 m1 b1 t :=
  ⟨h.x.below hb, h.bx.below hb, h.bt.below hb, h.t.below hb, h.r0.below hb, h.r1.below hb, h.a0, h.a1, h.a2, h.a3, fun g hg => h.fr g (Nat.le_trans hb.size hg), h.nk⟩
/-- other transactions are stored -/
theorem Gs.putX (h : Gs W g0 g1 g2 g3 A n k c T A1 n1 a1 B1 m1 b1 t) (hd : g0 ≠ g2 ∧ g1 ≠ g2 ∧ g3 ≠ g2) {A' : Option Addr} {n' k' : Nat} {c' : Int} {T' : Tr} (hx : TxAt W A' T'.l) (hnk : n' ≤ k') :
    Gs ((W.setCell ⟨g2, 0, none⟩ (.slice A' n' k')).setCell ⟨g2, 1, none⟩ (.int .i64 c')) g0 g1 g2 g3 A' n' k' c' T' A1 n1 a1 B1 m1 b1 t := by
  have hT := Turn.two (W := W) g2 (.slice A' n' k') (.int .i64 c')
  exact ⟨tx_put hx h.bx _ _, h.bx.two _ _, h.bt.turn hT hd.2.2, h.t.off h.bx txc_by h.a2 hT, h.r0.turn hT hd.1, h.r1.turn hT hd.2.1, h.a0, h.a1, h.a2, h.a3, fun g hg => h.fr g (Nat.le_trans hT.size hg), hnk⟩
/-- another table is stored -/
theorem Gs.putT (h : Gs W g0 g1 g2 g3 A n k c T A1 n1 a1 B1 m1 b1 t) (hd : g0 ≠ g3 ∧ g1 ≠ g3 ∧ g2 ≠ g3) {A' B' : Option Addr} {n' a' m' b' : Nat} {t' : Vt} (ht : VtAt RVo W A' n' a' B' m' b' t') (h0 : Away A' B' g0) (h1 : Away A' B' g1) (h2 : Away A' B' g2) (h3 : Away A' B' g3) (h4 : ∀ g, W.heap.size ≤ g → Away A' B' g) :
    Gs ((W.setCell ⟨g3, 0, none⟩ (.slice A' n' a')).setCell ⟨g3, 1, none⟩ (.slice B' m' b')) g0 g1 g2 g3 A n k c T A' n' a' B' m' b' t' := by
  have hT := Turn.two (W := W) g3 (.slice A' n' a') (.slice B' m' b')
  exact ⟨h.x.turn hT (tx_far h.x h.bt), h.bx.turn hT hd.2.2, h.bt.two _ _, ht.off h.bt vtc_by h3 hT, h.r0.turn hT hd.1, h.r1.turn hT hd.2.1, h0, h1, h2, h3, fun g hg => h4 g (Nat.le_trans hT.size hg), h.nk⟩
/-- a table is stored whole -/
theorem Gs.setT (h : Gs W g0 g1 g2 g3 A n k c T A1 n1 a1 B1 m1 b1 t) (hd : g0 ≠ g3 ∧ g1 ≠ g3 ∧ g2 ≠ g3) {A' B' : Option Addr} {n' a' m' b' : Nat} {t' : Vt} (hT : Turn (fun q => q = g3) W V) (hk : Bk V g3 (vtC A' n' a' B' m' b') 30) (ht : VtAt RVo W A' n' a' B' m' b' t') (h0 : Away A' B' g0) (h1 : Away A' B' g1) (h2 : Away A' B' g2) (h3 : Away A' B' g3) (h4 : ∀ g, W.heap.size ≤ g → Away A' B' g) :
    Gs V g0 g1 g2 g3 A n k c T A' n' a' B' m' b' t' :=
  ⟨h.x.turn hT (tx_far h.x h.bt), h.bx.turn hT hd.2.2, hk, ht.off h.bt vtc_by h3 hT, h.r0.turn hT hd.1, h.r1.turn hT hd.2.1, h0, h1, h2, h3, fun g hg => h4 g (Nat.le_trans hT.size hg), h.nk⟩
end
/-- the program's Write, its two answers as one -/
def WFlat (t : Vt) (T : Tr) (x k : Int) (d : List UInt8) (A0 B0 : Option Addr) (w : World) (e : Ending) (w' : World) : Prop :=
  Below w.heap.size w w' ∧ ∃ A n a B m b, e = .returned (.tuple #[vtV A n a B m b, .int .i64 (askV t T x k)]) ∧ (askV t T x k = 0 → VtAt RVo w' A n a B m b ⟨t.B, putV ⟨k, x, padV d⟩ t.L⟩ ∧ ∀ g, (g < w.heap.size ∧ Away A0 B0 g) ∨ w'.heap.size ≤ g → Away A B g)
theorem WriteOut.flat {t : Vt} {T : Tr} {x k : Int} {d : List UInt8} {A0 B0 : Option Addr} {w : World} {e : Ending} {w' : World} (h : WriteOut t T x k d A0 B0 w e w') : WFlat t T x k d A0 B0 w e w' := by
  obtain ⟨hb, ⟨h0, A, n, a, B, m, b, haw, he, ht⟩ | ⟨h0, he⟩⟩ := h
  · exact ⟨hb, A, n, a, B, m, b, by rw [h0]; exact he, fun _ => ⟨ht, haw⟩⟩
  · exact ⟨hb, none, 0, 0, none, 0, 0, he, fun e => absurd e h0⟩
/-- ids' row stays where a variable is stored to -/
theorem id_put {W : World} {A A0 : Option Addr} {l : List Nat} {N0 k0 g : Nat} {c0 : Int} {ty : TypeId} (h : IdAt W A l) (hg : Bk W g (txC2 A0 N0 k0 c0) ty) (x y : Value) : IdAt ((W.setCell ⟨g, 0, none⟩ x).setCell ⟨g, 1, none⟩ y) A l := by
  rcases h with h | ⟨b, e, hb, hc⟩
  · exact .inl h
  · have hT := Turn.two (W := W) g x y
    refine .inr ⟨b, e, Nat.lt_of_lt_of_le hb hT.size, fun j z hz => hT.cell (hc j z hz) fun hq => ?_⟩
    have hl : 0 < l.length := by have := (List.getElem?_eq_some_iff.1 hz).1; omega
    have h1 := hc 0 _ (List.getElem?_eq_getElem hl)
    have hq : b = g := hq
    rw [hq] at h1
    have h2 : W.cell? ⟨g, 0, none⟩ = some (.slice A0 N0 k0) := hg.c 0 _ rfl
    rw [h1] at h2
    cases h2
theorem wp_build_u8 {W : World} {n : UInt8} {o : Oper} {a : Act} {K : Act → World → Prop} {Q : Exit → Act → World → Prop} (x : Operand) (ho : o.op = .buildSlice 36 1 #[(0, x)]) (hx : a.eval x = byV n)
    (h : ∀ w' h', W.heap.size ≤ h' → DatAt w' ⟨some ⟨h', 0, none⟩, 1, 1⟩ [n] → Below W.heap.size W w' → K (a.put o.dst (.slice (some ⟨h', 0, none⟩) 1 1)) w') : o.wp Try.prog a W K Q := by
  unfold Oper.wp execOp
  simp only [ho, List.map_toArray, List.map_cons, List.map_nil, hx]
  go_simp
  exact h _ _ (Nat.le_refl _) (DatAt.one W n) (below_new W _)
/-- what is done keeps this: transactions, a table -/
structure Gf (T : Tr) (t : Vt) (n : Nat) (c : Int) (j : Nat) : Prop where
  good : Good T
  nl : T.l.length = n
  cl : T.c = c
  cj : c ≤ (j : Int)
  v : GrV n t
  l : t.L.length ≤ j
section
variable {T : Tr} {t : Vt} {n j : Nat} {c : Int}
theorem Gf.n64 (h : Gf T t n c j) : n ≤ 64 := by have := h.good.n; have := h.nl; omega
theorem Gf.stay (h : Gf T t n c j) : Gf T t n c (j + 1) := ⟨h.good, h.nl, h.cl, by have := h.cj; omega, h.v, by have := h.l; omega⟩
theorem Gf.begun (h : Gf T t n c j) {z : Int} (hm : MayBegin T z) : Gf (T.begun z) t (n + 1) (c + 1) (j + 1) :=
  ⟨h.good.begun hm, by rw [len_begun, h.nl], by show T.c + 1 = _; rw [h.cl], by have := h.cj; omega, h.v.more (by omega), by have := h.l; omega⟩
theorem Gf.write (h : Gf T t n c j) {k x : Int} {d : List UInt8} (hk : 0 ≤ k ∧ k < 4) (hx : 0 ≤ x ∧ x < (n : Int)) (hd : d.length ≤ 32) : Gf T ⟨t.B, putV ⟨k, x, padV d⟩ t.L⟩ n c (j + 1) :=
  ⟨h.good, h.nl, h.cl, by have := h.cj; omega, h.v.write (v := ⟨k, x, padV d⟩) hk hx h.n64 (padV_len hd), by have := putV_len (v := ⟨k, x, padV d⟩) (L := t.L); have := h.l; simp only; omega⟩
theorem Gf.free (h : Gf T t n c j) (l : List Int) : Gf T ⟨t.B, freeV t.L l⟩ n c j := ⟨h.good, h.nl, h.cl, h.cj, h.v.free l, by have : (freeV t.L l).length ≤ t.L.length := List.length_filter_le ..; have := h.l; simp only; omega⟩
theorem Gf.pass (h : Gf T t n c j) (x : Int) {par : Int} (hp : par < (n : Int)) : Gf T (t.pass x par) n c j := ⟨h.good, h.nl, h.cl, h.cj, h.v.pass x hp h.n64, by have := pass_len t x par; have := h.l; omega⟩
theorem Gf.done (h : Gf T t n c j) {i : Nat} (m : MayDo T i) : Gf (T.done i) t n (c + 1) (j + 1) :=
  ⟨h.good.done m, by show (T.turned _ _).l.length = n; unfold Tr.turned; simp [h.nl], by show T.c + 1 = _; rw [h.cl], by have := h.cj; omega, h.v, by have := h.l; omega⟩
theorem Gf.undone (h : Gf T t n c j) (i : Nat) : Gf (T.undone i) t n (c + 1) (j + 1) :=
  ⟨h.good.undone, by show (T.turned _ _).l.length = n; unfold Tr.turned; simp [h.nl], by show T.c + 1 = _; rw [h.cl], by have := h.cj; omega, h.v, by have := h.l; omega⟩
theorem Gf.par (h : Gf T t n c j) {i : Nat} (hi : i < n) : -1 ≤ (T.tx i).p ∧ (T.tx i).p < (n : Int) := by
  have h1 := h.good.par i (by rw [h.nl]; exact hi)
  omega
end
end Go.Proofs.Ytmhnjmfcenbogaa
