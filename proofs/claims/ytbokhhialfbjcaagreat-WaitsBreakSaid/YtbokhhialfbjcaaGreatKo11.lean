/-
  What an iterator keeps of its own beside a loop that appends to one row: whose a block is.
-/
import Derived.Test.YtbokhhialfbjcaaGreatHeld11
import Derived.Test.YtbokhhialfbjcaaGreatSeqp
namespace Go.Proofs.YtbokhhialfbjcaaGreat
set_option maxRecDepth 100000
set_option linter.unusedVariables false
set_option linter.unusedSimpArgs false
open Go.RowKit Go.Shelf Go.Sort

/-- a block that the loop's rounds don't turn: neither its variable, nor the row that it holds, nor the loop's record -/
def My (gl l : Nat) (W : World) (b : Nat) : Prop := b < W.heap.size ∧ b ≠ gl ∧ b ≠ l ∧ ∀ v, W.cell? ⟨gl, 0, none⟩ = some v → v.ownBlock ≠ some b
/-- the row that the loop's variable holds is there -/
def Cl (gl : Nat) (W : World) : Prop := ∀ v k, W.cell? ⟨gl, 0, none⟩ = some v → v.ownBlock = some k → k < W.heap.size
/-- what a round keeps -/
structure Ko (gl l : Nat) (W W' : World) : Prop where
  turn : Turn (fun k => ¬ My gl l W k) W W'
  my : ∀ b, My gl l W b → My gl l W' b
  cl : Cl gl W → Cl gl W'
section
variable {gl l : Nat} {W V U : World}
theorem Ko.trans (h : Ko gl l W V) (k : Ko gl l V U) : Ko gl l W U :=
  ⟨h.turn.trans (k.turn.mono fun b hb hm => hb (h.my b hm)), fun b hb => k.my b (h.my b hb), fun hc => k.cl (h.cl hc)⟩
theorem cell_same {S : Nat → Prop} (ht : Turn S W V) (hS : ¬ S gl) (hg : gl < W.heap.size) : V.cell? ⟨gl, 0, none⟩ = W.cell? ⟨gl, 0, none⟩ := World.cell?_of_block (a := ⟨gl, 0, none⟩) (ht.block gl hg hS)
theorem My.keep {S : Nat → Prop} {b : Nat} (h : My gl l W b) (ht : Turn S W V) (hS : ¬ S gl) (hg : gl < W.heap.size) : My gl l V b :=
  ⟨Nat.lt_of_lt_of_le h.1 ht.size, h.2.1, h.2.2.1, fun v hv => h.2.2.2 v (by rw [← cell_same ht hS hg]; exact hv)⟩
theorem My.new {S : Nat → Prop} {b : Nat} (hc : Cl gl W) (ht : Turn S W V) (hS : ¬ S gl) (hg : gl < W.heap.size) (hl : l < W.heap.size) (h1 : W.heap.size ≤ b) (h2 : b < V.heap.size) : My gl l V b :=
  ⟨h2, by omega, by omega, fun v hv e => by rw [cell_same ht hS hg] at hv; have := hc v b hv e; omega⟩
theorem Cl.keep {S : Nat → Prop} (h : Cl gl W) (ht : Turn S W V) (hS : ¬ S gl) (hg : gl < W.heap.size) : Cl gl V := fun v k hv e => by
  rw [cell_same ht hS hg] at hv
  exact Nat.lt_of_lt_of_le (h v k hv e) ht.size
theorem Ko.put (hne : gl ≠ l) (W : World) (o : Obj) : Ko gl l W (W.putObj l o) := by
  have hg := grownBy_putObj' W l o
  have ht : Turn (fun k => k = l) W (W.putObj l o) := (Turn.refl _ W).grown hg (fun j e => .inl (by injection e with e; exact e.symm))
  have hcell : ∀ v, (W.putObj l o).cell? ⟨gl, 0, none⟩ = some v → W.cell? ⟨gl, 0, none⟩ = some v := fun v hv => by
    rw [← hv]
    exact (World.cell?_of_block (a := ⟨gl, 0, none⟩) (World.putObj_heap_other hne)).symm
  have hs : (W.putObj l o).heap.size = W.heap.size := by simp [World.putObj]
  exact ⟨ht.mono fun k e h => h.2.2.1 e, fun b hb => ⟨by rw [hs]; exact hb.1, hb.2.1, hb.2.2.1, fun v hv => hb.2.2.2 v (hcell v hv)⟩, fun hc v k hv e => by rw [hs]; exact hc v k (hcell v hv) e⟩
/-- what a round of the loop's own does, said plainly -/
theorem Ko.of {v v' : Value} (hg : gl < W.heap.size) (hc : W.cell? ⟨gl, 0, none⟩ = some v) (hc' : V.cell? ⟨gl, 0, none⟩ = some v') (ht : Turn (fun k => k = gl ∨ v.ownBlock = some k) W V)
    (ho : ∀ k, v'.ownBlock = some k → v.ownBlock = some k ∨ W.heap.size ≤ k) (hlt : ∀ k, v'.ownBlock = some k → k < V.heap.size) : Ko gl l W V :=
  ⟨ht.mono fun k e h => by
      rcases e with e | e
      · exact h.2.1 e
      · exact h.2.2.2 v hc e, fun b hb => ⟨Nat.lt_of_lt_of_le hb.1 ht.size, hb.2.1, hb.2.2.1, fun u hu e => by
      rw [hc'] at hu
      injection hu with hu
      subst hu
      rcases ho b e with h | h
      · exact hb.2.2.2 v hc h
      · have := hb.1; omega⟩, fun _ u k hu e => by
      rw [hc'] at hu
      injection hu with hu
      subst hu
      exact hlt k e⟩
end

/-- what is handed to a round: a want's place, itself, and a row of numbers -/
structure Yl where
  i : Nat
  w : Wn
  a : Option Addr
  k : Nat
  c : Nat
def yC (x : Yl) : Array Value := #[wnV x.w, .slice x.a x.k x.c]
def YP (gl : Nat) (T : Tr) (L : List Lk) (Q : List Wn) (x : Yl) (W : World) : Prop := x.i < Q.length ∧ x.w = Q.getD x.i Q0 ∧ x.k = (outN T L Q x.i).length ∧ RI.At W x.a (outN T L Q x.i) ∧ ∀ b o, x.a = some ⟨b, o, none⟩ → b ≠ gl ∧ ∀ v, W.cell? ⟨gl, 0, none⟩ = some v → v.ownBlock ≠ some b

/-- the boxes that a loop over wants goes by, and what they hold -/
structure In (B0 gq gt gx : Nat) (Aq : Option Addr) (Q : List Wn) (nq kq : Nat) (A : Option Addr) (L : List Lk) (na ka : Nat) (Ax : Option Addr) (T : Tr) (N cap : Nat) (c : Int) (gl l : Nat) (W : World) : Prop where
  q : Bk W gq #[.slice Aq nq kq] 28
  t : Bk W gt #[.slice A na ka] 34
  x : Bk W gx #[.slice Ax N cap, .int .i64 c] 31
  rq : RW.At W Aq Q
  rt : LkAt W A L
  rx : TxAt W Ax T.l
  mq : My gl l W gq ∧ gq < B0
  mt : My gl l W gt ∧ gt < B0
  mx : My gl l W gx ∧ gx < B0
  nq : ∀ b o, Aq = some ⟨b, o, none⟩ → Q = [] ∨ (My gl l W b ∧ b < B0)
  nt : ∀ b o, A = some ⟨b, o, none⟩ → L = [] ∨ (My gl l W b ∧ b < B0)
  nx : ∀ b o, Ax = some ⟨b, o, none⟩ → T.l = [] ∨ (My gl l W b ∧ b < B0)
theorem In.move {B0 gq gt gx : Nat} {Aq : Option Addr} {Q : List Wn} {nq kq : Nat} {A : Option Addr} {L : List Lk} {na ka : Nat} {Ax : Option Addr} {T : Tr} {N cap : Nat} {c : Int} {gl l : Nat} {W V : World} (h : In B0 gq gt gx Aq Q nq kq A L na ka Ax T N cap c gl l W)
    {S : Nat → Prop} (ht : Turn S W V) (hS : ∀ b, My gl l W b → b < B0 → ¬ S b) (hm : ∀ b, My gl l W b → My gl l V b) : In B0 gq gt gx Aq Q nq kq A L na ka Ax T N cap c gl l V :=
  ⟨h.q.turn ht (hS _ h.mq.1 h.mq.2), h.t.turn ht (hS _ h.mt.1 h.mt.2), h.x.turn ht (hS _ h.mx.1 h.mx.2), h.rq.turn ht (fun b o e => (h.nq b o e).imp id (fun k => hS b k.1 k.2)), h.rt.turn ht (fun b o e => (h.nt b o e).imp id (fun k => hS b k.1 k.2)), h.rx.turn ht (fun b o e => (h.nx b o e).imp id (fun k => hS b k.1 k.2)),
    ⟨hm _ h.mq.1, h.mq.2⟩, ⟨hm _ h.mt.1, h.mt.2⟩, ⟨hm _ h.mx.1, h.mx.2⟩, fun b o e => (h.nq b o e).imp id (fun k => ⟨hm b k.1, k.2⟩), fun b o e => (h.nt b o e).imp id (fun k => ⟨hm b k.1, k.2⟩), fun b o e => (h.nx b o e).imp id (fun k => ⟨hm b k.1, k.2⟩)⟩

def nilSt : Value := .slice none 0 0
/-- the iterator's own: the standings of those ahead, by their blocks -/
structure It (B0 : Nat) (Q : List Wn) (T : Tr) (L : List Lk) (gl l : Nat) (W : World) (bm i : Nat) (V : Nat → Value) (rows : Nat → List St) : Prop where
  mp : Mv W bm i nilSt V
  own : ∀ p, p < 256 → RS.Own W B0 (V p) (rows p)
  apart : ∀ p q k, p < 256 → q < 256 → (V p).ownBlock = some k → (V q).ownBlock = some k → p = q
  wants : ∀ p, p < 256 → (rows p).map St.w = (Q.take i).filter fun a => decide (a.b = (p : Int))
  stn : ∀ p, p < 256 → ∀ s ∈ rows p, RI.At W s.a (agL T s.w.x s.w.b s.w.m L) ∧ s.na = (agL T s.w.x s.w.b s.w.m L).length
  far : ∀ p, p < 256 → ∀ s ∈ rows p, ∀ b o, s.a = some ⟨b, o, none⟩ → My gl l W b ∧ b ≠ bm ∧ ∀ q, q < 256 → (V q).ownBlock ≠ some b
  myo : ∀ p, p < 256 → ∀ k, (V p).ownBlock = some k → My gl l W k ∧ k ≠ bm
  mym : My gl l W bm ∧ B0 ≤ bm
theorem It.move {B0 : Nat} {Q : List Wn} {T : Tr} {L : List Lk} {gl l : Nat} {W U : World} {bm i : Nat} {V : Nat → Value} {rows : Nat → List St} (h : It B0 Q T L gl l W bm i V rows)
    {S : Nat → Prop} (ht : Turn S W U) (hS : ∀ b, My gl l W b → ¬ S b) (hm : ∀ b, My gl l W b → My gl l U b) : It B0 Q T L gl l U bm i V rows :=
  ⟨h.mp.turn ht (hS _ h.mym.1), fun p hp => (h.own p hp).turn ht (fun k e => hS k (h.myo p hp k e).1), h.apart, h.wants, fun p hp s hs => ⟨(h.stn p hp s hs).1.turn ht (fun b o e => .inr (hS b (h.far p hp s hs b o e).1)), (h.stn p hp s hs).2⟩,
    fun p hp s hs b o e => ⟨hm b (h.far p hp s hs b o e).1, (h.far p hp s hs b o e).2⟩, fun p hp k e => ⟨hm k (h.myo p hp k e).1, (h.myo p hp k e).2⟩, ⟨hm _ h.mym.1, h.mym.2⟩⟩

/-- one more -/
theorem It.step {B0 : Nat} {Q : List Wn} {T : Tr} {L : List Lk} {gl l : Nat} {W U U' : World} {bm i : Nat} {V : Nat → Value} {rows : Nat → List St} (h : It B0 Q T L gl l W bm i V rows) (hcl : Cl gl W) (hgl : gl < W.heap.size) (hll : l < W.heap.size)
    {y : Wn} (hy : Q[i]? = some y) {p : Nat} (hp : p < 256) (hpy : y.b = (p : Int)) {s : St} (hsw : s.w = y) (hs1 : RI.At W s.a (agL T s.w.x s.w.b s.w.m L)) (hs2 : s.na = (agL T s.w.x s.w.b s.w.m L).length)
    (hsf : ∀ b o, s.a = some ⟨b, o, none⟩ → My gl l W b ∧ b ≠ bm ∧ ∀ q, q < 256 → (V q).ownBlock ≠ some b)
    {v8 : Value} (ho8 : RS.Own U B0 v8 (rows p ++ [s])) (hg8 : Turn (fun k => (V p).ownBlock = some k) W U) (hv8 : ∀ k, v8.ownBlock = some k → (V p).ownBlock = some k ∨ W.heap.size ≤ k)
    (hm9 : Mv U' bm (i + 1) nilSt (fun q => if q = p then v8 else V q)) (hg9 : U.grownBy U' (some bm)) :
    It B0 Q T L gl l U' bm (i + 1) (fun q => if q = p then v8 else V q) (fun q => if q = p then rows p ++ [s] else rows q) := by
  have t9 : Turn (fun k => k = bm) U U' := (Turn.refl _ U).grown hg9 (fun j e => .inl (by injection e with e; exact e.symm))
  have tall : Turn (fun k => k = bm ∨ (V p).ownBlock = some k) W U' := (hg8.mono fun k e => .inr e).trans (t9.mono fun k e => .inl e)
  have ngl : ¬ (gl = bm ∨ (V p).ownBlock = some gl) := fun e => by
    rcases e with e | e
    · exact h.mym.1.2.1 e.symm
    · exact (h.myo p hp gl e).1.2.1 rfl
  have hm : ∀ b, My gl l W b → My gl l U' b := fun b hb => hb.keep tall ngl hgl
  have hUs : ∀ k, v8.ownBlock = some k → My gl l U' k ∧ k ≠ bm := fun k e => by
    rcases hv8 k e with e2 | e2
    · exact ⟨hm k (h.myo p hp k e2).1, (h.myo p hp k e2).2⟩
    · have hk : k < U'.heap.size := Nat.lt_of_lt_of_le (ho8.lt k e).2 t9.size
      exact ⟨My.new hcl tall ngl hgl hll e2 hk, fun e3 => by have := h.mym.1.1; omega⟩
  have hvq : ∀ q, q < 256 → q ≠ p → ∀ k, v8.ownBlock = some k → (V q).ownBlock = some k → False := fun q hq hne k e e2 => by
    rcases hv8 k e with e3 | e3
    · exact hne (h.apart q p k hq hp e2 e3)
    · have := (h.own q hq).lt k e2; omega
  have hfar : ∀ b, My gl l W b → b ≠ bm → (∀ q, q < 256 → (V q).ownBlock ≠ some b) → My gl l U' b ∧ b ≠ bm ∧ ∀ q, q < 256 → (if q = p then v8 else V q).ownBlock ≠ some b := fun b hb h1 h2 => ⟨hm b hb, h1, fun q hq e => by
    by_cases hqp : q = p
    · rw [if_pos hqp] at e
      rcases hv8 b e with e2 | e2
      · exact h2 p hp e2
      · have := hb.1; omega
    · rw [if_neg hqp] at e; exact h2 q hq e⟩
  refine ⟨hm9, fun q hq => ?_, fun q r k hq hr e1 e2 => ?_, fun q hq => ?_, fun q hq u hu => ?_, fun q hq u hu b o e => ?_, fun q hq k e => ?_, ⟨hm _ h.mym.1, h.mym.2⟩⟩
  · by_cases hqp : q = p
    · simp only [if_pos hqp]
      exact ho8.turn t9 (fun k e e2 => (hUs k e).2 e2)
    · simp only [if_neg hqp]
      exact (h.own q hq).turn tall (fun k e e2 => by
        rcases e2 with e2 | e2
        · exact (h.myo q hq k e).2 e2
        · exact hqp (h.apart q p k hq hp e e2))
  · by_cases hqp : q = p
    · by_cases hrp : r = p
      · rw [hqp, hrp]
      · simp only [if_pos hqp, if_neg hrp] at e1 e2
        exact (hvq r hr hrp k e1 e2).elim
    · by_cases hrp : r = p
      · simp only [if_neg hqp, if_pos hrp] at e1 e2
        exact (hvq q hq hqp k e2 e1).elim
      · simp only [if_neg hqp, if_neg hrp] at e1 e2
        exact h.apart q r k hq hr e1 e2
  · rw [List.take_add_one, hy, List.filter_append]
    by_cases hqp : q = p
    · subst hqp
      simp only [if_true]
      rw [List.map_append, h.wants q hq]
      simp [hsw, hpy]
    · simp only [if_neg hqp]
      rw [h.wants q hq]
      have : ¬ y.b = (q : Int) := by omega
      simp [this]
  · have h1 : ∀ (u : St), RI.At W u.a (agL T u.w.x u.w.b u.w.m L) → (∀ b o, u.a = some ⟨b, o, none⟩ → My gl l W b ∧ b ≠ bm ∧ ∀ q, q < 256 → (V q).ownBlock ≠ some b) → RI.At U' u.a (agL T u.w.x u.w.b u.w.m L) := fun u ha hf =>
      ha.turn tall (fun b o e => .inr (fun e2 => by
        rcases e2 with e2 | e2
        · exact (hf b o e).2.1 e2
        · exact (hf b o e).2.2 p hp e2))
    by_cases hqp : q = p
    · simp only [if_pos hqp] at hu
      rcases List.mem_append.1 hu with hu | hu
      · exact ⟨h1 u (h.stn p hp u hu).1 (h.far p hp u hu), (h.stn p hp u hu).2⟩
      · have : u = s := by simpa using hu
        subst this
        exact ⟨h1 u hs1 hsf, hs2⟩
    · simp only [if_neg hqp] at hu
      exact ⟨h1 u (h.stn q hq u hu).1 (h.far q hq u hu), (h.stn q hq u hu).2⟩
  · by_cases hqp : q = p
    · simp only [if_pos hqp] at hu
      rcases List.mem_append.1 hu with hu | hu
      · have hf := h.far p hp u hu b o e
        exact hfar b hf.1 hf.2.1 hf.2.2
      · have : u = s := by simpa using hu
        subst this
        have hf := hsf b o e
        exact hfar b hf.1 hf.2.1 hf.2.2
    · simp only [if_neg hqp] at hu
      have hf := h.far q hq u hu b o e
      exact hfar b hf.1 hf.2.1 hf.2.2
  · by_cases hqp : q = p
    · simp only [if_pos hqp] at e
      exact hUs k e
    · simp only [if_neg hqp] at e
      exact ⟨hm k (h.myo q hq k e).1, (h.myo q hq k e).2⟩
end Go.Proofs.YtbokhhialfbjcaaGreat
