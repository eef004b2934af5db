/-
  Tables of counters and pends: what the calls of layer 13 answer, by the chapter's words. No program in it.
-/
import Derived.Test.YtogngghfdcpeaaaSp
import Derived.Test.YtogngghfdcpeaaaTreeA
namespace Go.Proofs.Ytogngghfdcpeaaa
set_option maxRecDepth 100000
set_option linter.unusedVariables false

structure Ct where
  lo : Int
  hi : Int
  v : Int
structure Pd where
  c : Int
  x : Int
  u : Int
  d : Int
structure Tb where
  C : List Ct
  P : List Pd
def ctD : Ct := ⟨0, 0, 0⟩
def pdD : Pd := ⟨0, 0, 0, 0⟩
structure Ct.Ok (c : Ct) : Prop where
  lo : okI c.lo
  hi : okI c.hi
  v : okI c.v
structure Pd.Ok (p : Pd) : Prop where
  c : okI p.c
  x : okI p.x
  u : okI p.u
  d : okI p.d
theorem ctD_ok : ctD.Ok := ⟨by decide, by decide, by decide⟩
theorem pdD_ok : pdD.Ok := ⟨by decide, by decide, by decide, by decide⟩

/-- all Ups and Downs of a counter -/
def sumsOf (P : List Pd) (k : Int) : List Int := P.flatMap fun p => if p.c = k then [p.u, p.d] else []
theorem sumsOf_take {P : List Pd} {k : Int} {i : Nat} {p : Pd} (h : P[i]? = some p) : sumsOf (P.take (i + 1)) k = sumsOf (P.take i) k ++ (if p.c = k then [p.u, p.d] else []) := by
  unfold sumsOf
  rw [List.take_add_one, h, Option.toList_some, List.flatMap_append]
  simp
theorem sumsOf_len (P : List Pd) (k : Int) : (sumsOf P k).length ≤ 2 * P.length := by
  induction P with
  | nil => simp [sumsOf]
  | cons p P ih =>
    unfold sumsOf at ih ⊢
    rw [List.flatMap_cons, List.length_append, List.length_cons]
    by_cases hk : p.c = k
    · rw [if_pos hk]; simp only [List.length_cons, List.length_nil]; omega
    · rw [if_neg hk]; simp only [List.length_nil]; omega
theorem sumsOf_ok {P : List Pd} (h : ∀ p ∈ P, p.Ok) (k : Int) : ∀ x ∈ sumsOf P k, okI x := by
  intro x hx
  unfold sumsOf at hx
  rw [List.mem_flatMap] at hx
  obtain ⟨p, hp, hx⟩ := hx
  split at hx
  · simp at hx
    rcases hx with rfl | rfl
    · exact (h p hp).u
    · exact (h p hp).d
  · simp at hx

/-- does a counter stay in its bounds, with one more? -/
def Tb.fits (t : Tb) (k : Nat) (b : Int) : Bool := decide (reachE 0 (sumsOf t.P (k : Int) ++ [b]) = 0) && fitsB (t.C.getD k ctD).lo (t.C.getD k ctD).hi (t.C.getD k ctD).v (sumsOf t.P (k : Int) ++ [b])
def Pd.may (n : Nat) (p : Pd) : Bool := decide (0 ≤ p.c ∧ p.c < (n : Int)) && (decide (0 ≤ p.x ∧ p.x ≤ 63) && (decide (0 ≤ p.u ∧ p.d ≤ 0) && !(decide (p.u = 0) && decide (p.d = 0))))
def Pd.lt (p q : Pd) : Bool := decide (p.c < q.c) || (decide (p.c = q.c) && decide (p.x < q.x))
def stepP (n : Nat) (P : List Pd) (i : Nat) : Bool := (P.getD i pdD).may n && (decide (i = 0) || (P.getD (i - 1) pdD).lt (P.getD i pdD))
def Tb.sane (t : Tb) : Bool := decide (t.C.length ≤ 64) && ((List.range t.P.length).all (stepP t.C.length t.P) && (List.range t.C.length).all (fun k => t.fits k 0))

theorem all_no {f : Nat → Bool} {j n : Nat} (hj : j < n) (h : f j = false) : (List.range n).all f = false := by
  rw [List.all_eq_false]
  exact ⟨j, List.mem_range.2 hj, by rw [h]; decide⟩
theorem all_succ {f : Nat → Bool} {j : Nat} (h : (List.range j).all f = true) (hj : f j = true) : (List.range (j + 1)).all f = true := by
  rw [List.range_succ, List.all_append, h, Bool.true_and]; simp [hj]

/-- why may a transaction not do anything with a counter? -/
def Tb.may (t : Tb) (T : Tr) (x k : Int) : Int :=
  if t.sane = false ∨ k < 0 ∨ (t.C.length : Int) ≤ k ∨ x < 0 ∨ (T.l.length : Int) ≤ x ∨ 63 < x then 6 else if (T.tx x.toNat).s ≠ 1 then 7 else 0
theorem Tb.may_cases (t : Tb) (T : Tr) (x k : Int) : t.may T x k = 0 ∨ t.may T x k = 6 ∨ t.may T x k = 7 := by unfold Tb.may; split <;> (try split) <;> simp

def w64 (x : Int) : Int := IntKind.i64.wrap x
theorem w64_ok (x : Int) : okI (w64 x) := by unfold w64 okI; rw [IntKind.wrap_i64]; omega
theorem w64_id {x : Int} (h : okI x) : w64 x = x := by unfold w64; unfold okI at h; rw [IntKind.wrap_i64]; omega

/-- one step of the document's way to add a pend -/
structure Ws where
  out : List Pd
  put : Bool
  p : Pd
def same (p q : Pd) : Bool := decide (q.c = p.c) && decide (q.x = p.x)
def Ws.step (s : Ws) (q : Pd) : Ws :=
  if same s.p q = true then { s with p := { s.p with u := w64 (s.p.u + q.u), d := w64 (s.p.d + q.d) } }
  else if (!s.put && s.p.lt q) = true then ⟨s.out ++ [s.p] ++ [q], true, s.p⟩ else ⟨s.out ++ [q], s.put, s.p⟩
def Ws.all (p : Pd) (l : List Pd) : Ws := l.foldl Ws.step ⟨[], false, p⟩
def withL (l : List Pd) (p : Pd) : List Pd :=
  if p.u = 0 ∧ p.d = 0 then l else if (Ws.all p l).put = true then (Ws.all p l).out else (Ws.all p l).out ++ [(Ws.all p l).p]
theorem Ws.all_take {p : Pd} {l : List Pd} {i : Nat} {q : Pd} (h : l[i]? = some q) : Ws.all p (l.take (i + 1)) = (Ws.all p (l.take i)).step q := by
  unfold Ws.all
  rw [List.take_add_one, h, Option.toList_some, List.foldl_append]; rfl

def ofL (P : List Pd) (x : Int) : List Pd := P.filter fun p => decide (p.x = x)
def freeL (P : List Pd) (l : List Int) : List Pd := P.filter fun p => !(l.any fun y => decide (y = p.x))
def addC (C : List Ct) (k : Nat) (u d : Int) : List Ct := C.set k { C.getD k ctD with v := w64 (w64 ((C.getD k ctD).v + u) + d) }
def passStep (par : Int) (t : Tb) (p : Pd) : Tb := if par < 0 then ⟨addC t.C p.c.toNat p.u p.d, t.P⟩ else ⟨t.C, withL t.P ⟨p.c, par, p.u, p.d⟩⟩
def Tb.pass (t : Tb) (x par : Int) : Tb := (ofL t.P x).foldl (passStep par) ⟨t.C, freeL t.P [x]⟩
def Tb.reach (t : Tb) (k : Int) : Int × Int := if k < 0 ∨ (t.C.length : Int) ≤ k then (0, 0) else (reachL (t.C.getD k.toNat ctD).v (sumsOf t.P k), reachH (t.C.getD k.toNat ctD).v (sumsOf t.P k))
/-- what is seen, as far as the pends go -/
def seeGo (st : Int → Bool) (k : Int) : List Pd → Int → Option Int
  | [], n => some n
  | p :: P, n => if p.c = k then (if st p.x = true then seeGo st k P (w64 (w64 (n + p.u) + p.d)) else none) else seeGo st k P n
end Go.Proofs.Ytogngghfdcpeaaa
