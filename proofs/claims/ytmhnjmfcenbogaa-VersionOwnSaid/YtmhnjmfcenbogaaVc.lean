/-
  What is done, one thing behind the other; writes to one block. No program in it.
-/
import Derived.Test.YtmhnjmfcenbogaaVb
namespace Go.Proofs.Ytmhnjmfcenbogaa
set_option maxRecDepth 100000
set_option linter.unusedVariables false
set_option linter.unusedSimpArgs false

/-- of so many transactions, over four blocks -/
structure GrV (n : Nat) (t : Vt) : Prop where
  s : SanV t
  b : t.B.length = 4
  x : ∀ v ∈ t.L, v.x < (n : Int)
theorem GrV.more {n m : Nat} {t : Vt} (h : GrV n t) (hm : n ≤ m) : GrV m t := ⟨h.s, h.b, fun v hv => by have := h.x v hv; omega⟩
theorem GrV.free {n : Nat} {t : Vt} (h : GrV n t) (l : List Int) : GrV n ⟨t.B, freeV t.L l⟩ := ⟨h.s.free l, h.b, fun v hv => h.x v (freeV_mem.1 hv).1⟩
theorem GrV.write {n : Nat} {t : Vt} (h : GrV n t) {v : Vn} (hb : 0 ≤ v.b ∧ v.b < 4) (hx : 0 ≤ v.x ∧ v.x < (n : Int)) (hn : n ≤ 64) (hd : v.d.length = 32) : GrV n ⟨t.B, putV v t.L⟩ :=
  ⟨h.s.put (by rw [h.b]; exact hb) (by omega) hd, h.b, fun w hw => by
    rcases putV_mem hw with rfl | hw
    · exact hx.2
    · exact h.x w hw⟩
theorem GrV.pass {n : Nat} {t : Vt} (h : GrV n t) (x : Int) {par : Int} (hp : par < (n : Int)) (hn : n ≤ 64) : GrV n (t.pass x par) := by
  obtain ⟨s1, s2⟩ := h.s.pass x (par := par) (by omega)
  refine ⟨s1, by rw [s2, h.b], fun v hv => ?_⟩
  by_cases h0 : par < 0
  · rw [(h.s.pass_none x h0 0).1] at hv
    exact h.x v (freeV_mem.1 hv).1
  · have h3 := hasV_mem s1.up hv
    rw [(h.s.pass_par x h0 v.x v.b).2] at h3
    by_cases e : v.x = par
    · omega
    · rw [if_neg e] at h3
      by_cases e2 : v.x = x
      · rw [if_pos e2] at h3; cases h3
      · rw [if_neg e2] at h3
        obtain ⟨w, hw, hw1, _⟩ := hasV_some h3
        have := h.x w hw
        omega
/-- what a kid wrote: freed, it never was; passed, its parent reads it -/
theorem GrV.undo {n : Nat} {t : Vt} (h : GrV n t) (k : Int) (hk : 0 ≤ k ∧ k < 4) (d : List UInt8) (hd : d.length = 32) (hn : n < 64) (p : Nat) (hp : p < n) (ws : List Nat) :
    readD ⟨t.B, putV ⟨k, (n : Int), d⟩ t.L⟩ (n :: ws) k = d ∧ freeV (putV ⟨k, (n : Int), d⟩ t.L) [(n : Int)] = t.L ∧
    (∀ ws', readD (Vt.pass ⟨t.B, putV ⟨k, (n : Int), d⟩ t.L⟩ (n : Int) (p : Int)) (p :: ws') k = d) ∧ ofV (Vt.pass ⟨t.B, putV ⟨k, (n : Int), d⟩ t.L⟩ (n : Int) (p : Int)).L (n : Int) = [] ∧
    SanV (Vt.pass ⟨t.B, putV ⟨k, (n : Int), d⟩ t.L⟩ (n : Int) (p : Int)) := by
  have hu : SanV ⟨t.B, putV ⟨k, (n : Int), d⟩ t.L⟩ := h.s.put (v := ⟨k, (n : Int), d⟩) (by rw [h.b]; exact hk) (by simp only; omega) hd
  have hh : hasV (putV ⟨k, (n : Int), d⟩ t.L) (n : Int) k = some d := by rw [putV_has h.s.up]; exact if_pos ⟨rfl, rfl⟩
  refine ⟨own_self (v := ⟨k, (n : Int), d⟩) h.s rfl, free_put (v := ⟨k, (n : Int), d⟩) (fun w hw => ?_), fun ws' => pass_reads hu hh ws', pass_gone hu (by omega) (by omega), (hu.pass (n : Int) (by omega)).1⟩
  have := h.x w hw
  simp only; omega

def padV (l : List UInt8) : List UInt8 := l ++ List.replicate (32 - l.length) 0
theorem padV_len {l : List UInt8} (h : l.length ≤ 32) : (padV l).length = 32 := by unfold padV; rw [List.length_append, List.length_replicate]; omega
def zV : List UInt8 := List.replicate 32 0
theorem padV_nil : padV [] = zV := rfl
theorem padV_zero : padV [0] = zV := rfl

/-- so many have written block 1 of two, each what it wrote last -/
structure LastF (t : Vt) (k m : Nat) (c : Nat → UInt8) : Prop where
  s : SanV t
  B : t.B = [zV, zV]
  b : ∀ v ∈ t.L, v.b = 1
  n : t.L.length = min m k
  has : ∀ j, j < k → hasV t.L (j : Int) 1 = if j < m then some (padV [c j]) else none
  z : ∀ j, m ≤ j → c j = 0
theorem last0 (k : Nat) : LastF ⟨[zV, zV], []⟩ k 0 (fun _ => 0) :=
  ⟨⟨by simp, by simp [zV], by simp, List.Pairwise.nil⟩, rfl, by simp, by simp, fun j _ => by simp [hasV], fun _ _ => rfl⟩
theorem LastF.step {t : Vt} {k m : Nat} {c : Nat → UInt8} (h : LastF t k m c) (hk : 0 < k ∧ k ≤ 4) (e : UInt8) :
    LastF ⟨t.B, putV ⟨1, ((m % k : Nat) : Int), padV [e]⟩ t.L⟩ k (m + 1) (fun j => if j = m % k then e else c j) := by
  have hmk : m % k < k := Nat.mod_lt _ hk.1
  have hlt : m < k → m % k = m := Nat.mod_eq_of_lt
  refine ⟨h.s.put (v := ⟨1, ((m % k : Nat) : Int), padV [e]⟩) (by rw [h.B]; simp) (by simp only; omega) (padV_len (by simp)), h.B, fun v hv => ?_, ?_, fun j hj => ?_, fun j hj => ?_⟩
  · rcases putV_mem hv with rfl | hv
    · rfl
    · exact h.b v hv
  · have hn := h.n
    rcases Nat.lt_or_ge m k with hm | hm
    · have h1 := h.has (m % k) hmk
      rw [if_neg (by rw [hlt hm]; omega)] at h1
      have h2 := hasV_none.1 h1
      have h3 := putV_new (v := ⟨1, ((m % k : Nat) : Int), padV [e]⟩) (L := t.L) fun w hw e => h2 w hw ⟨e.2, e.1⟩
      simp only [h3]; omega
    · have h1 := h.has (m % k) hmk
      rw [if_pos (by omega)] at h1
      obtain ⟨w, hw, w1, w2, _⟩ := hasV_some h1
      have h3 := putV_old (v := ⟨1, ((m % k : Nat) : Int), padV [e]⟩) h.s.up ⟨w, hw, w2, w1⟩
      simp only [h3]; omega
  · simp only
    rw [putV_has h.s.up]
    by_cases ej : j = m % k
    · rw [if_pos ⟨by simp only; omega, rfl⟩, if_pos (by omega), if_pos ej]
    · rw [if_neg (fun q => ej (by have := q.1; simp only at this; omega)), h.has j hj, if_neg ej]
      by_cases hjm : j < m
      · rw [if_pos hjm, if_pos (by omega)]
      · rw [if_neg hjm]
        have : ¬ j < m + 1 := fun q => ej (by have hh : j = m := (by omega); rw [hlt (by omega)]; exact hh)
        rw [if_neg this]
  · have : j ≠ m % k := by have := Nat.mod_le m k; omega
    rw [if_neg this]
    exact h.z j (by omega)
theorem LastF.reads {t : Vt} {k m : Nat} {c : Nat → UInt8} (h : LastF t k m c) {j : Nat} (hj : j < k) : readD t [j] 1 = padV [c j] ∧ readD t [j] 0 = zV := by
  constructor
  · unfold readD
    rw [nearV_cons, h.has j hj]
    by_cases e : j < m
    · rw [if_pos e]; rfl
    · rw [if_neg e, h.z j (by omega), h.B]; rfl
  · unfold readD
    have h0 : hasV t.L (j : Int) 0 = none := hasV_none.2 fun v hv e => by have := h.b v hv; omega
    rw [nearV_cons, h0, h.B]; rfl
end Go.Proofs.Ytmhnjmfcenbogaa
