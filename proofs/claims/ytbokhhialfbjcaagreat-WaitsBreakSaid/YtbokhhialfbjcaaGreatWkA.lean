/-
  A walk that keeps a pile, and the rings that two such walks tell: plain facts. No program in it.
-/
import Derived.Test.YtbokhhialfbjcaaGreatWnA
import Derived.Test.YtbokhhialfbjcaaGreatEnt11
import Derived.Deep.CutBlock
namespace Go.Proofs.YtbokhhialfbjcaaGreat
set_option maxRecDepth 100000
set_option linter.unusedVariables false

def stp (nx : Nat → List Nat) (a b : Nat) : Prop := b ∈ nx a
/-- one on the pile: itself, what is left of what is next to it; what had been come to ahead of it, how many had been told -/
structure En where
  n : Nat
  r : List Nat
  D : List Nat
  s : Nat
/-- come to: told, or on the pile -/
def vis (T : List Nat) (p : List En) : List Nat := T ++ p.map En.n

structure EnOk (nx : Nat → List Nat) (T : List Nat) (p : List En) (e : En) : Prop where
  out : e.n ∉ e.D
  old : ∀ x ∈ e.D, x ∈ vis T p
  le : e.s ≤ T.length
  ahead : ∀ (j x : Nat), j < e.s → T[j]? = some x → ∀ z ∈ nx x, z ∈ e.D
  behind : ∀ (j x : Nat), e.s ≤ j → T[j]? = some x → x ∉ e.D ∧ Rch (stp nx) e.n x
  rest : ∀ z ∈ e.r, z ∈ nx e.n
  seen : ∀ z ∈ nx e.n, z ∈ e.r ∨ z ∈ vis T p

/-- each is told behind all that it alone comes to, and nothing told ahead of those steps to them -/
def Fin1 (nx : Nat → List Nat) (T : List Nat) : Prop := ∀ (k x : Nat), T[k]? = some x → ∃ s, s ≤ k ∧ (∀ (j y : Nat), s ≤ j → j ≤ k → T[j]? = some y → Rch (stp nx) x y) ∧
  ∀ (j y : Nat), j < s → T[j]? = some y → ∀ z ∈ nx y, ∀ (i u : Nat), s ≤ i → i ≤ k → T[i]? = some u → z ≠ u

structure Wk (nx : Nat → List Nat) (a : Nat) (T0 T : List Nat) (p : List En) : Prop where
  pre : T0 <+: T
  fin : Fin1 nx T
  closed : ∀ x ∈ T, ∀ z ∈ nx x, z ∈ vis T p
  nodup : (vis T p).Nodup
  each : ∀ e ∈ p, EnOk nx T p e
  up : p.Pairwise fun f e => Rch (stp nx) e.n f.n ∧ f.n ∉ e.D
  rt : (∀ e ∈ p, Rch (stp nx) a e.n) ∧ (∀ x ∈ T, x ∈ T0 ∨ Rch (stp nx) a x) ∧ a ∈ vis T p

/-- between two walks -/
structure Dn (nx : Nat → List Nat) (T : List Nat) : Prop where
  fin : Fin1 nx T
  closed : ∀ x ∈ T, ∀ z ∈ nx x, z ∈ T
  nodup : T.Nodup
theorem dn_nil (nx : Nat → List Nat) : Dn nx [] := ⟨fun k x h => by simp at h, fun x h => by simp at h, List.nodup_nil⟩

theorem vis_nil (T : List Nat) : vis T [] = T := by simp [vis]
theorem mem_vis {T : List Nat} {p : List En} {x : Nat} : x ∈ vis T p ↔ x ∈ T ∨ ∃ e ∈ p, e.n = x := by
  unfold vis
  rw [List.mem_append, List.mem_map]

theorem wk_old {nx : Nat → List Nat} {a : Nat} {T : List Nat} (h : Dn nx T) (ha : a ∈ T) : Wk nx a T T [] :=
  ⟨List.prefix_refl _, h.fin, fun x hx z hz => by rw [vis_nil]; exact h.closed x hx z hz, by rw [vis_nil]; exact h.nodup, by simp, List.Pairwise.nil, by simp, fun x hx => .inl hx, by rw [vis_nil]; exact ha⟩

theorem en_new {nx : Nat → List Nat} {T : List Nat} {p q : List En} {z : Nat} (hc : ∀ x ∈ T, ∀ u ∈ nx x, u ∈ vis T p) (hz : z ∉ vis T p) (hq : ∀ x ∈ vis T p, x ∈ vis T q) : EnOk nx T q ⟨z, nx z, vis T p, T.length⟩ :=
  ⟨hz, hq, Nat.le_refl _, fun j x _ hj u hu => hc x (List.mem_of_getElem? hj) u hu, fun j x hj h => by have := (List.getElem?_eq_some_iff.1 h).1; exact absurd hj (Nat.not_le_of_lt this), fun _ h => h, fun _ h => .inl h⟩

theorem wk_new {nx : Nat → List Nat} {a : Nat} {T : List Nat} (h : Dn nx T) (ha : a ∉ T) : Wk nx a T T [⟨a, nx a, T, T.length⟩] := by
  have hv : ∀ x, x ∈ T → x ∈ vis T [⟨a, nx a, T, T.length⟩] := fun x hx => mem_vis.2 (.inl hx)
  refine ⟨List.prefix_refl _, h.fin, fun x hx z hz => hv z (h.closed x hx z hz), ?_, ?_, List.pairwise_singleton _ _, ?_, fun x hx => .inl hx, mem_vis.2 (.inr ⟨_, List.mem_singleton.2 rfl, rfl⟩)⟩
  · unfold vis
    rw [List.nodup_append]
    exact ⟨h.nodup, by simp, fun x hx y hy e => by simp at hy; subst hy; exact ha (e ▸ hx)⟩
  · intro e he
    rw [List.mem_singleton] at he
    subst he
    have := en_new (nx := nx) (T := T) (p := []) (q := [⟨a, nx a, T, T.length⟩]) (z := a) (fun x hx u hu => by rw [vis_nil]; exact h.closed x hx u hu) (by rw [vis_nil]; exact ha) (fun x hx => by rw [vis_nil] at hx; exact hv x hx)
    rwa [vis_nil] at this
  · intro e he
    rw [List.mem_singleton] at he
    subst he
    exact .refl _

theorem EnOk.more {nx : Nat → List Nat} {T : List Nat} {p q : List En} {e : En} (h : EnOk nx T p e) (hq : ∀ x ∈ vis T p, x ∈ vis T q) : EnOk nx T q e :=
  ⟨h.out, fun x hx => hq x (h.old x hx), h.le, h.ahead, h.behind, h.rest, fun z hz => (h.seen z hz).imp id (hq z)⟩

/-- what is next was come to already -/
theorem Wk.skip {nx : Nat → List Nat} {a : Nat} {T0 T : List Nat} {p : List En} {n s z : Nat} {r D : List Nat} (h : Wk nx a T0 T (⟨n, z :: r, D, s⟩ :: p)) (hz : z ∈ vis T (⟨n, z :: r, D, s⟩ :: p)) : Wk nx a T0 T (⟨n, r, D, s⟩ :: p) := by
  have hv : vis T (⟨n, r, D, s⟩ :: p) = vis T (⟨n, z :: r, D, s⟩ :: p) := rfl
  have he := h.each _ List.mem_cons_self
  refine ⟨h.pre, h.fin, fun x hx u hu => by rw [hv]; exact h.closed x hx u hu, by rw [hv]; exact h.nodup, ?_, ?_, ?_, h.rt.2.1, by rw [hv]; exact h.rt.2.2⟩
  · intro e hm
    rcases List.mem_cons.1 hm with rfl | hm
    · refine ⟨he.out, fun x hx => by rw [hv]; exact he.old x hx, he.le, he.ahead, he.behind, fun u hu => he.rest u (List.mem_cons_of_mem _ hu), fun u hu => ?_⟩
      rw [hv]
      rcases he.seen u hu with h1 | h1
      · rcases List.mem_cons.1 h1 with rfl | h1
        · exact .inr hz
        · exact .inl h1
      · exact .inr h1
    · exact (h.each e (List.mem_cons_of_mem _ hm)).more (fun x hx => by rw [hv]; exact hx)
  · obtain ⟨h1, h2⟩ := List.pairwise_cons.1 h.up
    exact List.pairwise_cons.2 ⟨h1, h2⟩
  · intro e hm
    rcases List.mem_cons.1 hm with rfl | hm
    · exact h.rt.1 ⟨n, z :: r, D, s⟩ List.mem_cons_self
    · exact h.rt.1 e (List.mem_cons_of_mem _ hm)

/-- what is next is come to -/
theorem Wk.push {nx : Nat → List Nat} {a : Nat} {T0 T : List Nat} {p : List En} {n s z : Nat} {r D : List Nat} (h : Wk nx a T0 T (⟨n, z :: r, D, s⟩ :: p)) (hz : z ∉ vis T (⟨n, z :: r, D, s⟩ :: p)) :
    Wk nx a T0 T (⟨z, nx z, vis T (⟨n, r, D, s⟩ :: p), T.length⟩ :: ⟨n, r, D, s⟩ :: p) := by
  obtain ⟨q, hq⟩ : ∃ q : En, q = ⟨z, nx z, vis T (⟨n, r, D, s⟩ :: p), T.length⟩ := ⟨_, rfl⟩
  rw [← hq]
  have hqn : q.n = z := by rw [hq]
  have hv : vis T (⟨n, r, D, s⟩ :: p) = vis T (⟨n, z :: r, D, s⟩ :: p) := rfl
  have hup : ∀ x, x ∈ vis T (⟨n, z :: r, D, s⟩ :: p) → x ∈ vis T (q :: ⟨n, r, D, s⟩ :: p) := fun x hx => by
    rw [← hv, mem_vis] at hx
    rw [mem_vis]
    exact hx.imp id fun ⟨e, h1, h2⟩ => ⟨e, List.mem_cons_of_mem _ h1, h2⟩
  have hzq : z ∈ vis T (q :: ⟨n, r, D, s⟩ :: p) := mem_vis.2 (.inr ⟨q, List.mem_cons_self, hqn⟩)
  have he := h.each _ List.mem_cons_self
  have hzn : z ∈ nx n := he.rest z List.mem_cons_self
  refine ⟨h.pre, h.fin, fun x hx u hu => hup u (h.closed x hx u hu), ?_, ?_, ?_, ?_, h.rt.2.1, hup _ h.rt.2.2⟩
  · unfold vis
    rw [List.map_cons, (List.perm_middle).nodup_iff, hqn, List.nodup_cons]
    exact ⟨hz, h.nodup⟩
  · intro e hm
    rcases List.mem_cons.1 hm with rfl | hm
    · rw [hq]
      rw [hq] at hup
      exact en_new (fun x hx u hu => by rw [hv]; exact h.closed x hx u hu) (by rw [hv]; exact hz) (fun x hx => by rw [hv] at hx; exact hup x hx)
    rcases List.mem_cons.1 hm with rfl | hm
    · refine ⟨he.out, fun x hx => hup x (he.old x hx), he.le, he.ahead, he.behind, fun u hu => he.rest u (List.mem_cons_of_mem _ hu), fun u hu => ?_⟩
      rcases he.seen u hu with h1 | h1
      · rcases List.mem_cons.1 h1 with rfl | h1
        · exact .inr hzq
        · exact .inl h1
      · exact .inr (hup u h1)
    · exact (h.each e (List.mem_cons_of_mem _ hm)).more hup
  · obtain ⟨h1, h2⟩ := List.pairwise_cons.1 h.up
    refine List.pairwise_cons.2 ⟨fun e hm => ?_, List.pairwise_cons.2 ⟨h1, h2⟩⟩
    rw [hqn]
    rcases List.mem_cons.1 hm with rfl | hm
    · exact ⟨.step hzn (.refl _), fun hd => hz (he.old z hd)⟩
    · exact ⟨(h1 e hm).1.snoc hzn, fun hd => hz ((h.each e (List.mem_cons_of_mem _ hm)).old z hd)⟩
  · intro e hm
    rcases List.mem_cons.1 hm with rfl | hm
    · rw [hqn]; exact (h.rt.1 ⟨n, z :: r, D, s⟩ List.mem_cons_self).snoc hzn
    rcases List.mem_cons.1 hm with rfl | hm
    · exact h.rt.1 ⟨n, z :: r, D, s⟩ List.mem_cons_self
    · exact h.rt.1 e (List.mem_cons_of_mem _ hm)

theorem get_snoc {T : List Nat} {n j x : Nat} (h : (T ++ [n])[j]? = some x) : T[j]? = some x ∨ (j = T.length ∧ x = n) := by
  rcases Nat.lt_or_ge j T.length with hj | hj
  · rw [List.getElem?_append_left hj] at h; exact .inl h
  · rw [List.getElem?_append_right hj] at h
    match hk : j - T.length, h with
    | 0, h => simp at h; exact .inr ⟨by omega, h.symm⟩
    | k + 1, h => simp at h

/-- one is done with -/
theorem Wk.pop {nx : Nat → List Nat} {a : Nat} {T0 T : List Nat} {p : List En} {n s : Nat} {D : List Nat} (h : Wk nx a T0 T (⟨n, [], D, s⟩ :: p)) : Wk nx a T0 (T ++ [n]) p := by
  have he := h.each _ List.mem_cons_self
  have hv : ∀ x, x ∈ vis (T ++ [n]) p ↔ x ∈ vis T (⟨n, [], D, s⟩ :: p) := fun x => by
    unfold vis
    simp only [List.mem_append, List.map_cons, List.mem_cons, List.not_mem_nil, or_false, or_assoc]
  have hb : ∀ (j x : Nat), s ≤ j → (T ++ [n])[j]? = some x → x ∉ D ∧ Rch (stp nx) n x := fun j x hj hx => by
    rcases get_snoc hx with hx | ⟨_, rfl⟩
    · exact he.behind j x hj hx
    · exact ⟨he.out, .refl _⟩
  refine ⟨h.pre.trans (List.prefix_append _ _), ?_, ?_, ?_, ?_, (List.pairwise_cons.1 h.up).2, ?_, ?_, (hv _).2 h.rt.2.2⟩
  · intro k x hx
    rcases get_snoc hx with hk | ⟨rfl, rfl⟩
    · obtain ⟨s', h1, h2, h3⟩ := h.fin k x hk
      have hkl := (List.getElem?_eq_some_iff.1 hk).1
      have hl : ∀ (j y : Nat), j ≤ k → (T ++ [n])[j]? = some y → T[j]? = some y := fun j y hj hy => by rwa [List.getElem?_append_left (by omega)] at hy
      exact ⟨s', h1, fun j y hj hjk hy => h2 j y hj hjk (hl j y hjk hy), fun j y hj hy z hz i u hi hik hu => h3 j y hj (hl j y (by omega) hy) z hz i u hi hik (hl i u hik hu)⟩
    · refine ⟨s, he.le, fun j y hj _ hy => (hb j y hj hy).2, fun j y hj hy z hz i u hi _ hu e => ?_⟩
      have hjl : j < T.length := Nat.lt_of_lt_of_le hj he.le
      rw [List.getElem?_append_left hjl] at hy
      have hd := he.ahead j y hj hy z hz
      exact (hb i u hi hu).1 (e ▸ hd)
  · intro x hx z hz
    rw [hv]
    rcases List.mem_append.1 hx with hx | hx
    · exact h.closed x hx z hz
    · rw [List.mem_singleton] at hx
      subst hx
      rcases he.seen z hz with h1 | h1
      · simp at h1
      · exact h1
  · have hp := h.nodup
    unfold vis at hp ⊢
    rw [List.append_assoc]
    exact hp
  · intro f hf
    have hfo := h.each f (List.mem_cons_of_mem _ hf)
    have hu := (List.pairwise_cons.1 h.up).1 f hf
    refine ⟨hfo.out, fun x hx => (hv x).2 (hfo.old x hx), by rw [List.length_append]; have := hfo.le; omega, fun j x hj hx => ?_, fun j x hj hx => ?_, hfo.rest, fun z hz => (hfo.seen z hz).imp id fun h => (hv z).2 h⟩
    · rw [List.getElem?_append_left (Nat.lt_of_lt_of_le hj hfo.le)] at hx
      exact hfo.ahead j x hj hx
    · rcases get_snoc hx with hx | ⟨_, rfl⟩
      · exact hfo.behind j x hj hx
      · exact ⟨hu.2, hu.1⟩
  · intro e hm
    exact h.rt.1 e (List.mem_cons_of_mem _ hm)
  · intro x hx
    rcases List.mem_append.1 hx with hx | hx
    · exact h.rt.2.1 x hx
    · rw [List.mem_singleton] at hx
      subst hx
      exact .inr (h.rt.1 _ List.mem_cons_self)

/-- what a walk leaves -/
structure Wd (nx : Nat → List Nat) (a : Nat) (T0 t : List Nat) : Prop where
  dn : Dn nx (T0 ++ t)
  rc : ∀ x ∈ t, Rch (stp nx) a x
  out : ∀ x ∈ t, x ∉ T0
  at_ : a ∈ T0 ++ t
theorem Wk.done {nx : Nat → List Nat} {a : Nat} {T0 T : List Nat} (h : Wk nx a T0 T []) : ∃ t, T = T0 ++ t ∧ Wd nx a T0 t := by
  obtain ⟨t, rfl⟩ := h.pre
  have hn := h.nodup
  rw [vis_nil, List.nodup_append] at hn
  have ho : ∀ x ∈ t, x ∉ T0 := fun x hx h0 => hn.2.2 x h0 x hx rfl
  refine ⟨t, rfl, ⟨h.fin, fun x hx z hz => by have := h.closed x hx z hz; rwa [vis_nil] at this, by have := h.nodup; rwa [vis_nil] at this⟩, fun x hx => ?_, ho, by have := h.rt.2.2; rwa [vis_nil] at this⟩
  rcases h.rt.2.1 x (List.mem_append_right _ hx) with h1 | h1
  · exact absurd h1 (ho x hx)
  · exact h1

/-! ### the rings -/
theorem Rch.rev {nx bk : Nat → List Nat} (hd : ∀ a b, a ∈ bk b ↔ b ∈ nx a) {a b : Nat} (h : Rch (stp bk) a b) : Rch (stp nx) b a := by
  induction h with
  | refl => exact .refl _
  | step r _ ih => exact ih.snoc ((hd _ _).1 r)

/-- the numbers that stand behind so many walks back -/
structure Nm (nx bk : Nat → List Nat) (T : List Nat) (i : Nat) (S : List Nat) (num : Nat → Option Nat) : Prop where
  dn : Dn bk S
  hi : ∀ (j x : Nat), i ≤ j → T[j]? = some x → x ∈ S
  dom : ∀ x, x ∈ S ↔ ∃ k, num x = some k
  snd : ∀ x k, num x = some k → i ≤ k ∧ ∃ r, T[k]? = some r ∧ Rch (stp nx) r x ∧ Rch (stp nx) x r
  coh : ∀ x y k, num x = some k → Rch (stp nx) x y → Rch (stp nx) y x → num y = some k

theorem nm_start (nx bk : Nat → List Nat) (T : List Nat) : Nm nx bk T T.length [] (fun _ => none) :=
  ⟨dn_nil _, fun j x hj h => by have := (List.getElem?_eq_some_iff.1 h).1; omega, fun x => by simp, fun x k h => by simp at h, fun x y k h => by simp at h⟩

theorem Nm.step {nx bk : Nat → List Nat} (hd : ∀ a b, a ∈ bk b ↔ b ∈ nx a) {T : List Nat} (hT : Dn nx T) (hall : ∀ a, nx a ≠ [] → a ∈ T) {i : Nat} {S : List Nat} {num : Nat → Option Nat} (h : Nm nx bk T (i + 1) S num)
    {n : Nat} (hn : T[i]? = some n) {t : List Nat} (hw : Wd bk n S t) {num' : Nat → Option Nat} (hnum : ∀ x, num' x = if x ∈ t then some i else num x) : Nm nx bk T i (S ++ t) num' := by
  have hS' : ∀ x, x ∈ S → num' x = num x := fun x hx => by rw [hnum, if_neg (fun ht => hw.out x ht hx)]
  -- what comes to n without S comes from n
  have key : ∀ y, Rch (stp nx) y n → y ∉ S → Rch (stp nx) n y := by
    obtain ⟨s, hs, h2, h3⟩ := hT.fin i n hn
    have P : ∀ y, Rch (stp nx) y n → y ∉ S → ∃ j, s ≤ j ∧ j ≤ i ∧ T[j]? = some y := by
      intro y hy
      generalize hg : n = m at hy
      induction hy with
      | refl b => subst hg; exact fun _ => ⟨i, hs, Nat.le_refl _, hn⟩
      | @step b c d r hc ih =>
        intro hb
        have hcS : c ∉ S := fun hc' => hb (h.dn.closed c hc' b ((hd b c).2 r))
        obtain ⟨j, hj1, hj2, hj3⟩ := ih hg hcS
        obtain ⟨k, hk⟩ := List.getElem?_of_mem (hall b (fun e => by have r' : c ∈ nx b := r; rw [e] at r'; simp at r'))
        have hki : k ≤ i := Nat.le_of_not_lt fun hlt => hb (h.hi k b hlt hk)
        refine ⟨k, Nat.le_of_not_lt fun hlt => ?_, hki, hk⟩
        exact h3 k b hlt hk c r j c hj1 hj2 hj3 rfl
    intro y hy hyS
    obtain ⟨j, hj1, hj2, hj3⟩ := P y hy hyS
    exact h2 j y hj1 hj2 hj3
  refine ⟨hw.dn, fun j x hj hx => ?_, fun x => ?_, fun x k hx => ?_, fun x y k hx hxy hyx => ?_⟩
  · rcases Nat.lt_or_ge i j with hlt | hge
    · exact List.mem_append_left _ (h.hi j x hlt hx)
    · obtain rfl : j = i := by omega
      rw [hn] at hx
      injection hx with hx
      subst hx
      exact hw.at_
  · rw [List.mem_append, hnum]
    by_cases ht : x ∈ t
    · rw [if_pos ht]; simp [ht]
    · rw [if_neg ht, ← h.dom]; simp [ht]
  · rw [hnum] at hx
    by_cases ht : x ∈ t
    · rw [if_pos ht] at hx
      injection hx with hx
      subst hx
      have hxn := Rch.rev hd (hw.rc x ht)
      exact ⟨Nat.le_refl _, n, hn, key x hxn (hw.out x ht), hxn⟩
    · rw [if_neg ht] at hx
      obtain ⟨h1, h2⟩ := h.snd x k hx
      exact ⟨by omega, h2⟩
  · have cl : ∀ (S : List Nat), (∀ x ∈ S, ∀ z ∈ bk x, z ∈ S) → ∀ u v, Rch (stp nx) u v → v ∈ S → u ∈ S := fun S hS u v huv => by
      induction huv with
      | refl => exact id
      | step r _ ih => exact fun hv => hS _ (ih hv) _ ((hd _ _).2 r)
    rw [hnum] at hx
    by_cases ht : x ∈ t
    · rw [if_pos ht] at hx
      have hyS : y ∉ S := fun hy => hw.out x ht (cl S h.dn.closed x y hxy hy)
      have hy := cl (S ++ t) hw.dn.closed y x hyx (List.mem_append_right _ ht)
      rcases List.mem_append.1 hy with hy | hy
      · exact absurd hy hyS
      · rw [hnum, if_pos hy]; exact hx
    · rw [if_neg ht] at hx
      have hxS : x ∈ S := (h.dom x).2 ⟨k, hx⟩
      have hyS := cl S h.dn.closed y x hyx hxS
      rw [hS' y hyS]
      exact h.coh x y k hx hxy hyx

/-- at the end: of one number are those that come to one another -/
theorem Nm.same {nx bk : Nat → List Nat} {T S : List Nat} {num : Nat → Option Nat} (h : Nm nx bk T 0 S num) (hT : Dn nx T) (hall : ∀ a, nx a ≠ [] → a ∈ T) {a b : Nat} (hab : b ∈ nx a) :
    ∃ ka kb, num a = some ka ∧ num b = some kb ∧ ka < T.length ∧ kb < T.length ∧ (ka = kb ↔ Rch (stp nx) b a) := by
  have haT : a ∈ T := hall a (fun e => by rw [e] at hab; simp at hab)
  have hbT : b ∈ T := hT.closed a haT b hab
  have inS : ∀ x, x ∈ T → x ∈ S := fun x hx => by obtain ⟨j, hj⟩ := List.getElem?_of_mem hx; exact h.hi j x (Nat.zero_le _) hj
  obtain ⟨ka, hka⟩ := (h.dom a).1 (inS a haT)
  obtain ⟨kb, hkb⟩ := (h.dom b).1 (inS b hbT)
  obtain ⟨_, ra, ha1, ha2, ha3⟩ := h.snd a ka hka
  obtain ⟨_, rb, hb1, hb2, hb3⟩ := h.snd b kb hkb
  refine ⟨ka, kb, hka, hkb, (List.getElem?_eq_some_iff.1 ha1).1, (List.getElem?_eq_some_iff.1 hb1).1, fun e => ?_, fun hba => ?_⟩
  · subst e
    rw [ha1] at hb1
    injection hb1 with hb1
    subst hb1
    exact hb3.trans ha2
  · have := h.coh a b ka hka (.step hab (.refl _)) hba
    rw [hkb] at this
    injection this with this
    exact this.symm
end Go.Proofs.YtbokhhialfbjcaaGreat

namespace Go.Proofs.YtbokhhialfbjcaaGreat
set_option maxRecDepth 100000
set_option linter.unusedVariables false
set_option linter.unusedSimpArgs false
open Go.RowKit Go.Shelf Go.Sort Go.Maps

section
variable {α : Type} {R : Rk α}
theorem Rk.Ok.elem (h : R.Ok) (W : World) : (Go.sizeOf (Tryz.prog.elem R.s)).run Tryz.prog W = .ok R.m W := by
  have e : Tryz.prog.elem R.s = R.e := by unfold Program.elem; rw [h.und]
  rw [e]; exact h.size W
theorem Rk.Ok.und2 (h : R.Ok) : Tryz.prog.underlying R.s = some (.slice (Tryz.prog.elem R.s)) := by
  have e : Tryz.prog.elem R.s = R.e := by unfold Program.elem; rw [h.und]
  rw [e]; exact h.und
theorem Rk.wpList_slice_to {ops : Array Oper} {rest : List Oper} {o : Oper} {a : Act} {w : World} {Q : Exit → Act → World → Prop} (hR : R.Ok) (hgd : o.guard = none) (s x : Operand) (ho : o.op = .slice R.s s none (some x) none)
    (A : Option Addr) (n k m : Nat) (hs : a.eval s = .slice A n k) (hx : a.eval x = .int .i64 (m : Int)) (hA : Sp A) (hm : m ≤ k)
    (h : wpList Tryz.prog ops Q rest (a.put o.dst (.slice A m k)) w) : wpList Tryz.prog ops Q (o :: rest) a w := by
  refine wpList_plain hgd fun K hK => ?_
  have hrun : (Instr.slice R.s (.slice A n k) none (some (.int .i64 (m : Int))) none).run Tryz.prog w = .ok (.slice A m k) w := by
    rw [run_slice_h w R.s A n k hR.und2 .i64 (m : Int) (by omega) (by omega), hR.elem w]
    rcases hA with rfl | ⟨b, q, rfl⟩ <;> simp [Result.andThen, sliced, Addr.add]
  unfold Oper.wp execOp
  simp only [ho, Sem.run_bind, Sem.run_pure, Result.andThen_ok, hs, hx, Option.map_some, Option.map_none, run_sliceAt_slice _ _ _ _ _ _ hR.und2, hrun]
  exact hK _ _ h
theorem Rk.wpList_slice_from {ops : Array Oper} {rest : List Oper} {o : Oper} {a : Act} {w : World} {Q : Exit → Act → World → Prop} (hR : R.Ok) (hgd : o.guard = none) (s x : Operand) (ho : o.op = .slice R.s s (some x) none none)
    (A : Option Addr) (n k m : Nat) (hs : a.eval s = .slice A n k) (hx : a.eval x = .int .i64 (m : Int)) (hA : Sp A) (hm : m ≤ n) (hk : n ≤ k) {W : World} {l r : List α} (hl : R.At W A (l ++ r)) (hlm : l.length = m) (hn : (l ++ r).length = n)
    (h : ∀ A' n' k', Sp A' → R.At W A' r → r.length = n' → n' ≤ k' → wpList Tryz.prog ops Q rest (a.put o.dst (.slice A' n' k')) w) : wpList Tryz.prog ops Q (o :: rest) a w := by
  refine wpList_plain hgd fun K hK => ?_
  have hrn : r.length = n - m := by rw [← hn, List.length_append, hlm]; omega
  obtain ⟨A', hA', hL', hrun⟩ : ∃ A', Sp A' ∧ R.At W A' r ∧ (Instr.slice R.s (.slice A n k) (some (.int .i64 (m : Int))) none none).run Tryz.prog w = .ok (.slice A' (n - m) (k - m)) w := by
    rw [run_slice_l w R.s A n k hR.und2 .i64 (m : Int) (by omega) (by omega), hR.elem w]
    by_cases e : k = m
    · have : r = [] := List.eq_nil_of_length_eq_zero (by omega)
      subst this
      exact ⟨A, hA, .inl rfl, by simp [Result.andThen, sliced, e]⟩
    · rcases hA with rfl | ⟨b, q, rfl⟩
      · refine ⟨none, .inl rfl, ?_, by simp [Result.andThen, sliced, e]⟩
        rcases hl with h | ⟨b, q, e, _⟩
        · exact .inl (List.append_eq_nil_iff.1 h).2
        · cases e
      · refine ⟨some ⟨b, q + m * R.m, none⟩, .inr ⟨_, _, rfl⟩, hl.right hR hlm, ?_⟩
        simp [Result.andThen, sliced, e, addr_add]
  unfold Oper.wp execOp
  simp only [ho, Sem.run_bind, Sem.run_pure, Result.andThen_ok, hs, hx, Option.map_some, Option.map_none, run_sliceAt_slice _ _ _ _ _ _ hR.und2, hrun]
  exact hK _ _ (h A' (n - m) (k - m) hA' hL' hrn (by omega))

theorem Rk.Ok.set_cell (h : R.Ok) : ∀ (l : List α) (i j : Nat) (x z : α) (u : Value), l[i]? = some x → j < R.m → R.enc z = (R.enc x).set j u → R.cells (l.set i z) = (R.cells l).set (i * R.m + j) u
  | [], i, j, x, z, u, hi, _, _ => by simp at hi
  | y :: l, 0, j, x, z, u, hi, hj, he => by
    simp at hi; subst hi
    show R.cells (z :: l) = _
    unfold Rk.cells
    rw [List.flatMap_cons, List.flatMap_cons, he, Nat.zero_mul, Nat.zero_add, List.set_append_left _ _ (by rw [h.len]; exact hj)]
  | y :: l, i + 1, j, x, z, u, hi, hj, he => by
    have ih := h.set_cell l i j x z u (by simpa using hi) hj he
    show R.cells (y :: l.set i z) = _
    unfold Rk.cells at ih ⊢
    rw [List.flatMap_cons, List.flatMap_cons, ih, List.set_append_right _ _ (by rw [h.len, Nat.succ_mul]; omega), h.len]
    congr 2
    rw [Nat.succ_mul]; omega

/-- one cell of an element of the call's own row is stored to -/
theorem Rk.Own.setCell (h0 : R.Ok) {W : World} {base g n cap : Nat} {l : List α} (h : R.Own W base (.slice (some ⟨g, 0, none⟩) n cap) l) {i j : Nat} {x z : α} {u : Value} (hx : l[i]? = some x) (hj : j < R.m) (he : R.enc z = (R.enc x).set j u) :
    R.Own (W.setCell ⟨g, i * R.m + j, none⟩ u) base (.slice (some ⟨g, 0, none⟩) n cap) (l.set i z) := by
  rcases h.2 with ⟨e, _⟩ | ⟨g', cap', cur, e, hb, hh, hnc, hcm, hcs, ht⟩
  · cases e
  · injection e with e1 e2 e3
    injection e1 with e1
    injection e1 with e1
    subst e1
    subst e3
    refine ⟨by rw [h0.length, List.length_set], .inr ⟨g, cap, cur.setIfInBounds (i * R.m + j) u, by rw [List.length_set, ← e2], hb, heap_setCell_same _ _ _ _ _ _ hh, by rw [List.length_set]; exact hnc, hcm, by rw [Array.size_setIfInBounds]; exact hcs, ?_⟩⟩
    rw [List.length_set, h0.set_cell l i j x z u hx hj he, Array.toList_setIfInBounds, List.take_set, ht]
theorem Rk.Own.fr {W : World} {base g n cap : Nat} {l : List α} (h : R.Own W base (.slice (some ⟨g, 0, none⟩) n cap) l) (j : Nat) : W.frozen? ⟨g, j, none⟩ = false := by
  rcases h.2 with ⟨e, _⟩ | ⟨g', cap', cur, e, hb, hh, _⟩
  · cases e
  · injection e with e1 e2 e3
    injection e1 with e1
    injection e1 with e1
    subst e1
    exact frozen_of_row _ _ _ _ _ hh
end

/-- a step of the pile as it lies, and as it is -/
structure SpOk (W : World) (s : Sp1) (e : En) : Prop where
  n : s.n = e.n
  k : s.k = e.r.length
  c : s.k ≤ s.c
  sp : Sp s.a
  at_ : RI.At W s.a e.r
def PrT (W : World) : List Sp1 → List En → Prop
  | [], [] => True
  | s :: P, e :: p => SpOk W s e ∧ PrT W P p
  | _, _ => False
theorem PrT.len {W : World} : ∀ {P : List Sp1} {p : List En}, PrT W P p → P.length = p.length
  | [], [], _ => rfl
  | _ :: P, _ :: p, h => by simp [PrT.len h.2]
  | [], _ :: _, h => h.elim
  | _ :: _, [], h => h.elim

/-- what is left to do -/
def mu (M : Nat) (T : List Nat) (p : List En) : Nat := (64 - (vis T p).length) * (M + 1) + (p.map fun e => e.r.length + 1).sum
theorem vis_len (T : List Nat) (p : List En) : (vis T p).length = T.length + p.length := by simp [vis]
theorem mu_skip (M : Nat) (T : List Nat) (p : List En) (n s z : Nat) (r D : List Nat) : mu M T (⟨n, r, D, s⟩ :: p) < mu M T (⟨n, z :: r, D, s⟩ :: p) := by
  simp only [mu, vis_len, List.length_cons, List.map_cons, List.sum_cons]; omega
theorem mu_push {M : Nat} {T : List Nat} {p : List En} {n s z s' : Nat} {r D l D' : List Nat} (hl : l.length ≤ M) (hv : (vis T (⟨n, z :: r, D, s⟩ :: p)).length < 64) : mu M T (⟨z, l, D', s'⟩ :: ⟨n, r, D, s⟩ :: p) < mu M T (⟨n, z :: r, D, s⟩ :: p) := by
  simp only [mu, vis_len, List.length_cons, List.map_cons, List.sum_cons] at hv ⊢
  obtain ⟨k, hk⟩ : ∃ k, 64 - (T.length + (p.length + 1)) = k + 1 := ⟨64 - (T.length + (p.length + 1)) - 1, by omega⟩
  have h2 : 64 - (T.length + (p.length + 1 + 1)) = k := by omega
  rw [hk, h2, Nat.succ_mul]
  omega
theorem mu_pop (M : Nat) (T : List Nat) (p : List En) (n s : Nat) (D : List Nat) : mu M (T ++ [n]) p < mu M T (⟨n, [], D, s⟩ :: p) := by
  simp only [mu, vis_len, List.length_cons, List.length_append, List.map_cons, List.sum_cons, List.length_nil]
  have : T.length + (0 + 1) + p.length = T.length + (p.length + 1) := by omega
  rw [this]; omega

theorem len_below : ∀ (N : Nat) (l : List Nat), l.Nodup → (∀ x ∈ l, x < N) → l.length ≤ N
  | 0, l, _, h => by
    cases l with
    | nil => simp
    | cons x _ => exact absurd (h x (by simp)) (by omega)
  | N + 1, l, hn, h => by
    have h1 := len_below N (l.erase N) (hn.erase N) (fun x hx => by
      have h2 := (List.Nodup.mem_erase_iff hn).1 hx
      have := h x h2.2
      omega)
    have h3 := List.length_erase (a := N) (l := l)
    rw [h3] at h1
    split at h1 <;> omega
/-- all that were come to are below 64 -/
theorem Wk.low {nx : Nat → List Nat} {a : Nat} {T0 T : List Nat} {p : List En} (h : Wk nx a T0 T p) (ha : a < 64) (h0 : ∀ x ∈ T0, x < 64) (hnx : ∀ n, n < 64 → ∀ z ∈ nx n, z < 64) : (∀ x ∈ vis T p, x < 64) ∧ ∀ e ∈ p, ∀ z ∈ e.r, z < 64 := by
  have hr : ∀ x, Rch (stp nx) a x → x < 64 := fun x hx => hx.keeps (P := fun x => x < 64) (fun u v hu r => hnx u hu v r) ha
  refine ⟨fun x hx => ?_, fun e he z hz => hnx e.n (hr _ (h.rt.1 e he)) z ((h.each e he).rest z hz)⟩
  rcases mem_vis.1 hx with hx | ⟨e, he, rfl⟩
  · rcases h.rt.2.1 x hx with hx | hx
    · exact h0 x hx
    · exact hr x hx
  · exact hr _ (h.rt.1 e he)

theorem RI_cell {W : World} {A : Option Addr} {l : List Nat} (h : RI.At W A l) {i x : Nat} (hx : l[i]? = some x) : ∃ b o, A = some ⟨b, o, none⟩ ∧ b < W.heap.size ∧ W.cell? ⟨b, o + i, none⟩ = some (.int .i64 (x : Int)) := by
  obtain ⟨b, o, e, hb, hc⟩ := h.get ri_ok hx
  refine ⟨b, o, e, hb, ?_⟩
  have := hc 0 _ rfl
  have e2 : o + (i * RI.m + 0) = o + i := by show o + (i * 1 + 0) = o + i; omega
  rwa [e2] at this
/-- a row of numbers lies in no block of a map -/
theorem RI_not {W : World} {A : Option Addr} {l : List Nat} {bm nn : Nat} {C : List Nat} (h : RI.At W A l) (hm : Cm W bm nn C) (b o : Nat) (e : A = some ⟨b, o, none⟩) : l = [] ∨ b ≠ bm := by
  cases l with
  | nil => exact .inl rfl
  | cons x l =>
    obtain ⟨b', o', e', _, hc⟩ := RI_cell h (i := 0) (x := x) rfl
    rw [e] at e'
    injection e' with e'
    injection e' with e1 e2
    subst e1
    refine .inr fun hb => ?_
    obtain ⟨D, ⟨es, cl, hh, _⟩, _⟩ := hm
    rw [← hb] at hh
    unfold World.cell? at hc
    simp only [hh] at hc
    cases hc
end Go.Proofs.YtbokhhialfbjcaaGreat

namespace Go.Proofs.YtbokhhialfbjcaaGreat
set_option maxRecDepth 100000
set_option linter.unusedVariables false
set_option linter.unusedSimpArgs false
open Go.RowKit Go.Shelf Go.Sort Go.Maps

/-- what is next, as a function value tells it: rows that lie there -/
structure Nx (W0 : World) (nx : Nat → List Nat) (F : Nat → Sp1) (M : Nat) : Prop where
  ok : ∀ n, n < 64 → (F n).n = n ∧ (F n).k = (nx n).length ∧ (F n).k ≤ (F n).c ∧ Sp (F n).a ∧ RI.At W0 (F n).a (nx n)
  lt : ∀ n, n < 64 → ∀ z ∈ nx n, z < 64
  few : ∀ n, n < 64 → (nx n).length ≤ M

/-- what it is ahead of a round -/
structure Wi (W0 wr : World) (nx : Nat → List Nat) (a bm base : Nat) (T0 : List Nat) (tv : Value) (gk M : Nat) (fv : Value) (t : List Nat) (p : List En) (Pt : List Sp1) (pv : Value) : Prop where
  wk : Wk nx a T0 (T0 ++ t) p
  mu : gk = mu M (T0 ++ t) p
  cm : Cm wr bm (vis (T0 ++ t) p).length (vis (T0 ++ t) p)
  pr : PrT W0 Pt p
  ot : RI.Own wr base tv t
  op : RP.Own wr base pv Pt.reverse
  ap : ∀ q, tv.ownBlock = some q → pv.ownBlock ≠ some q
  b4 : Bk wr W0.heap.size #[fv] 64
  b5 : Bk wr (W0.heap.size + 1) #[.map (some bm)] 91
  b7 : Bk wr (W0.heap.size + 2) #[pv] 122
  tu : Turn (fun q => q = bm ∨ W0.heap.size ≤ q) W0 wr

set_option maxHeartbeats 4000000 in
theorem walk_any (pf g : Nat) (eg : ∀ args w, (callFunc pf args).run Tryz.prog w = .ok (.enter pf args) w) (nx : Nat → List Nat) (F : Nat → Sp1) (M : Nat) (hM : M ≤ 100000000) (bm a : Nat) (ha : a < 64) (T0 : List Nat) (W0 : World)
    (hN : Nx W0 nx F M) (hd : Dn nx T0) (h0 : ∀ x ∈ T0, x < 64) (hm : Cm W0 bm T0.length T0)
    (hnx : ∀ V, Turn (fun q => q = bm ∨ W0.heap.size ≤ q) W0 V → ∀ n : Nat, n < 64 → Calls Tryz.prog pf #[.int .i64 (n : Int), .pointer (some ⟨g, 0, none⟩)] V fun e w' => e = .returned (.slice (F n).a (F n).k (F n).c) ∧ Below V.heap.size V w') :
    Calls Tryz.prog 45 #[.int .i64 (a : Int), .func (.func pf) #[] #[.pointer (some ⟨g, 0, none⟩)], .map (some bm)] W0 fun e w' => ∃ (v : Value) (t : List Nat), e = .returned v ∧ Wd nx a T0 t ∧ RI.Own w' W0.heap.size v t ∧ Cm w' bm (T0 ++ t).length (T0 ++ t) ∧ Turn (fun q => q = bm) W0 w' := by
  obtain ⟨fv, hfv⟩ : ∃ fv : Value, fv = .func (.func pf) #[] #[.pointer (some ⟨g, 0, none⟩)] := ⟨_, rfl⟩
  obtain ⟨wa, hwa⟩ : ∃ wa, wa = W0.alloc (.cells #[.func (.func pf) #[] #[.pointer (some ⟨g, 0, none⟩)]] 64) := ⟨_, rfl⟩
  obtain ⟨wb, hwb⟩ : ∃ wb, wb = wa.alloc (.cells #[.map (some bm)] 91) := ⟨_, rfl⟩
  obtain ⟨w1, hw1⟩ : ∃ w1, w1 = wb.alloc (.cells #[.slice none 0 0] 122) := ⟨_, rfl⟩
  have sa : wa.heap.size = W0.heap.size + 1 := by rw [hwa]; simp
  have sb : wb.heap.size = W0.heap.size + 2 := by rw [hwb, World.size_alloc, sa]
  have s1 : w1.heap.size = W0.heap.size + 3 := by rw [hw1, World.size_alloc, sb]
  have b1 : Below W0.heap.size W0 w1 := by rw [hw1, hwb, hwa]; exact below_two (below_two (below_new _ _) (below_new _ _)) (below_new _ _)
  have k4 : Bk w1 W0.heap.size #[fv] 64 := by rw [hfv, hw1, hwb, hwa]; exact ((Bk.new W0 _ _).below (below_new _ _)).below (below_new _ _)
  have k5 : Bk w1 (W0.heap.size + 1) #[.map (some bm)] 91 := by
    have h := Bk.new wa #[.map (some bm)] 91
    rw [sa] at h
    rw [hw1, hwb]; exact h.below (below_new _ _)
  have k7 : Bk w1 (W0.heap.size + 2) #[.slice none 0 0] 122 := by
    have h := Bk.new wb #[.slice none 0 0] 122
    rw [sb] at h
    rw [hw1]; exact h
  have hbm := hm.lt
  have HN := Lib.hid hN
  have HD := Lib.hid hd
  have H0 := Lib.hid h0
  have HM := Lib.hid hm
  have HNX := Lib.hid hnx
  have HB1 := Lib.hid b1
  have HS1 := Lib.hid s1
  have H4 := Lib.hid k4
  have H5 := Lib.hid k5
  have H7 := Lib.hid k7
  have HMM := Lib.hid hM
  have HBM := Lib.hid hbm
  have HFV := Lib.hid hfv
  have hlow : T0.length ≤ 64 := len_below 64 T0 hd.nodup h0
  have eg78 : ∀ args w, (callFunc 69 args).run Tryz.prog w = .ok (.enter 69 args) w := enters_of Tryz.func69 (by kernel_rfl) rfl
  -- the inner call, of whatever
  have HENT : ∀ (n : Nat), n < 64 → ∀ (C : List Nat) (nn : Nat) (pv : Value) (P : List Sp1) (V : World), nn ≤ 1000 → P.length ≤ 1000 → Bk V W0.heap.size #[fv] 64 → Bk V (W0.heap.size + 1) #[.map (some bm)] 91 → Bk V (W0.heap.size + 2) #[pv] 122 →
      Cm V bm nn C → RP.Own V (W0.heap.size + 3) pv P → Turn (fun q => q = bm ∨ W0.heap.size ≤ q) W0 V →
      Calls Tryz.prog 69 #[.int .i64 (n : Int), .pointer (some ⟨W0.heap.size + 1, 0, none⟩), .pointer (some ⟨W0.heap.size + 2, 0, none⟩), .pointer (some ⟨W0.heap.size, 0, none⟩)] V (EntOut bm (W0.heap.size + 2) (W0.heap.size + 3) nn n C pv P (F n) V) := by
    intro n hn C nn pv P V h1 h2 h3 h4 h5 h6 h7 h8
    have hsz := h5.lt
    refine enter_any bm (W0.heap.size + 1) (W0.heap.size + 2) W0.heap.size (W0.heap.size + 3) pf g eg n hn C nn h1 pv P h2 (F n) (HN.out.ok n hn).1 V h4 h5 (by rw [← hfv]; exact h3) h6 h7 (by omega) (by omega) (by omega) ?_
    intro U hU
    refine HNX.out U (h8.trans (hU.mono fun q e => ?_)) n hn
    rcases e with e | e | e
    · exact .inl e
    · exact .inr (by omega)
    · exact .inr (by have := (h7.lt q e).1; omega)
  have HENT := Lib.hid HENT
  clear hN hd h0 hm hnx b1 s1 k4 k5 k7 hM sa sb
  go_enter Tryz.func45, Tryz.ntmps45
  go_upto_region 4 with fail
  rw [← hwa, ← hwb, ← hw1]
  clear hwa hwb hw1 wa wb
  have HC1 := Lib.hid (HENT.out a ha T0 T0.length (.slice none 0 0) [] w1 (by omega) (by simp) H4.out H5.out H7.out (HM.out.below HB1.out) (Rk.Own.nil _ _ _) (Turn.ofBelow HB1.out))
  go_wp2_with (first | (go_at_fn 69; refine HC1.out.mono ?_; rintro e w2 ⟨rfl, ho2⟩; have HO2 := Lib.hid ho2; clear ho2) | fail)
  have HST : ∃ p Pt pv, Wi W0 w2 nx a bm (W0.heap.size + 3) T0 (.slice none 0 0) (mu M T0 p) M fv [] p Pt pv := by
    rcases HO2.out with ⟨hin, hb⟩ | ⟨hin, pv', hb7, hcm, hop, htu, hq⟩
    · have hb' : Below W0.heap.size W0 w2 := HB1.out.trans (hb.mono HB1.out.size)
      exact ⟨[], [], .slice none 0 0, by rw [List.append_nil]; exact wk_old HD.out hin, by rw [List.append_nil], by rw [List.append_nil, vis_nil]; exact HM.out.below hb', trivial, Rk.Own.nil _ _ _, Rk.Own.nil _ _ _, fun q e => (by cases e), H4.out.below hb, H5.out.below hb, H7.out.below hb, Turn.ofBelow hb'⟩
    · have hT : ¬ W0.heap.size = bm := by omega
      have t4 : ∀ k, k ≠ bm → k ≠ W0.heap.size + 2 → ∀ cs ty, Bk w1 k cs ty → Bk w2 k cs ty := fun k h1 h2 cs ty h => h.turn htu (fun e => by rcases e with e | e | e; exact h1 e; exact h2 e; cases e)
      refine ⟨[⟨a, nx a, T0, T0.length⟩], [F a], pv', by rw [List.append_nil]; exact wk_new HD.out hin, by rw [List.append_nil], ?_, ⟨⟨(HN.out.ok a ha).1, (HN.out.ok a ha).2.1, (HN.out.ok a ha).2.2.1, (HN.out.ok a ha).2.2.2.1, (HN.out.ok a ha).2.2.2.2⟩, trivial⟩, Rk.Own.nil _ _ _, hop, fun q e => (by cases e), t4 _ (by omega) (by omega) _ _ H4.out, t4 _ (by omega) (by omega) _ _ H5.out, hb7, (Turn.ofBelow HB1.out).trans (htu.mono fun q e => ?_)⟩
      · rw [List.append_nil, vis_len]
        refine hcm.congr fun x => ?_
        simp [vis, or_comm]
      · rcases e with e | e | e
        · exact .inl e
        · exact .inr (by omega)
        · cases e
  obtain ⟨p0, Pt0, pv0, HW0⟩ := HST
  have HW0 := Lib.hid HW0
  clear HO2 HC1 H4 H5 H7 HB1 HS1
  go_loopg [9] (mu M T0 p0) (fun gn tv wr => ∃ t p Pt pv, Hid (Wi W0 wr nx a bm (W0.heap.size + 3) T0 tv gn M fv t p Pt pv))
  case atStart => exact ⟨[], p0, Pt0, pv0, HW0⟩
  case round =>
    obtain ⟨t, p, Pt, pv, HI⟩ := hrel
    have hvl := len_below 64 _ HI.out.wk.nodup (HI.out.wk.low ha H0.out HN.out.lt).1
    have hlow2 := (HI.out.wk.low ha H0.out HN.out.lt).2
    rw [vis_len, List.length_append] at hvl
    rcases p with _ | ⟨e, p⟩
    · have hPt : Pt = [] := by
        cases Pt with
        | nil => rfl
        | cons s P => exact HI.out.pr.elim
      subst hPt
      obtain ⟨A, cp, hpv, _, _, _⟩ := Rk.Own.form rp_ok HI.out.op
      have hpv : pv = .slice A 0 cp := hpv
      subst hpv
      have c7 := HI.out.b7.c 0 _ rfl
      go_wp2
      go_ret
      obtain ⟨t', ht', hw⟩ := HI.out.wk.done
      have ht2 := List.append_cancel_left ht'
      subst ht2
      have h := HI.out.tu
      exact ⟨_, t, rfl, hw, HI.out.ot.le (by omega), by have := HI.out.cm; rwa [vis_nil] at this, ⟨h.os, h.tape, h.output, h.size, fun k hk hn => h.block k hk (fun h' => by rcases h' with e | e; exact hn e; omega)⟩⟩
    · obtain ⟨s, P, rfl⟩ : ∃ s P, Pt = s :: P := by
        cases Pt with
        | nil => exact HI.out.pr.elim
        | cons s P => exact ⟨s, P, rfl⟩
      have HSO := Lib.hid HI.out.pr.1
      have HPP := Lib.hid HI.out.pr.2
      obtain ⟨m, hm⟩ : ∃ m, m = P.length := ⟨_, rfl⟩
      have hmp : m = p.length := by rw [hm]; exact HPP.out.len
      simp only [List.length_cons] at hvl
      have hlen : (s :: P).reverse.length = m + 1 := by simp [hm]
      obtain ⟨A, cp, hpv, hcp, hat, hA⟩ := Rk.Own.form rp_ok HI.out.op
      rw [hlen] at hpv hcp
      obtain ⟨gp, hgp, hgb⟩ : ∃ gp, A = some ⟨gp, 0, none⟩ ∧ W0.heap.size + 3 ≤ gp := by
        rcases hA with h | ⟨gp, h, h2, _⟩
        · rcases hat with h2 | ⟨b, o, h2, _⟩
          · simp at h2
          · rw [h] at h2; cases h2
        · exact ⟨gp, h, h2⟩
      subst hgp
      subst hpv
      have hi : (s :: P).reverse[m]? = some s := by
        rw [List.reverse_cons, List.getElem?_append_right (by simp [hm])]; simp [hm]
      have c7 := HI.out.b7.c 0 _ rfl
      have cn : wr.cell? ⟨gp, m * 2, none⟩ = some (.int .i64 (s.n : Int)) := Rk.Own.cell0 rp_ok HI.out.op hi 0 _ rfl
      have cr : wr.cell? ⟨gp, m * 2 + 1, none⟩ = some (.slice s.a s.k s.c) := Rk.Own.cell0 rp_ok HI.out.op hi 1 _ rfl
      have fr : wr.frozen? ⟨gp, m * 2 + 1, none⟩ = false := Rk.Own.fr HI.out.op _
      have HII := Lib.hid hi
      have HMP := Lib.hid hm
      have HG7 := Lib.hid (HI.out.b7.lt)
      have hm64 : m ≤ 64 := by omega
      clear hat hA hlen hi hm hmp
      rcases e with ⟨n, r, D, q⟩
      rcases r with _ | ⟨z, r⟩
      · have hk : s.k = 0 := HSO.out.k
        have hsn : s.n = n := HSO.out.n
        rw [hk] at cr
        rw [hsn] at cn
        clear hk hsn
        obtain ⟨wz, hwz⟩ : ∃ wz, wz = wr.alloc (.cells #[.int .i64 (n : Int)] 3) := ⟨_, rfl⟩
        have hbz : Below wr.heap.size wr wz := by rw [hwz]; exact below_new _ _
        have HATZ := Lib.hid (show RI.At wz (some ⟨wr.heap.size, 0, none⟩) [n] by rw [hwz]; exact Rk.At.new ri_ok wr n _)
        have HBZ := Lib.hid hbz
        obtain ⟨gz, hgz⟩ : ∃ gz, gz = wr.heap.size := ⟨_, rfl⟩
        rw [← hgz] at HATZ
        clear hbz
        have htl : t.length ≤ 64 := by omega
        have HTL := Lib.hid htl
        clear htl hlow2
        go_upto_region 11 with fail
        go_wp2_with (first
          | (refine Rk.wpList_append ri_ok rfl _ _ rfl (W0.heap.size + 3) _ t [n] rfl (HI.out.ot.below (below_new _ _)) _ 1 1 rfl (by have h := HATZ.out; rw [hwz, hgz] at h; exact h) rfl (.inr ⟨_, _, rfl⟩) (by have := HTL.out; simp; omega) (by have := HI.out.b7.lt; simp; omega) ?_; intro v3 w3 ho3 hg3 hv3; rw [← hwz] at hg3 hv3; have HO3 := Lib.hid ho3; have HG3 := Lib.hid hg3; have HV3 := Lib.hid hv3; have hb3 := Lib.hid ((HI.out.b7.below HBZ.out).far hg3 (fun e => by have := (HI.out.ot.lt _ e.symm).1; omega)); have c7 := hb3.out.c 0 _ rfl; have f7 := hb3.out.fr 0; clear ho3 hg3 hv3 cn cr fr)
          | (refine Rk.wpList_slice_to rp_ok rfl _ _ rfl _ _ _ m rfl rfl (.inr ⟨_, _, rfl⟩) (by omega) ?_)
          | fail)
        go_roundg (mu M (T0 ++ (t ++ [n])) p)
        case measure => rw [HI.out.mu, ← List.append_assoc]; exact mu_pop _ _ _ _ _ _
        case rel =>
          obtain ⟨w4, hw4⟩ : ∃ w4, w4 = w3.setCell ⟨W0.heap.size + 1 + 1, 0, none⟩ (.slice (some ⟨gp, 0, none⟩) m cp) := ⟨_, rfl⟩
          have T3 : Turn (fun q => u9.ownBlock = some q) wr w3 := (Turn.ofBelow HBZ.out).trans ((Turn.refl _ _).grown HG3.out (fun q e => .inl e))
          have T4 : Turn (fun q => q = W0.heap.size + 2) w3 w4 := by rw [hw4]; exact (Turn.refl _ _).setCell _ _ (.inl rfl)
          have o3 : ∀ k, u9.ownBlock = some k → W0.heap.size + 3 ≤ k := fun k e => (HI.out.ot.lt k e).1
          have hgw : gp < wr.heap.size := (HI.out.op.lt gp rfl).2
          rw [← hw4]
          refine ⟨t ++ [n], p, P, .slice (some ⟨gp, 0, none⟩) m cp, by rw [← List.append_assoc]; exact HI.out.wk.pop, rfl, ?_, HPP.out, HO3.out.turn T4 (fun k e h => by have h1 := (HO3.out.lt k e).1; have h2 : k = W0.heap.size + 2 := h; omega), ?_, fun k e h => ?_, (HI.out.b4.turn T3 (fun h => by have := o3 _ h; omega)).turn T4 (fun h => by have h2 : W0.heap.size = W0.heap.size + 2 := h; omega), (HI.out.b5.turn T3 (fun h => by have := o3 _ h; omega)).turn T4 (fun h => by have h2 : W0.heap.size + 1 = W0.heap.size + 2 := h; omega), by rw [hw4]; exact hb3.out.set1 _, (HI.out.tu.trans (T3.mono fun k e => .inr (by have := o3 k e; omega))).trans (T4.mono fun k e => .inr (by omega))⟩
          · have hv : (vis (T0 ++ (t ++ [n])) p).length = (vis (T0 ++ t) (⟨n, [], D, q⟩ :: p)).length := by simp only [vis_len, List.length_append, List.length_cons, List.length_nil]; omega
            rw [hv]
            refine ((HI.out.cm.turn T3 (fun h => by have := o3 _ h; omega)).turn T4 (fun h => by have h2 : bm = W0.heap.size + 2 := h; omega)).congr fun x => ?_
            unfold vis
            simp only [List.mem_append, List.map_cons, List.mem_cons, List.not_mem_nil, or_false, or_assoc]
          · have h := Rk.Own.cut rp_ok ((HI.out.op.turn T3 (fun k e h => HI.out.ap k h e)).turn T4 (fun k e h => by have h1 := (HI.out.op.lt k e).1; have h2 : k = W0.heap.size + 2 := h; omega)) (k := m) (by omega)
            have e : (s :: P).reverse.take m = P.reverse := by rw [List.reverse_cons, List.take_left' (by simp [HMP.out])]
            rwa [e] at h
          · injection h with h
            rcases HV3.out with h3 | h3
            · rw [h3] at e; exact HI.out.ap k e (by rw [← h]; rfl)
            · rw [h3] at e; injection e with e; have h4 : gp = k := h; have := HBZ.out.size; omega
      · have hk : s.k = r.length + 1 := HSO.out.k
        have hz := hlow2 _ List.mem_cons_self z List.mem_cons_self
        obtain ⟨b, o, hsa, hb, hcz⟩ := RI_cell (HSO.out.at_) (i := 0) (x := z) rfl
        have hkc := HSO.out.c
        have hbS : ¬ (b = bm ∨ W0.heap.size ≤ b) := fun h => by
          rcases h with h | h
          · rcases RI_not HSO.out.at_ HM.out b o hsa with h2 | h2
            · cases h2
            · exact h2 h
          · omega
        have cz := HI.out.tu.cell hcz hbS
        rw [hk] at cr hkc
        rw [hsa] at cr
        rw [Nat.add_zero] at cz
        have HAT := Lib.hid (show RI.At W0 (some ⟨b, o, none⟩) ([z] ++ r) by have h := HSO.out.at_; rw [hsa] at h; exact h)
        have HZ := Lib.hid hz
        have HKC := Lib.hid hkc
        clear hz hb hcz hbS hk hsa hlow2
        go_upto_region 10 with fail
        obtain ⟨A', hA'⟩ : ∃ A', A' = (if s.c = 1 then some (⟨b, o, none⟩ : Addr) else some ⟨b, o + 1, none⟩) := ⟨_, rfl⟩
        rw [← hA']
        obtain ⟨k', hk'⟩ : ∃ k', k' = s.c - 1 := ⟨_, rfl⟩
        rw [← hk']
        have hat' : RI.At W0 A' r ∧ Sp A' := by
          by_cases h : s.c = 1
          · have : r = [] := List.eq_nil_of_length_eq_zero (by omega)
            rw [hA', if_pos h, this]
            exact ⟨.inl rfl, .inr ⟨_, _, rfl⟩⟩
          · rw [hA', if_neg h]
            exact ⟨HAT.out.right ri_ok rfl, .inr ⟨_, _, rfl⟩⟩
        obtain ⟨w2, hw2⟩ : ∃ w2, w2 = wr.setCell ⟨gp, m * 2 + 1, none⟩ (.slice A' r.length k') := ⟨_, rfl⟩
        obtain ⟨s', hs'⟩ : ∃ s' : Sp1, s' = ⟨s.n, A', r.length, k'⟩ := ⟨_, rfl⟩
        have hop : RP.Own w2 (W0.heap.size + 3) (.slice (some ⟨gp, 0, none⟩) (m + 1) cp) (s' :: P).reverse := by
          have h := Rk.Own.setCell rp_ok HI.out.op HII.out (j := 1) (z := s') (u := .slice A' r.length k') (by decide) (by rw [hs']; rfl)
          have e : (s :: P).reverse.set m s' = (s' :: P).reverse := by
            rw [List.reverse_cons, List.reverse_cons, List.set_append_right _ _ (by simp [HMP.out])]
            simp [HMP.out]
          rw [e] at h
          rw [hw2]; exact h
        have hso : SpOk W0 s' ⟨n, r, D, q⟩ := by
          rw [hs']
          exact ⟨HSO.out.n, rfl, by show r.length ≤ k'; omega, hat'.2, hat'.1⟩
        have T2 : Turn (fun k => k = gp) wr w2 := by rw [hw2]; exact (Turn.refl _ _).setCell _ _ (.inl rfl)
        have HOP := Lib.hid hop
        have HS2 := Lib.hid hso
        have HT2 := Lib.hid T2
        have H4 := Lib.hid (HI.out.b4.turn T2 (fun h => by have h2 : W0.heap.size = gp := h; omega))
        have H5 := Lib.hid (HI.out.b5.turn T2 (fun h => by have h2 : W0.heap.size + 1 = gp := h; omega))
        have H7 := Lib.hid (HI.out.b7.turn T2 (fun h => by have h2 : W0.heap.size + 2 = gp := h; omega))
        have HCM := Lib.hid (HI.out.cm.turn T2 (fun h => by have h2 : bm = gp := h; omega))
        have HOT := Lib.hid (HI.out.ot.turn T2 (fun k e h => by have h2 : k = gp := h; exact HI.out.ap k e (by rw [h2]; rfl)))
        have HTU := Lib.hid (HI.out.tu.trans (T2.mono fun k e => .inr (by omega)))
        have hvz : (vis (T0 ++ t) (⟨n, z :: r, D, q⟩ :: p)).length ≤ 64 := by rw [vis_len, List.length_append, List.length_cons]; omega
        have HVZ := Lib.hid hvz
        have HC2 := Lib.hid (HENT.out z HZ.out _ _ _ _ w2 (by omega) (by have := HMP.out; simp; omega) H4.out H5.out H7.out HCM.out HOP.out HTU.out)
        rw [← hw2]
        clear hw2 hat' hop hso T2 hvz hA' hk' cn cr cz fr c7
        go_wp2_with (first | (go_at_fn 69; refine HC2.out.mono ?_; rintro e w4 ⟨rfl, ho4⟩; have HO4 := Lib.hid ho4; clear ho4) | fail)
        rcases HO4.out with ⟨hin, hb⟩ | ⟨hin, pv', hb7, hcm, hop, htu, hq⟩
        · go_roundg (mu M (T0 ++ t) (⟨n, r, D, q⟩ :: p))
          case measure => rw [HI.out.mu]; exact mu_skip _ _ _ _ _ _ _ _
          case rel =>
            refine ⟨t, ⟨n, r, D, q⟩ :: p, s' :: P, .slice (some ⟨gp, 0, none⟩) (m + 1) cp, HI.out.wk.skip hin, rfl, HCM.out.below hb, ⟨HS2.out, HPP.out⟩, HOT.out.below hb, HOP.out.below hb, HI.out.ap, H4.out.below hb, H5.out.below hb, H7.out.below hb, HTU.out.trans (Turn.ofBelow hb)⟩
        · have hz64 : (vis (T0 ++ t) (⟨n, z :: r, D, q⟩ :: p)).length < 64 := by
            have h := len_below 64 (z :: vis (T0 ++ t) (⟨n, z :: r, D, q⟩ :: p)) (List.nodup_cons.2 ⟨hin, HI.out.wk.nodup⟩) (fun x hx => by
              rcases List.mem_cons.1 hx with rfl | hx
              · exact HZ.out
              · exact (HI.out.wk.low ha H0.out HN.out.lt).1 x hx)
            rw [List.length_cons] at h; omega
          obtain ⟨ez, hez⟩ : ∃ ez : En, ez = ⟨z, nx z, vis (T0 ++ t) (⟨n, r, D, q⟩ :: p), (T0 ++ t).length⟩ := ⟨_, rfl⟩
          go_roundg (mu M (T0 ++ t) (ez :: ⟨n, r, D, q⟩ :: p))
          case measure => rw [HI.out.mu, hez]; exact mu_push (HN.out.few z HZ.out) hz64
          case rel =>
            have o4 : ∀ k, (k = bm ∨ k = W0.heap.size + 2 ∨ (Value.slice (some ⟨gp, 0, none⟩) (m + 1) cp).ownBlock = some k) → k = bm ∨ k = W0.heap.size + 2 ∨ k = gp := fun k e => by
              rcases e with e | e | e
              · exact .inl e
              · exact .inr (.inl e)
              · exact .inr (.inr (by injection e with e; exact e.symm))
            have T4 := htu.mono o4
            refine ⟨t, ez :: ⟨n, r, D, q⟩ :: p, F z :: s' :: P, pv', by rw [hez]; exact HI.out.wk.push hin, rfl, ?_, ⟨by rw [hez]; exact ⟨(HN.out.ok z HZ.out).1, (HN.out.ok z HZ.out).2.1, (HN.out.ok z HZ.out).2.2.1, (HN.out.ok z HZ.out).2.2.2.1, (HN.out.ok z HZ.out).2.2.2.2⟩, HS2.out, HPP.out⟩, HOT.out.turn T4 (fun k e h => ?_), by rw [List.reverse_cons]; exact hop, fun k e h => ?_, H4.out.turn T4 (fun h => by omega), H5.out.turn T4 (fun h => by omega), hb7, HTU.out.trans (T4.mono fun k e => by rcases e with e | e | e; exact .inl e; exact .inr (by omega); exact .inr (by omega))⟩
            · have hv : (vis (T0 ++ t) (ez :: ⟨n, r, D, q⟩ :: p)).length = (vis (T0 ++ t) (⟨n, z :: r, D, q⟩ :: p)).length + 1 := by simp only [vis_len, List.length_cons]; omega
              rw [hv]
              refine hcm.congr fun x => ?_
              have hn : ez.n = z := by rw [hez]
              unfold vis
              simp only [List.mem_append, List.map_cons, List.mem_cons, hn]
              constructor
              · rintro (h | h | h | h)
                · exact .inr (.inl h)
                · exact .inl h
                · exact .inr (.inr (.inl h))
                · exact .inr (.inr (.inr h))
              · rintro (h | h | h | h)
                · exact .inr (.inl h)
                · exact .inl h
                · exact .inr (.inr (.inl h))
                · exact .inr (.inr (.inr h))
            · have h1 := (HOT.out.lt k e).1
              rcases h with h | h | h
              · omega
              · omega
              · exact HI.out.ap k e (by rw [h]; rfl)
            · rcases hq k h with h | h
              · exact HI.out.ap k e h
              · have := (HOT.out.lt k e).2; omega
end Go.Proofs.YtbokhhialfbjcaaGreat
