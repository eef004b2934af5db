/-
  The order in which the fixed ones are told: plain facts on a pile that goes down. No program in it.
-/
import Derived.Test.YtohnfjneghbceaaStays
namespace Go.Proofs.Ytohnfjneghbceaa
set_option maxRecDepth 100000
set_option linter.unusedVariables false

/-- those that are done, the last to end first -/
structure Lo (T : Tr) (L : List Nat) : Prop where
  nodup : L.Nodup
  mem : ∀ x, x ∈ L ↔ x < T.l.length ∧ (T.tx x).s = 2
  desc : L.Pairwise (fun x y => (T.tx y).e < (T.tx x).e)

def kids (T : Tr) (L : List Nat) (p : Int) : List Nat := L.filter (fun x => decide ((T.tx x).p = p))
theorem mem_kids {T : Tr} {L : List Nat} {p : Int} {x : Nat} : x ∈ kids T L p ↔ x ∈ L ∧ (T.tx x).p = p := by
  unfold kids
  rw [List.mem_filter]
  simp

theorem kids_nodup {T : Tr} {L : List Nat} {p : Int} (h : L.Nodup) : (kids T L p).Nodup := List.Pairwise.filter _ h
theorem kids_desc {T : Tr} {L : List Nat} {p : Int} (h : L.Pairwise (fun x y => (T.tx y).e < (T.tx x).e)) : (kids T L p).Pairwise (fun x y => (T.tx x).p = (T.tx y).p → (T.tx y).e < (T.tx x).e) := by
  have h1 : (kids T L p).Pairwise (fun x y => (T.tx y).e < (T.tx x).e) := List.Pairwise.filter _ h
  exact h1.imp (fun {x y} (hxy : (T.tx y).e < (T.tx x).e) (_ : (T.tx x).p = (T.tx y).p) => hxy)

/-- a pile on its way down -/
structure OI (T : Tr) (told pile : List Nat) : Prop where
  nodup : (told ++ pile).Nodup
  mem : ∀ x ∈ told ++ pile, x < T.l.length ∧ (T.tx x).s = 2
  par : ∀ x ∈ told ++ pile, (T.tx x).p = -1 ∨ ∃ y ∈ told, (T.tx x).p = (y : Int)
  all : ∀ x, x < T.l.length → (T.tx x).s = 2 → ((T.tx x).p = -1 ∨ ∃ y ∈ told, (T.tx x).p = (y : Int)) → x ∈ told ++ pile
  o1 : ∀ a ∈ told, ∀ b ∈ pile, (T.tx a).p = (T.tx b).p → (T.tx a).e < (T.tx b).e
  o2 : pile.Pairwise (fun x y => (T.tx x).p = (T.tx y).p → (T.tx y).e < (T.tx x).e)
  o3 : told.Pairwise (fun a b => ((T.tx a).p = (T.tx b).p → (T.tx a).e < (T.tx b).e) ∧ ¬ b ∈ wayN T.par a)
  chain : ∀ a ∈ told, ∀ b ∈ wayN T.par a, b ∈ told

section
variable {T : Tr} {L : List Nat}
theorem OI.start (hL : Lo T L) : OI T [] (kids T L (-1)) := by
  refine ⟨?_, fun x hx => ?_, fun x hx => ?_, fun x hx hs hp => ?_, fun a ha => by simp at ha, ?_, List.Pairwise.nil, fun a ha => by simp at ha⟩
  · simpa using kids_nodup hL.nodup
  · have h := mem_kids.1 (by simpa using hx)
    exact (hL.mem x).1 h.1
  · exact .inl (mem_kids.1 (by simpa using hx)).2
  · rcases hp with hp | ⟨y, hy, _⟩
    · simpa using mem_kids.2 ⟨(hL.mem x).2 ⟨hx, hs⟩, hp⟩
    · simp at hy
  · exact kids_desc hL.desc

theorem OI.step (hG : Good T) (hL : Lo T L) {told pl : List Nat} {y : Nat} (h : OI T told (pl ++ [y])) : OI T (told ++ [y]) (pl ++ kids T L (y : Int)) := by
  have hy := h.mem y (by simp)
  have hnd := List.nodup_append.1 h.nodup
  have hnp := List.nodup_append.1 hnd.2.1
  have hyt : y ∉ told := fun hm => hnd.2.2 y hm y (by simp) rfl
  have hyp : y ∉ pl := fun hm => hnp.2.2 y hm y (by simp) rfl
  -- a kid of y is new
  have hnew : ∀ x ∈ kids T L (y : Int), x ∉ told ∧ x ∉ pl ∧ x ≠ y := by
    intro x hx
    have hp := (mem_kids.1 hx).2
    have key : x ∈ told ++ (pl ++ [y]) → False := fun hm => by
      rcases h.par x hm with h1 | ⟨z, hz, h1⟩
      · omega
      · have e : z = y := by omega
        exact hyt (by rw [← e]; exact hz)
    exact ⟨fun hm => key (by simp [hm]), fun hm => key (by simp [hm]), fun e => key (by simp [e])⟩
  have hkm : ∀ x ∈ kids T L (y : Int), x < T.l.length ∧ (T.tx x).s = 2 := fun x hx => (hL.mem x).1 (mem_kids.1 hx).1
  have hkn : (kids T L (y : Int)).Nodup := kids_nodup hL.nodup
  refine ⟨?_, fun x hx => ?_, fun x hx => ?_, fun x hx hs hp => ?_, fun a ha b hb hab => ?_, ?_, ?_, fun a ha b hb => ?_⟩
  · rw [List.nodup_append]
    refine ⟨?_, ?_, fun a ha b hb e => ?_⟩
    · rw [List.nodup_append]
      exact ⟨hnd.1, by simp, fun a ha b hb e => by simp at hb; rw [hb] at e; rw [e] at ha; exact hyt ha⟩
    · rw [List.nodup_append]
      exact ⟨hnp.1, hkn, fun a ha b hb e => (hnew b hb).2.1 (by rw [← e]; exact ha)⟩
    · subst e
      rcases List.mem_append.1 ha with ha | ha
      · rcases List.mem_append.1 hb with hb | hb
        · exact hnd.2.2 a ha a (by simp [hb]) rfl
        · exact (hnew a hb).1 ha
      · simp at ha
        subst ha
        rcases List.mem_append.1 hb with hb | hb
        · exact hyp hb
        · exact (hnew a hb).2.2 rfl
  · simp only [List.mem_append, List.mem_singleton] at hx
    rcases hx with (hx | hx) | (hx | hx)
    · exact h.mem x (by simp [hx])
    · rw [hx]; exact hy
    · exact h.mem x (by simp [hx])
    · exact hkm x hx
  · simp only [List.mem_append, List.mem_singleton] at hx
    have old : x ∈ told ++ (pl ++ [y]) → (T.tx x).p = -1 ∨ ∃ z ∈ told ++ [y], (T.tx x).p = (z : Int) := fun hm => by
      rcases h.par x hm with h1 | ⟨z, hz, h1⟩
      · exact .inl h1
      · exact .inr ⟨z, by simp [hz], h1⟩
    rcases hx with (hx | hx) | (hx | hx)
    · exact old (by simp [hx])
    · exact old (by simp [hx])
    · exact old (by simp [hx])
    · exact .inr ⟨y, by simp, (mem_kids.1 hx).2⟩
  · have old : x ∈ told ++ (pl ++ [y]) → x ∈ (told ++ [y]) ++ (pl ++ kids T L (y : Int)) := fun hm => by
      simp only [List.mem_append, List.mem_singleton] at hm ⊢
      rcases hm with hm | hm | hm
      · exact .inl (.inl hm)
      · exact .inr (.inl hm)
      · exact .inl (.inr hm)
    rcases hp with hp | ⟨z, hz, hp⟩
    · exact old (h.all x hx hs (.inl hp))
    · rcases List.mem_append.1 hz with hz | hz
      · exact old (h.all x hx hs (.inr ⟨z, hz, hp⟩))
      · simp at hz
        subst hz
        simp [mem_kids.2 ⟨(hL.mem x).2 ⟨hx, hs⟩, hp⟩]
  · rcases List.mem_append.1 ha with ha | ha
    · rcases List.mem_append.1 hb with hb | hb
      · exact h.o1 a ha b (by simp [hb]) hab
      · have hp := (mem_kids.1 hb).2
        rcases h.par a (by simp [ha]) with h1 | ⟨z, hz, h1⟩
        · omega
        · have e : z = y := by omega
          exact absurd (by rw [← e]; exact hz) hyt
    · simp at ha
      subst ha
      rcases List.mem_append.1 hb with hb | hb
      · exact (List.pairwise_append.1 h.o2).2.2 b hb a (by simp) hab.symm
      · have hp := (mem_kids.1 hb).2
        have := hG.par a hy.1
        omega
  · rw [List.pairwise_append]
    refine ⟨(List.pairwise_append.1 h.o2).1, kids_desc hL.desc, fun a ha b hb hab => ?_⟩
    have hp := (mem_kids.1 hb).2
    rcases h.par a (by simp [ha]) with h1 | ⟨z, hz, h1⟩
    · omega
    · have e : z = y := by omega
      exact absurd (by rw [← e]; exact hz) hyt
  · rw [List.pairwise_append]
    refine ⟨h.o3, by simp, fun a ha b hb => ?_⟩
    simp at hb
    subst hb
    exact ⟨fun hab => h.o1 a ha b (by simp) hab, fun hm => hyt (h.chain a ha b hm)⟩
  · rcases List.mem_append.1 ha with ha | ha
    · exact List.mem_append_left _ (h.chain a ha b hb)
    · simp at ha
      subst ha
      rw [wayN_eq] at hb
      rcases List.mem_cons.1 hb with hb | hb
      · simp [hb]
      · split at hb
        · next hc =>
          rcases h.par a (by simp) with h1 | ⟨z, hz, h1⟩
          · have : T.par a = (T.tx a).p := rfl
            omega
          · have e : (T.par a).toNat = z := by have : T.par a = (T.tx a).p := rfl; omega
            rw [e] at hb
            exact List.mem_append_left _ (h.chain z hz b hb)
        · simp at hb

/-- at the end: just the fixed ones, each once -/
theorem OI.fixed (hG : Good T) {told : List Nat} (h : OI T told []) (x : Nat) (hx : x < T.l.length) : x ∈ told ↔ T.fixed (x : Int) = true := by
  rw [fixed_nat hx]
  constructor
  · intro hm j hj
    exact (h.mem j (by simp [h.chain x hm j hj])).2
  · induction x using Nat.strongRecOn with
    | ind x ih =>
      intro hall
      have hs := hall x (wayN_self _ _)
      have key : (T.tx x).p = -1 ∨ ∃ y ∈ told, (T.tx x).p = (y : Int) := by
        have hp := hG.par x hx
        by_cases h1 : (T.tx x).p = -1
        · exact .inl h1
        · obtain ⟨j, hj⟩ : ∃ j : Nat, (T.tx x).p = j := ⟨(T.tx x).p.toNat, by omega⟩
          refine .inr ⟨j, ih j (by omega) (by omega) (fun i hi => hall i ?_), hj⟩
          rw [wayN_up (f := T.par) (j := j) hj (by omega)]
          exact List.mem_cons_of_mem _ hi
      simpa using h.all x hx hs key
end

end Go.Proofs.Ytohnfjneghbceaa
