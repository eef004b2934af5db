/-
  What stays of transactions and their locks, whatever is done: no two that do not stand in one another have locks of one block of which one is for Write; who has one is Live. No program in it.
-/
import Derived.Test.YtbokhhialfbjcaaGreatLockB
namespace Go.Proofs.YtbokhhialfbjcaaGreat
set_option maxRecDepth 100000
set_option linter.unusedVariables false

structure Apt (T : Tr) (L : List Lk) : Prop where
  good : Good T
  tab : LG L
  live : ∀ y ∈ L, ∃ i : Nat, y.x = i ∧ i < T.l.length ∧ (T.tx i).s = 1
  apart : ∀ y ∈ L, ∀ z ∈ L, y.b = z.b → y.s = 2 → T.stands y.x z.x = true ∨ T.stands z.x y.x = true

theorem apt_nil : Apt ⟨[], 0⟩ [] := ⟨good_nil, lg_nil, by simp, by simp⟩

theorem stands_of {T : Tr} {i : Nat} (hi : i < T.l.length) {of : Nat} : T.stands (i : Int) (of : Int) = true ↔ of ∈ wayN T.par i := by
  rw [stands_nat hi, decide_eq_true_eq]
  exact Iff.rfl
theorem stands_self {T : Tr} {i : Nat} (hi : i < T.l.length) : T.stands (i : Int) (i : Int) = true := (stands_of hi).2 (wayN_self _ _)

theorem Apt.begun {T : Tr} {L : List Lk} (h : Apt T L) {p : Int} (m : MayBegin T p) : Apt (T.begun p) L where
  good := h.good.begun m
  tab := h.tab
  live y hy := by
    obtain ⟨i, e, hi, hs⟩ := h.live y hy
    exact ⟨i, e, by rw [len_begun]; omega, by rw [tx_begun hi]; exact hs⟩
  apart y hy z hz hb hs := by
    obtain ⟨i, e1, hi, _⟩ := h.live y hy
    obtain ⟨j, e2, hj, _⟩ := h.live z hz
    have hl := len_begun T p
    rcases h.apart y hy z hz hb hs with h1 | h1
    · left
      rw [e1, e2] at h1 ⊢
      rw [stands_of (by omega), way_begun hi]
      exact (stands_of hi).1 h1
    · right
      rw [e1, e2] at h1 ⊢
      rw [stands_of (by omega), way_begun hj]
      exact (stands_of hj).1 h1

theorem stands_turned {T : Tr} {X : Nat → Prop} [DecidablePred X] {s : Int} {i of : Nat} (hi : i < T.l.length) : (T.turned X s).stands (i : Int) (of : Int) = T.stands (i : Int) (of : Int) := by
  rw [Bool.eq_iff_iff, stands_of hi, stands_of (by rw [len_turned]; exact hi), par_turned]

theorem Apt.undone {T : Tr} {L : List Lk} (h : Apt T L) {id : Nat} : Apt (T.undone id) (freeL L (inL (T.gone id T.l.length))) where
  good := h.good.undone
  tab := h.tab.freeL _
  live y hy := by
    obtain ⟨h1, h2⟩ := freeL_mem.1 hy
    obtain ⟨i, e, hi, hs⟩ := h.live y h1
    have hl : (T.undone id).l.length = T.l.length := len_turned
    refine ⟨i, e, by omega, ?_⟩
    have hn : ¬ T.inn id i := fun hin => by
      have : i ∈ T.gone id T.l.length := by
        unfold Tr.gone
        rw [List.mem_filter]
        exact ⟨mem_kin hi hin, by simp [hs]⟩
      unfold inL at h2
      rw [List.any_eq_false] at h2
      exact h2 i this (by simp [e])
    rw [undone_out hi hn]; exact hs
  apart y hy z hz hb hs := by
    obtain ⟨h1, _⟩ := freeL_mem.1 hy
    obtain ⟨h2, _⟩ := freeL_mem.1 hz
    obtain ⟨i, e1, hi, _⟩ := h.live y h1
    obtain ⟨j, e2, hj, _⟩ := h.live z h2
    have h3 := h.apart y h1 z h2 hb hs
    rw [e1, e2] at h3 ⊢
    unfold Tr.undone
    rw [stands_turned hi, stands_turned hj]
    exact h3

theorem Apt.done {T : Tr} {L : List Lk} (h : Apt T L) {id : Nat} (m : MayDo T id) : Apt (T.done id) (passL L (id : Int) (T.tx id).p) := by
  have hn := h.good.n
  have hlt := m.lt
  have hpar := h.good.par id m.lt
  have hl : (T.done id).l.length = T.l.length := len_turned
  -- the parent, if there is one
  have parent : ∀ p : Nat, (T.tx id).p = p → p < id ∧ (T.tx p).s = 1 ∧ wayN T.par id = id :: wayN T.par p := fun p hp => by
    have hw : wayN T.par id = id :: wayN T.par p := wayN_up (f := T.par) (by unfold Tr.par; exact hp) (by omega)
    exact ⟨by omega, (h.good.nest id m.lt p (by rw [hw]; exact List.mem_cons_of_mem _ (wayN_self _ _))).1 m.live, hw⟩
  -- who stands where one of the two stood, stands where the parent stands
  have key : ∀ (p : Nat), (T.tx id).p = p → ∀ z ∈ L, z.x = (p : Int) ∨ z.x = (id : Int) → ∀ u ∈ L, u.x ≠ (id : Int) → z.b = u.b → z.s = 2 ∨ u.s = 2 → T.stands (p : Int) u.x = true ∨ T.stands u.x (p : Int) = true := by
    intro p hp z hz hzx u hu hux hb hs
    obtain ⟨hpid, _, hw⟩ := parent p hp
    obtain ⟨j, e2, hj, _⟩ := h.live u hu
    have h3 : T.stands z.x u.x = true ∨ T.stands u.x z.x = true := by
      rcases hs with hs | hs
      · exact h.apart z hz u hu hb hs
      · exact (h.apart u hu z hz hb.symm hs).symm
    rcases hzx with e | e
    · rw [e] at h3; exact h3
    · rw [e, e2] at h3
      rw [e2]
      have hji : j ≠ id := fun e' => hux (by rw [e2, e'])
      rcases h3 with h3 | h3
      · left
        have h4 := (stands_of m.lt).1 h3
        rw [hw] at h4
        rcases List.mem_cons.1 h4 with h4 | h4
        · exact absurd h4 hji
        · exact (stands_of (by omega)).2 h4
      · right
        have h4 := (stands_of hj).1 h3
        exact (stands_of hj).2 (wayN_trans h4 (by rw [hw]; exact List.mem_cons_of_mem _ (wayN_self _ _)))
  have mem := fun y (hy : y ∈ passL L (id : Int) (T.tx id).p) => pass_mem h.tab (x := (id : Int)) (p := (T.tx id).p) ⟨by omega, by omega⟩ (by omega) (by omega) hy
  have hlive : ∀ y ∈ passL L (id : Int) (T.tx id).p, ∃ i : Nat, y.x = i ∧ i < T.l.length ∧ ((T.done id).tx i).s = 1 := by
    intro y hy
    rcases mem y hy with ⟨h1, h2⟩ | ⟨h1, h2, _⟩
    · obtain ⟨i, e, hi, hs⟩ := h.live y h1
      exact ⟨i, e, hi, by rw [done_out hi (fun e' => h2 (by rw [e, e']))]; exact hs⟩
    · obtain ⟨p, hp⟩ : ∃ p : Nat, (T.tx id).p = p := ⟨(T.tx id).p.toNat, by omega⟩
      obtain ⟨hpid, hps, _⟩ := parent p hp
      exact ⟨p, by rw [h2, hp], by omega, by rw [done_out (by omega) (by omega)]; exact hps⟩
  refine ⟨h.good.done m, h.tab.passL _ (by omega), fun y hy => ?_, fun y hy z hz hb hs => ?_⟩
  · obtain ⟨i, e, hi, hs⟩ := hlive y hy
    exact ⟨i, e, by omega, hs⟩
  · obtain ⟨i, e1, hi, _⟩ := hlive y hy
    obtain ⟨j, e2, hj, _⟩ := hlive z hz
    have goal : T.stands y.x z.x = true ∨ T.stands z.x y.x = true := by
      rcases mem y hy with ⟨h1, h2⟩ | ⟨h1, h2, y', hy', b1, x1, s1⟩
      · rcases mem z hz with ⟨h3, h4⟩ | ⟨h3, h4, z', hz', b2, x2, s2⟩
        · exact h.apart y h1 z h3 hb hs
        · obtain ⟨p, hp⟩ : ∃ p : Nat, (T.tx id).p = p := ⟨(T.tx id).p.toNat, by omega⟩
          rw [hp] at x2
          have := key p hp z' hz' x2 y h1 h2 (by rw [b2, hb]) (.inr hs)
          rw [h4, hp]
          exact this.symm
      · obtain ⟨p, hp⟩ : ∃ p : Nat, (T.tx id).p = p := ⟨(T.tx id).p.toNat, by omega⟩
        rw [hp] at x1
        rcases mem z hz with ⟨h3, h4⟩ | ⟨h3, h4, _⟩
        · have := key p hp y' hy' x1 z h3 h4 (by rw [b1, hb]) (.inl (by rw [s1]; exact hs))
          rw [h2, hp]
          exact this
        · left
          obtain ⟨hpid, _, _⟩ := parent p hp
          rw [h2, h4, hp]
          exact stands_self (by omega)
    rw [e1, e2] at goal ⊢
    unfold Tr.done
    rw [stands_turned hi, stands_turned hj]
    exact goal

theorem ask_facts {T : Tr} {L : List Lk} {tx b md : Int} (h : askE T L tx b md = 0) : ∃ i : Nat, tx = i ∧ i < T.l.length ∧ (T.tx i).s = 1 ∧ agL T tx b md L = [] := by
  unfold askE at h
  split at h
  · next h1 =>
    split at h
    · next h2 =>
      split at h
      · next h3 => exact ⟨tx.toNat, by omega, by omega, h2, h3⟩
      · omega
    · omega
  · omega

theorem ask_may {T : Tr} {tx b md : Int} (hg : Good T) {i : Nat} (e : tx = i) (hi : i < T.l.length) (hb : 0 ≤ b ∧ b ≤ 255) (hmd : md = 1 ∨ md = 2) : May ⟨b, tx, md, 0⟩ := by
  have := hg.n
  exact ⟨hb, by show 0 ≤ tx ∧ tx ≤ 63; omega, by show 0 ≤ md ∧ md ≤ 2; omega, ⟨Int.le_refl 0, show (0 : Int) ≤ 2 by decide⟩, by unfold Lk.s; show 0 < max md 0; omega⟩

theorem Apt.ask {T : Tr} {L : List Lk} (h : Apt T L) {tx b md : Int} (hb : 0 ≤ b ∧ b ≤ 255) (hmd : md = 1 ∨ md = 2) (he : askE T L tx b md = 0) : Apt T (ins L ⟨b, tx, md, 0⟩) := by
  obtain ⟨i, e, hi, hs, hag⟩ := ask_facts he
  have hm := ask_may h.good e hi hb hmd
  have hx : tx = (⟨b, tx, md, 0⟩ : Lk).x := rfl
  -- a lock of that block: one stands in it, or it is for Read, as is one's own
  have new : ∀ y : Lk, (y = { (⟨b, tx, md, 0⟩ : Lk) with h := max md (hof L (⟨b, tx, md, 0⟩ : Lk).q), k := max 0 (kof L (⟨b, tx, md, 0⟩ : Lk).q) } ∨ y = ⟨b, tx, md, 0⟩) → ∀ z ∈ L, z.b = b → y.s = 2 ∨ z.s = 2 → T.stands tx z.x = true ∨ T.stands z.x tx = true := by
    intro y hy z hz hzb hss
    have zs := (h.tab.may z hz).s2
    have main : md = 2 ∨ z.s = 2 → T.stands tx z.x = true := fun hh => agL_nil hag hz hzb (by
      unfold exc
      rcases hmd with rfl | rfl
      · rw [if_pos rfl]
        have : z.s = 2 := by omega
        rw [this]; rfl
      · rw [if_neg (by decide)]
        have : (z.s == 0) = false := by simp; omega
        rw [this]; rfl)
    rcases hss with hs2 | hs2
    · by_cases h2 : md = 2
      · exact .inl (main (.inl h2))
      · have h1 : md = 1 := by omega
        have : ∃ w ∈ L, w.b = b ∧ w.x = tx ∧ w.s = 2 := by
          rcases hof_dec L (⟨b, tx, md, 0⟩ : Lk).q with ⟨w, hw, hq, g1, g2⟩ | ⟨_, g1, g2⟩
          · obtain ⟨q1, q2⟩ := (h.tab.may w hw).bx hm hq
            have wh := (h.tab.may w hw).h
            have wk := (h.tab.may w hw).k
            refine ⟨w, hw, q1, q2, ?_⟩
            rcases hy with rfl | rfl
            · unfold Lk.s at hs2 ⊢
              simp only at hs2
              rw [g1, g2] at hs2
              omega
            · unfold Lk.s at hs2
              simp only at hs2
              omega
          · exfalso
            rcases hy with rfl | rfl
            · unfold Lk.s at hs2
              simp only at hs2
              rw [g1, g2] at hs2
              omega
            · unfold Lk.s at hs2
              simp only at hs2
              omega
        obtain ⟨w, hw, wb, wx, ws⟩ := this
        have := h.apart w hw z hz (by rw [wb, hzb]) ws
        rw [wx] at this
        exact this
    · exact .inl (main (.inr hs2))
  have cases_ : ∀ y ∈ ins L ⟨b, tx, md, 0⟩, (y ∈ L) ∨ (y.b = b ∧ y.x = tx ∧ (y = { (⟨b, tx, md, 0⟩ : Lk) with h := max md (hof L (⟨b, tx, md, 0⟩ : Lk).q), k := max 0 (kof L (⟨b, tx, md, 0⟩ : Lk).q) } ∨ y = ⟨b, tx, md, 0⟩)) := by
    intro y hy
    rcases ins_mem h.tab hy with ⟨h1, _⟩ | h1 | ⟨_, h1⟩
    · exact .inl h1
    · exact .inr ⟨by rw [h1], by rw [h1], .inl h1⟩
    · exact .inr ⟨by rw [h1], by rw [h1], .inr h1⟩
  refine ⟨h.good, h.tab.ins hm, fun y hy => ?_, fun y hy z hz hyz hys => ?_⟩
  · rcases cases_ y hy with h1 | ⟨_, h1, _⟩
    · exact h.live y h1
    · exact ⟨i, by rw [h1, e], hi, hs⟩
  · rcases cases_ y hy with h1 | ⟨b1, x1, k1⟩
    · rcases cases_ z hz with h2 | ⟨b2, x2, k2⟩
      · exact h.apart y h1 z h2 hyz hys
      · rw [x2]
        exact (new z k2 y h1 (by rw [hyz, b2]) (.inr hys)).symm
    · rcases cases_ z hz with h2 | ⟨b2, x2, k2⟩
      · rw [x1]
        exact new y k1 z h2 (by rw [← hyz, b1]) (.inl hys)
      · left
        rw [x1, x2, e]
        exact stands_self hi
end Go.Proofs.YtbokhhialfbjcaaGreat
