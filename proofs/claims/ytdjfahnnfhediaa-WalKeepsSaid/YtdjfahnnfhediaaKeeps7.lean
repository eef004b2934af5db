/-
  What WalKeeps keeps, by its words: what was appended, what of it is safe, whatever becomes of the device. No program.
-/
import Derived.Test.YtdjfahnnfhediaaModel7
namespace Go.Proofs.Ytdjfahnnfhediaa
set_option maxRecDepth 100000
open Go.RowKit Crc Wm

structure KP (bs : List (List UInt8)) (m : Nat) (G : Lg) (D : Dv) : Prop where
  cuts : Cuts 7 5 bs
  n64 : D.n = 64
  mle : m ≤ bs.length
  tr : ∃ g, (piecesAt 7 5 (bs.take m)).length ≤ g ∧ g ≤ (piecesAt 7 5 bs).length ∧ (D.gone = false → g = (piecesAt 7 5 bs).length) ∧ Tr ⟨2, 60, 5, 5⟩ 5 zeroC D (piecesAt 7 5 bs) g (piecesAt 7 5 (bs.take m)).length
  len60 : (piecesAt 7 5 bs).length ≤ 60
  live : D.gone = false → G.broken = false ∧ G.R = ⟨2, 60, 5, tailOf 5 bs⟩ ∧ G.E = 7

theorem KP.start {D : Dv} (hn : D.n = 64) (hl : ∀ s, D.late s = none) (hz : ∀ s, D.laid s = Dv.zeros) (safe : Int) : KP [] 0 ⟨⟨2, 60, 5, 5⟩, 7, safe, false⟩ D :=
  ⟨trivial, hn, Nat.le_refl _, ⟨0, Nat.le_refl _, Nat.le_refl _, fun _ => rfl, Tr.start' hl hz⟩, by decide, fun _ => ⟨rfl, rfl, rfl⟩⟩

theorem take_app {bs : List (List UInt8)} {b : List UInt8} {m : Nat} (h : m ≤ bs.length) : (bs ++ [b]).take m = bs.take m := by
  rw [List.take_append_of_le_length h]

theorem KP.app {bs : List (List UInt8)} {m : Nat} {G : Lg} {D : Dv} {b : List UInt8} (h : KP bs m G D) (on : G.On D) (hg : D.gone = false) (hb : needN b ≤ 3) :
    (G.appE D b = 5 ∧ G.appG D b = G ∧ G.appD D b = D) ∨ ((G.appE D b = 0 ∨ G.appE D b = 11) ∧ KP (bs ++ [b]) m (G.appG D b) (G.appD D b)) := by
  obtain ⟨l1, l2, l3⟩ := h.live hg
  have hlen := length_piecesAt 7 bs 5
  have hl60 := h.len60
  have hT : G.R.T = tailOf 5 bs := by rw [l2]
  have hp := Lg.pre_free (b := b) on l1 (by omega) (by omega)
  by_cases hh : G.R.S - (G.R.T - G.R.H) < (needN b : Int)
  · rw [if_pos hh] at hp
    obtain ⟨e1, e2, e3⟩ := Lg.app_none (D := D) (show G.preE b ≠ 0 by rw [hp]; decide)
    exact .inl ⟨by rw [e1, hp], e2, e3⟩
  · rw [if_neg hh] at hp
    obtain ⟨g, g1, g2, g3, g4⟩ := h.tr
    rw [g3 hg] at g4
    have hS : G.R.S = 60 := by rw [l2]
    have hH : G.R.H = 5 := by rw [l2]
    have hF : G.R.F = 2 := by rw [l2]
    obtain ⟨⟨g', k1, k2, k3, k4⟩, k5, k6, k7⟩ := lay_app g4 h.cuts hT l3 on hp (by rw [hF]) (by rw [hS]) (by rw [hH]; decide) (by rw [g3 hg] at g1; exact g1)
    right
    have hE : G.appE D b = if (G.appD D b).gone = true then 11 else 0 := by unfold Lg.appE; rw [if_pos hp]
    refine ⟨?_, k5, by rw [Lg.appD_n]; exact h.n64, by have := h.mle; rw [List.length_append]; omega, ⟨g', ?_, k1, k3, ?_⟩, by omega, fun hgn => ?_⟩
    · rw [hE]
      cases hc : (G.appD D b).gone with
      | true => exact .inr rfl
      | false => exact .inl rfl
    · rw [take_app h.mle]
      rw [g3 hg] at g1
      omega
    · rw [take_app h.mle]
      exact k4
    · have hG : G.appG D b = { G with R := ⟨G.R.F, G.R.S, G.R.H, G.R.T + needN b⟩ } := by unfold Lg.appG; rw [if_pos hp, if_neg (by rw [hgn]; exact Bool.false_ne_true)]
      rw [hG]
      refine ⟨l1, ?_, l3⟩
      show Rg.mk G.R.F G.R.S G.R.H (G.R.T + needN b) = _
      rw [k6, hF, hS, hH]

theorem KP.for {bs : List (List UInt8)} {m : Nat} {G : Lg} {D : Dv} (h : KP bs m G D) : (G.forE D = 0 ∧ KP bs bs.length (G.forG D) (G.forD D)) ∨ (G.forE D = 11 ∧ KP bs m (G.forG D) (G.forD D)) := by
  obtain ⟨g, g1, g2, g3, g4⟩ := h.tr
  by_cases hb : G.broken = true
  · right
    have e1 : G.forE D = 11 := by unfold Lg.forE; rw [if_pos hb]
    have e2 : G.forG D = G := by unfold Lg.forG; rw [if_pos hb]
    have e3 : G.forD D = D := by unfold Lg.forD; rw [if_pos hb]
    rw [e1, e2, e3]
    exact ⟨rfl, h⟩
  · have e1 : G.forE D = D.flushE := by unfold Lg.forE; rw [if_neg hb]
    have e2 : G.forG D = if D.flushE ≠ 0 then { G with broken := true } else { G with safe := G.R.T } := by unfold Lg.forG; rw [if_neg hb]
    have e3 : G.forD D = D.flush := by unfold Lg.forD; rw [if_neg hb]
    have hn : D.flush.n = 64 := by rw [Dv.flush_n]; exact h.n64
    by_cases hf : D.flushE = 0
    · left
      have hg : D.gone = false := by
        cases hc : D.gone with
        | false => rfl
        | true => unfold Dv.flushE at hf; rw [if_pos hc] at hf; exact absurd hf (by decide)
      rw [if_neg (by rw [hf]; exact fun h => h rfl)] at e2
      rw [e1, e2, e3]
      refine ⟨hf, h.cuts, hn, Nat.le_refl _, ⟨g, ?_, g2, fun _ => g3 hg, ?_⟩, h.len60, fun _ => h.live hg⟩
      · rw [List.take_length, g3 hg]; exact Nat.le_refl _
      · have := g4.flush hf
        rw [List.take_length]
        rw [g3 hg] at this ⊢
        exact this
    · right
      rw [if_pos hf] at e2
      rw [e1, e2, e3]
      have hgn : D.flush.gone = true := by
        unfold Dv.flush
        unfold Dv.flushE at hf
        by_cases hc : D.gone = true
        · rw [if_pos hc]; exact hc
        · rw [if_neg hc] at hf ⊢
          by_cases hl : D.left = 0
          · rw [if_pos hl]; rfl
          · rw [if_neg hl] at hf; exact absurd rfl hf
      have hfe : D.flushE = 11 := by
        unfold Dv.flushE at *
        by_cases hc : D.gone = true
        · rw [if_pos hc]
        · rw [if_neg hc] at hf ⊢
          by_cases hl : D.left = 0
          · rw [if_pos hl]
          · rw [if_neg hl] at hf; exact absurd rfl hf
      exact ⟨hfe, h.cuts, hn, h.mle, ⟨g, g1, g2, (fun hx => by rw [hgn] at hx; cases hx), g4.flush_any g1⟩, h.len60, (fun hx => by rw [hgn] at hx; cases hx)⟩

/-- behind a crash -/
theorem KP.final {bs : List (List UInt8)} {m : Nat} {G : Lg} {D : Dv} (h : KP bs m G D) (keep : Nat → Bool) : openE (D.crash keep) 2 60 5 8 = 0 ∧ ∀ rs t, Fnd (ringL (D.crash keep) ⟨2, 60, 5, 5⟩) 5 8 rs t → ∃ k, m ≤ k ∧ k ≤ bs.length ∧ rs = recsAt 5 (bs.take k) := by
  obtain ⟨g, g1, g2, g3, g4⟩ := h.tr
  have hn : (D.crash keep).n = 64 := h.n64
  have ht := ((g4.crash keep).forced (fun _ => rfl))
  refine ⟨free_open rfl (by rw [hn]; decide), fun rs t hf => ?_⟩
  obtain ⟨k, k1, k2, k3, _⟩ := found_first (m := m) ht (by decide) (by decide) (by rw [hn]; decide) rfl h.cuts (by decide) (by decide) (by have := h.len60; omega) h.mle (Nat.le_refl _) hf
  exact ⟨k, k1, k2, k3⟩

end Go.Proofs.Ytdjfahnnfhediaa
