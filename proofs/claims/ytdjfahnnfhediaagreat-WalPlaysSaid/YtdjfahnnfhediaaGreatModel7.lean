/-
  Appends, forces and openings by their words: what a log that is not broken answers, and what is found when it is opened again. No program.
-/
import Derived.Test.YtdjfahnnfhediaaGreatLaw7
namespace Go.Proofs.YtdjfahnnfhediaaGreat
set_option maxRecDepth 100000
open Go.RowKit Crc Wm

def zeroC : Nat → List UInt8 := fun _ => Dv.zeros

section
variable {F S H T0 : Int} {D : Dv} {e ep : Int} {l : List (List UInt8)} {g f m : Nat}
theorem base_zero {R : Rg} {n i : Nat} {y : List UInt8} (h : (baseL R T0 zeroC n)[i]? = some y) : readE y ≠ 0 := by
  rw [baseL_get h]
  exact zeros_bad
theorem gat_base (R : Rg) (n : Nat) (at_ : Int) : gatE (baseL R T0 zeroC n) at_ ≠ 0 := by
  intro hg
  obtain ⟨c1, _, _, _, hC, _, _, hz⟩ := gat_cnt hg
  obtain ⟨y, hy, r0, _⟩ := err_zero (hz 0 (by omega))
  exact base_zero hy r0

/-- what is found of what was laid where there was nothing -/
theorem found_first (h : Tr ⟨F, S, H, H⟩ H zeroC D (piecesAt e H l) g f) (h0 : 0 ≤ F) (h1 : 1 ≤ S) (hn : F + S ≤ D.n) (hg : D.gone = false) (hc : Cuts e H l) (he0 : 0 ≤ e) (he : e < ep) (hp : ((piecesAt e H l).length : Int) ≤ S) (hm : m ≤ l.length) (hmg : (piecesAt e H (l.take m)).length ≤ g)
    {rs : List (Int × List UInt8)} {t : Int} (hf : Fnd (ringL D ⟨F, S, H, H⟩) H ep rs t) : ∃ k, m ≤ k ∧ k ≤ l.length ∧ rs = recsAt H (l.take k) ∧ t = tailOf H (l.take k) ∧ gatE (from_ (ringL D ⟨F, S, H, H⟩) H t) t ≠ 0 ∧ ∃ last, Run (ringL D ⟨F, S, H, H⟩) H ep 0 H rs last t ∧ last ≤ e := by
  have hmix := h.mix (R := ⟨F, S, H, H⟩) h0 h1 (Int.le_refl _) (by show H ≤ H + S; omega) hn hg (by show H + ((piecesAt e H l).length : Int) ≤ H + S; omega)
  have hth := h.there (R := ⟨F, S, H, H⟩) h0 h1 (Int.le_refl _) hn hg (by show H + ((piecesAt e H l).length : Int) ≤ H + S; omega)
  have hpl : (piecesAt e H (l.take m)).length ≤ (piecesAt e H l).length := by
    have := congrArg List.length (piecesAt_append e (l.take m) (l.drop m) H)
    rw [List.take_append_drop, List.length_append] at this
    omega
  obtain ⟨k, last', t', k1, k2, k3, k4, k5, k6, k7⟩ := find (ls := ringL D ⟨F, S, H, H⟩) (H := H) he l H 0 _ m (Int.le_refl _) hc hmix (fun i y hy hr _ => absurd hr (base_zero hy)) he0 (.inr (gat_base _ _ _)) hm (fun i hi => hth i (by omega) (by omega))
  obtain ⟨e1, e2⟩ := hf.det ⟨last', k3, k4⟩
  subst e1 e2
  refine ⟨k, k1, k2, rfl, k5, fun hg0 => ?_, last', k3, k6⟩
  obtain ⟨j, y, hy, r0, _⟩ := k7 hg0
  exact base_zero hy r0
/-- nothing is found where there is nothing -/
theorem found_none (hl : ∀ s, D.late s = none) (hz : ∀ s, D.laid s = Dv.zeros) (h0 : 0 ≤ F) (h1 : 1 ≤ S) (hn : F + S ≤ D.n) (hg : D.gone = false) (he : 0 < ep) {rs : List (Int × List UInt8)} {t : Int} (hf : Fnd (ringL D ⟨F, S, H, H⟩) H ep rs t) : rs = [] ∧ t = H := by
  obtain ⟨k, _, k2, k3, k4, _⟩ := found_first (e := 0) (l := []) (m := 0) (g := 0) (f := 0) (Tr.start' hl hz) h0 h1 hn hg trivial (Int.le_refl _) he (by simp [piecesAt]; omega) (Nat.zero_le _) (by simp [piecesAt]) hf
  obtain rfl : k = 0 := by simpa using k2
  exact ⟨k3, k4⟩
end

theorem fresh_open (n : Nat) {F S H E : Int} (h : 0 ≤ F ∧ 1 ≤ S ∧ F + S ≤ n ∧ 0 ≤ H ∧ H ≤ 1099511627776 ∧ 1 ≤ E ∧ E ≤ 4294967295) : openE (.fresh n) F S H E = 0 := by
  unfold openE
  rw [if_neg (by exact Bool.false_ne_true)]
  exact if_pos h
theorem free_open {D : Dv} (hD : D.gone = false) {F S H E : Int} (h : 0 ≤ F ∧ 1 ≤ S ∧ F + S ≤ D.n ∧ 0 ≤ H ∧ H ≤ 1099511627776 ∧ 1 ≤ E ∧ E ≤ 4294967295) : openE D F S H E = 0 := by
  unfold openE
  rw [if_neg (by rw [hD]; exact Bool.false_ne_true), if_pos h]

namespace Lg
variable {G : Lg} {D : Dv} {b : List UInt8}
/-- an append that may be: it fits, or there is no room -/
theorem pre_free (on : G.On D) (hb : G.broken = false) (hn : needN b ≤ 1024) (hT : G.R.T ≤ 1000000) : G.preE b = if G.R.S - (G.R.T - G.R.H) < (needN b : Int) then 5 else 0 := by
  have hN := needN_pos b
  have h1 := on.ok.h0
  have h2 := on.ok.ht
  have he := on.e
  have hc : cutE G.E G.R.T b = 0 := by
    unfold cutE
    rw [if_neg (by omega), if_pos ⟨⟨by omega, by omega⟩, by omega, by omega⟩]
  unfold preE
  rw [if_neg (by rw [hb]; exact Bool.false_ne_true), if_neg (by rw [hc]; exact fun h => h rfl)]
  unfold Rg.takeE
  rw [Rg.sane_iff.2 on.ok, decide_eq_true (show 0 ≤ (needN b : Int) by omega), Bool.and_self, if_pos rfl]
  by_cases hh : G.R.S - (G.R.T - G.R.H) < (needN b : Int)
  · rw [if_pos hh, if_pos (.inl hh)]
  · rw [if_neg hh, if_neg (by omega)]
theorem pre_zero (h : G.preE b = 0) : G.broken = false ∧ cutE G.E G.R.T b = 0 ∧ G.R.takeE (needN b) = 0 := by
  unfold preE at h
  split at h
  · exact absurd h (by decide)
  · next hb =>
    split at h
    · next hc => exact absurd h hc
    · next hc => exact ⟨Bool.eq_false_iff.2 hb, Decidable.not_not.1 hc, h⟩
theorem take_zero {R : Rg} (ok : R.Ok) {n : Nat} (h : R.takeE n = 0) : R.T + n - R.H ≤ R.S ∧ R.T + n ≤ 1099511627776 := by
  unfold Rg.takeE at h
  rw [Rg.sane_iff.2 ok, decide_eq_true (show 0 ≤ (n : Int) by omega), Bool.and_self, if_pos rfl] at h
  have hq : ¬ (R.S - (R.T - R.H) < (n : Int) ∨ 1099511627776 < R.T + (n : Int)) := by
    intro hh
    rw [if_pos hh] at h
    exact absurd h (by decide)
  have h1 : ¬ R.S - (R.T - R.H) < (n : Int) := fun hh => hq (.inl hh)
  have h2 : ¬ 1099511627776 < R.T + (n : Int) := fun hh => hq (.inr hh)
  omega
theorem putTo_free (R : Rg) (at_ : Int) (ls : List (List UInt8)) (h : D.Free) : ∀ n, (putTo R at_ ls D n).Free
  | 0 => h
  | n + 1 => (putTo_free R at_ ls h n).wrote _ _
theorem putTo_laid (R : Rg) (at_ : Int) (ls : List (List UInt8)) (D : Dv) : ∀ n, (putTo R at_ ls D n).laid = D.laid
  | 0 => rfl
  | n + 1 => by
    rw [putTo]
    have : ∀ (E : Dv) (a : Int) (x : List UInt8), (E.write a x).laid = E.laid := by
      intro E a x
      unfold Dv.write
      split <;> (try split) <;> (try split) <;> rfl
    rw [this, putTo_laid R at_ ls D n]
theorem putTo_ring {R Q : Rg} (hF : R.F = Q.F) (hS : R.S = Q.S) (at_ : Int) (ls : List (List UInt8)) (D : Dv) : ∀ n, putTo R at_ ls D n = putTo Q at_ ls D n
  | 0 => rfl
  | n + 1 => by rw [putTo, putTo, putTo_ring hF hS at_ ls D n, hF, hS]
/-- an append onto a device that is there for good -/
theorem app_free (hp : G.preE b = 0) (hf : D.Free) : G.appE D b = 0 ∧ G.appAt D b = G.R.T ∧ G.appG D b = { G with R := ⟨G.R.F, G.R.S, G.R.H, G.R.T + needN b⟩ } ∧ (G.appD D b).Free ∧ G.appD D b = putTo G.R G.R.T (cutAll G.E G.R.T b) D (needN b) := by
  have hD : G.appD D b = putTo G.R G.R.T (cutAll G.E G.R.T b) D (needN b) := by unfold appD; rw [if_pos hp]
  have hF : (G.appD D b).Free := by rw [hD]; exact putTo_free _ _ _ hf _
  have hE : G.appE D b = 0 := by unfold appE; rw [if_pos hp, if_neg (by rw [hF.gone]; exact Bool.false_ne_true)]
  refine ⟨hE, ?_, ?_, hF, hD⟩
  · unfold appAt; rw [if_pos hE]
  · unfold appG; rw [if_pos hp, if_neg (by rw [hF.gone]; exact Bool.false_ne_true)]
theorem app_none (hp : G.preE b ≠ 0) : G.appE D b = G.preE b ∧ G.appG D b = G ∧ G.appD D b = D := by
  refine ⟨?_, ?_, ?_⟩
  · unfold appE; rw [if_neg hp]
  · unfold appG; rw [if_neg hp]
  · unfold appD; rw [if_neg hp]
theorem for_free (hb : G.broken = false) (hf : D.Free) : G.forE D = 0 ∧ G.forG D = { G with safe := G.R.T } ∧ G.forD D = D.flush := by
  have h0 : ¬ G.broken = true := by rw [hb]; exact Bool.false_ne_true
  refine ⟨?_, ?_, ?_⟩
  · unfold forE; rw [if_neg h0, hf.flushE]
  · unfold forG; rw [if_neg h0, if_neg (by rw [hf.flushE]; exact fun h => h rfl)]
  · unfold forD; rw [if_neg h0]
theorem appD_n (G : Lg) (D : Dv) (b : List UInt8) : (G.appD D b).n = D.n := by
  unfold appD
  split
  · exact putTo_n _ _ _ _ _
  · rfl
theorem appD_spent (G : Lg) (D : Dv) (b : List UInt8) : (G.appD D b).spent ≤ D.spent + needN b := by
  unfold appD
  split
  · exact putTo_spent _ _ _ _ _
  · omega
theorem forD_spent (G : Lg) (D : Dv) : (G.forD D).spent ≤ D.spent + 1 := by
  unfold forD
  split
  · omega
  · exact Dv.flush_spent
end Lg

/-- the sectors of a record that is appended -/
theorem Tr.app {G : Lg} {D : Dv} {R : Rg} {T0 : Int} {c0 : Nat → List UInt8} {ps : List (List UInt8)} {g f : Nat} {b : List UInt8} (h : Tr R T0 c0 D ps g f) (on : G.On D) (hp : G.preE b = 0) (hF : R.F = G.R.F) (hS : R.S = G.R.S) (hT : G.R.T = T0 + ps.length) (hH : G.R.H ≤ T0) (hg : g = ps.length) (hf : f ≤ ps.length) :
    ∃ g', g' ≤ (ps ++ cutAll G.E G.R.T b).length ∧ g ≤ g' ∧ ((G.appD D b).gone = false → g' = (ps ++ cutAll G.E G.R.T b).length) ∧ Tr R T0 c0 (G.appD D b) (ps ++ cutAll G.E G.R.T b) g' f := by
  obtain ⟨hb, hc, ht⟩ := Lg.pre_zero hp
  obtain ⟨t1, t2⟩ := Lg.take_zero on.ok ht
  have hlen := length_cutAll G.E G.R.T b
  have h64 : ∀ x ∈ cutAll G.E G.R.T b, x.length = 64 := by
    intro x hx
    obtain ⟨i, hi, rfl⟩ := List.getElem_of_mem hx
    rw [hlen] at hi
    have hq := cutAll_get G.E G.R.T b i hi
    rw [List.getElem?_eq_getElem (by rw [hlen]; exact hi)] at hq
    injection hq with hq
    rw [hq]
    exact length_sector _ (cut_may hc i hi).len
  have hf0 := on.ok.f0
  have hs0 := on.ok.s0
  have hfit := on.fit
  obtain ⟨g', k1, k2, k3, k4⟩ := Tr.putTo (R := R) (by rw [hF]; exact hf0) (by rw [hS]; exact hs0) h64 h hg hf (by rw [hF, hS]; exact hfit) (needN b) (by rw [hlen]; exact Nat.le_refl _) (by rw [hS]; omega)
  have hD : G.appD D b = Proofs.YtdjfahnnfhediaaGreat.putTo R (T0 + ps.length) (cutAll G.E G.R.T b) D (needN b) := by
    unfold Lg.appD
    rw [if_pos hp, ← hT, Lg.putTo_ring hF hS]
  rw [← hD, List.take_of_length_le (by rw [hlen]; exact Nat.le_refl _)] at k4
  rw [← hD] at k3
  rw [List.length_append, hlen]
  exact ⟨g', k1, k2, k3, k4⟩

theorem needN_some (n : Nat) (c : UInt8) : needN (someB n c) = needN (List.replicate n 0) := by
  unfold needN
  rw [length_someB, List.length_replicate]
theorem need_127 {n : Nat} {c : UInt8} (h : n ≤ 127) : 1 ≤ needN (someB n c) ∧ needN (someB n c) ≤ 3 := by
  have h1 := needN_pos (someB n c)
  have h2 := needN_bd (someB n c)
  rw [length_someB] at h2
  refine ⟨h1, ?_⟩
  by_cases hh : needN (someB n c) ≤ 3
  · exact hh
  · have := h2.2.1
    omega

/-- one more record is laid behind the others -/
theorem lay_app {G : Lg} {D : Dv} {R : Rg} {T0 e : Int} {c0 : Nat → List UInt8} {bs : List (List UInt8)} {f : Nat} {b : List UInt8} (htr : Tr R T0 c0 D (piecesAt e T0 bs) (piecesAt e T0 bs).length f) (hc : Cuts e T0 bs) (hT : G.R.T = tailOf T0 bs) (hE : G.E = e) (on : G.On D) (hp : G.preE b = 0) (hF : R.F = G.R.F) (hS : R.S = G.R.S) (hH : G.R.H ≤ T0) (hf : f ≤ (piecesAt e T0 bs).length) :
    (∃ g', g' ≤ (piecesAt e T0 (bs ++ [b])).length ∧ (piecesAt e T0 bs).length ≤ g' ∧ ((G.appD D b).gone = false → g' = (piecesAt e T0 (bs ++ [b])).length) ∧ Tr R T0 c0 (G.appD D b) (piecesAt e T0 (bs ++ [b])) g' f) ∧ Cuts e T0 (bs ++ [b]) ∧ tailOf T0 (bs ++ [b]) = G.R.T + needN b ∧ (piecesAt e T0 (bs ++ [b])).length = (piecesAt e T0 bs).length + needN b := by
  obtain ⟨_, hc2, ht⟩ := Lg.pre_zero hp
  obtain ⟨t1, t2⟩ := Lg.take_zero on.ok ht
  have hlen := length_piecesAt e bs T0
  have hpp : piecesAt e T0 (bs ++ [b]) = piecesAt e T0 bs ++ cutAll G.E G.R.T b := by
    rw [piecesAt_append, hE, hT]
    show _ ++ (cutAll e (tailOf T0 bs) b ++ []) = _
    rw [List.append_nil]
  refine ⟨?_, hc.append ?_, ?_, ?_⟩
  · rw [hpp]
    exact Tr.app htr on hp hF hS (by omega) hH rfl hf
  · rw [← hT]
    exact ⟨by rw [← hE]; exact hc2, t2, trivial⟩
  · rw [tailOf_append, ← hT]
    rfl
  · rw [hpp, List.length_append, length_cutAll]

end Go.Proofs.YtdjfahnnfhediaaGreat
