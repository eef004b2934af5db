/-
  Which records are found where sectors may be lost: those that were laid last, up to the first of which a sector is not there. No program.
-/
import Derived.Test.YtdjfahnnfhediaaGreatLg
namespace Go.Proofs.YtdjfahnnfhediaaGreat
set_option maxRecDepth 100000
open Go.RowKit Crc Wm

/-- records one behind the other, from a place on -/
def recsAt : Int → List (List UInt8) → List (Int × List UInt8)
  | _, [] => []
  | at_, b :: l => (at_, b) :: recsAt (at_ + needN b) l
/-- their sectors -/
def piecesAt (e : Int) : Int → List (List UInt8) → List (List UInt8)
  | _, [] => []
  | at_, b :: l => cutAll e at_ b ++ piecesAt e (at_ + needN b) l
/-- they may be laid -/
def Cuts (e : Int) : Int → List (List UInt8) → Prop
  | _, [] => True
  | at_, b :: l => cutE e at_ b = 0 ∧ at_ + needN b ≤ 1099511627776 ∧ Cuts e (at_ + needN b) l
def tailOf (at_ : Int) : List (List UInt8) → Int
  | [] => at_
  | b :: l => tailOf (at_ + needN b) l

theorem recsAt_append : ∀ (l m : List (List UInt8)) (at_ : Int), recsAt at_ (l ++ m) = recsAt at_ l ++ recsAt (tailOf at_ l) m
  | [], _, _ => rfl
  | b :: l, m, at_ => by
    show (at_, b) :: recsAt _ (l ++ m) = _
    rw [recsAt_append l m]
    rfl
theorem piecesAt_append (e : Int) : ∀ (l m : List (List UInt8)) (at_ : Int), piecesAt e at_ (l ++ m) = piecesAt e at_ l ++ piecesAt e (tailOf at_ l) m
  | [], _, _ => rfl
  | b :: l, m, at_ => by
    show cutAll e at_ b ++ piecesAt e _ (l ++ m) = _
    rw [piecesAt_append e l m, ← List.append_assoc]
    rfl
theorem Cuts.append {e : Int} : ∀ {l m : List (List UInt8)} {at_ : Int}, Cuts e at_ l → Cuts e (tailOf at_ l) m → Cuts e at_ (l ++ m)
  | [], _, _, _, k => k
  | _ :: _, _, _, h, k => ⟨h.1, h.2.1, Cuts.append h.2.2 k⟩
theorem tailOf_append : ∀ (l m : List (List UInt8)) (at_ : Int), tailOf at_ (l ++ m) = tailOf (tailOf at_ l) m
  | [], _, _ => rfl
  | b :: l, m, at_ => tailOf_append l m (at_ + needN b)
theorem length_piecesAt (e : Int) : ∀ (l : List (List UInt8)) (at_ : Int), ((piecesAt e at_ l).length : Int) = tailOf at_ l - at_
  | [], at_ => by show (0 : Int) = at_ - at_; omega
  | b :: l, at_ => by
    show (((cutAll e at_ b ++ piecesAt e _ l).length : Nat) : Int) = tailOf (at_ + needN b) l - at_
    rw [List.length_append, length_cutAll]
    have := length_piecesAt e l (at_ + needN b)
    omega
theorem length_recsAt : ∀ (l : List (List UInt8)) (at_ : Int), (recsAt at_ l).length = l.length
  | [], _ => rfl
  | b :: l, at_ => by
    show (recsAt _ l).length + 1 = l.length + 1
    rw [length_recsAt l]
theorem recsAt_data : ∀ (l : List (List UInt8)) (at_ : Int) (i : Nat) (r : Int × List UInt8), (recsAt at_ l)[i]? = some r → l[i]? = some r.2
  | [], _, i, r, h => by cases i <;> simp [recsAt] at h
  | b :: l, at_, 0, r, h => by
    have h : some (at_, b) = some r := h
    injection h with h
    rw [← h]
    rfl
  | b :: l, at_, i + 1, r, h => recsAt_data l _ i r h
theorem recsAt_take : ∀ (l : List (List UInt8)) (at_ : Int) (k : Nat), recsAt at_ (l.take k) = (recsAt at_ l).take k
  | [], _, k => by simp [recsAt]
  | b :: l, at_, 0 => rfl
  | b :: l, at_, k + 1 => by
    show (at_, b) :: recsAt _ (l.take k) = (at_, b) :: (recsAt _ l).take k
    rw [recsAt_take l]
/-- each sector laid is a piece -/
theorem piece_mem {e : Int} : ∀ {l : List (List UInt8)} {at_ : Int} {i : Nat} {y : List UInt8}, Cuts e at_ l → (piecesAt e at_ l)[i]? = some y → readE y = 0 ∧ (readP y).E = e ∧ (readP y).A = at_ + i ∧ y.length = 64
  | [], _, i, y, _, h => by cases i <;> simp [piecesAt] at h
  | b :: l, at_, i, y, hc, h => by
    have h : (cutAll e at_ b ++ piecesAt e (at_ + needN b) l)[i]? = some y := h
    rcases Nat.lt_or_ge i (needN b) with hi | hi
    · rw [List.getElem?_append_left (by rw [length_cutAll]; exact hi), cutAll_get e at_ b i hi] at h
      injection h with h
      have hm := cut_may hc.1 i hi
      obtain ⟨h1, h2⟩ := read_write _ hm
      rw [← h]
      exact ⟨h1, by rw [h2]; rfl, by rw [h2]; rfl, length_sector _ hm.len⟩
    · rw [List.getElem?_append_right (by rw [length_cutAll]; exact hi), length_cutAll] at h
      obtain ⟨h1, h2, h3, h4⟩ := piece_mem hc.2.2 h
      exact ⟨h1, h2, by rw [h3]; omega, h4⟩

theorem gatE_zero {ls : List (List UInt8)} {at_ : Int} : gatE ls at_ = 0 ↔ headE ls = 0 ∧ ∀ i, i < (headP ls).C.toNat → errAt ls at_ (headP ls).E (headP ls).C i = 0 := by
  constructor
  · intro h
    obtain ⟨_, _, _, h0, _, _, _, hz⟩ := gat_cnt h
    exact ⟨h0, hz⟩
  · rintro ⟨h0, hz⟩
    unfold gatE
    rw [if_neg (by rw [h0]; exact fun h => h rfl)]
    exact (firstErr_zero _ _ _ _ _).2 hz
theorem head_congr {ls ms : List (List UInt8)} (h : ls[0]? = ms[0]?) : headE ls = headE ms ∧ headP ls = headP ms := by
  unfold headE headP
  rw [List.getD_eq_getElem?_getD, List.getD_eq_getElem?_getD, h]
  exact ⟨rfl, rfl⟩
theorem err_congr {ls ms : List (List UInt8)} {i : Nat} (h : ls[i]? = ms[i]?) (at_ ep ct : Int) : errAt ls at_ ep ct i = errAt ms at_ ep ct i := by
  unfold errAt
  rw [h]
theorem datas_congr {ls ms : List (List UInt8)} : ∀ n, (∀ i, i < n → ls[i]? = ms[i]?) → datas ls n = datas ms n
  | 0, _ => rfl
  | n + 1, h => by
    show datas ls n ++ dataAt ls n = datas ms n ++ dataAt ms n
    rw [datas_congr n (fun i hi => h i (by omega))]
    unfold dataAt
    rw [List.getD_eq_getElem?_getD, List.getD_eq_getElem?_getD, h n (by omega)]
/-- what is gathered lies in the first sectors alone -/
theorem gat_congr {ls ms : List (List UInt8)} {at_ : Int} (h : gatE ls at_ = 0) (hs : ∀ i : Nat, (i : Int) < gatC ls at_ → ls[i]? = ms[i]?) : gatE ms at_ = 0 ∧ gatB ms at_ = gatB ls at_ ∧ gatEp ms at_ = gatEp ls at_ ∧ gatC ms at_ = gatC ls at_ := by
  obtain ⟨c1, _, _, h0, hC, _, _, hz⟩ := gat_cnt h
  obtain ⟨e1, e2⟩ := head_congr (hs 0 (by omega))
  have hm : gatE ms at_ = 0 := by
    refine gatE_zero.2 ⟨by rw [← e1]; exact h0, fun i hi => ?_⟩
    rw [← e2] at hi ⊢
    rw [← err_congr (hs i (by omega))]
    exact hz i hi
  refine ⟨hm, ?_, ?_, ?_⟩
  · unfold gatB
    rw [if_pos h, if_pos hm, e2]
    exact (datas_congr _ (fun i hi => hs i (by rw [e2] at hC; omega))).symm
  · unfold gatEp; rw [if_pos h, if_pos hm, e2]
  · unfold gatC; rw [if_pos h, if_pos hm, e2]

theorem from_add {ls : List (List UInt8)} {H at_ : Int} {n : Nat} (h : H ≤ at_) : from_ ls H (at_ + n) = (from_ ls H at_).drop n := by
  unfold from_
  rw [List.drop_drop]
  congr 1
  omega

/-- records told by a ring's sectors are told by another's, which has the same ahead of their end -/
theorem Run.congr {ls ms : List (List UInt8)} {H ep ep' T : Int} (hep : ep ≤ ep') (hs : ∀ i : Nat, H + i < T → ls[i]? = ms[i]?) : ∀ {rs : List (Int × List UInt8)} {last at_ last' at' : Int}, H ≤ at_ → at_ ≤ H + ls.length → Run ls H ep last at_ rs last' at' → at' ≤ T → Run ms H ep' last at_ rs last' at'
  | [], _, _, _, _, _, _, h, _ => h
  | r :: rs, last, at_, last', at', h0, h1, h, hT => by
    obtain ⟨hc, hr, h⟩ := h
    obtain ⟨g0, g1, g2, g3⟩ := counts_iff.1 hc
    obtain ⟨c1, c2, c3⟩ := counts_in hc h0 h1
    have hin := h.in_ (by omega) c2 c3
    have hg := gat_congr (ms := from_ ms H at_) g0 (fun i hi => by
      unfold from_
      rw [List.getElem?_drop, List.getElem?_drop]
      exact hs _ (by omega))
    obtain ⟨e0, e1, e2, e3⟩ := hg
    refine ⟨counts_iff.2 ⟨e0, by rw [e2]; exact g1, by rw [e2]; omega, by rw [e3]; exact g3⟩, by rw [e1]; exact hr, ?_⟩
    rw [e2, e3]
    exact Run.congr hep hs (by omega) c2 h hT

/-- each sector is as it was, or the one that was laid -/
structure Mix (tl bl ps : List (List UInt8)) : Prop where
  len : bl.length = tl.length
  le : ps.length ≤ tl.length
  mix : ∀ (i : Nat) y, tl[i]? = some y → bl[i]? = some y ∨ ps[i]? = some y
theorem Mix.drop {tl bl ps : List (List UInt8)} (h : Mix tl bl ps) (n : Nat) : Mix (tl.drop n) (bl.drop n) (ps.drop n) := by
  refine ⟨by rw [List.length_drop, List.length_drop, h.len], ?_, fun i y hy => ?_⟩
  · rw [List.length_drop, List.length_drop]
    have := h.le
    omega
  · rw [List.getElem?_drop] at hy ⊢
    rw [List.getElem?_drop]
    exact h.mix _ y hy

/-- none of the sectors that were there stands for its place in an epoch of e or more -/
def Elder (e at_ : Int) (bl : List (List UInt8)) : Prop := ∀ (i : Nat) y, bl[i]? = some y → readE y = 0 → (readP y).A = at_ + i → (readP y).E < e
theorem Elder.drop {e at_ : Int} {bl : List (List UInt8)} (h : Elder e at_ bl) (n : Nat) : Elder e (at_ + n) (bl.drop n) := by
  intro i y hy h0 hA
  rw [List.getElem?_drop] at hy
  exact h _ y hy h0 (by omega)

theorem err_zero {ls : List (List UInt8)} {at_ ep ct : Int} {i : Nat} (h : errAt ls at_ ep ct i = 0) : ∃ y, ls[i]? = some y ∧ readE y = 0 ∧ (readP y).A = at_ + i ∧ (readP y).I = i ∧ (readP y).E = ep ∧ (readP y).C = ct := by
  unfold errAt at h
  cases hx : ls[i]? with
  | none => rw [hx] at h; have h2 : (2 : Int) = 0 := h; omega
  | some y =>
    rw [hx] at h
    have h : (if readE y ≠ 0 then readE y else if (readP y).A = at_ + i ∧ (readP y).I = i ∧ (readP y).E = ep ∧ (readP y).C = ct then (0 : Int) else 3) = 0 := h
    by_cases h0 : readE y = 0
    · rw [if_neg (by rw [h0]; exact fun h => h rfl)] at h
      by_cases h1 : (readP y).A = at_ + i ∧ (readP y).I = i ∧ (readP y).E = ep ∧ (readP y).C = ct
      · exact ⟨y, rfl, h0, h1⟩
      · rw [if_neg h1] at h; omega
    · rw [if_pos h0] at h; exact absurd h h0

/-- where a record was laid, and not all of it is there: what is gathered is elder, and was there ahead -/
theorem torn {e at_ : Int} {b : List UInt8} {l : List (List UInt8)} {tl bl : List (List UInt8)} (hc : cutE e at_ b = 0) (hm : Mix tl bl (cutAll e at_ b ++ l)) (hb : Elder e at_ bl) (hp : ∀ (i : Nat) (y : List UInt8), l[i]? = some y → readE y = 0 → (readP y).E = e) (hn : ¬ ∀ i, i < needN b → tl[i]? = some (pieceAt e at_ (needN b) b i).sector) (hg : gatE tl at_ = 0) : gatEp tl at_ < e ∧ gatE bl at_ = 0 := by
  obtain ⟨c1, c2, _, h0, hC, hE, _, hz⟩ := gat_cnt hg
  have hN := needN_pos b
  have old : ∀ i, i < (headP tl).C.toNat → (headP tl).E < e → tl[i]? = bl[i]? := by
    intro i hi hlt
    obtain ⟨y, hy, r0, rA, _, rE, _⟩ := err_zero (hz i hi)
    rcases hm.mix i y hy with h | h
    · rw [hy, h]
    · exfalso
      rcases Nat.lt_or_ge i (needN b) with hi2 | hi2
      · rw [List.getElem?_append_left (by rw [length_cutAll]; exact hi2), cutAll_get e at_ b i hi2] at h
        injection h with h
        have := (read_write _ (cut_may hc i hi2)).2
        rw [h] at this
        rw [this] at rE
        have : e = (headP tl).E := rE
        omega
      · rw [List.getElem?_append_right (by rw [length_cutAll]; exact hi2)] at h
        have := hp _ y h r0
        omega
  have key : (headP tl).E < e := by
    obtain ⟨y, hy, r0, rA, rI, rE, rC⟩ := err_zero (hz 0 (by omega))
    rcases hm.mix 0 y hy with h | h
    · rw [← rE]
      exact hb 0 y h r0 rA
    · exfalso
      rw [List.getElem?_append_left (by rw [length_cutAll]; omega), cutAll_get e at_ b 0 hN] at h
      injection h with h
      have hr := (read_write _ (cut_may hc 0 hN)).2
      rw [h] at hr
      rw [hr] at rE rC
      have rE : e = (headP tl).E := rE
      have rC : (needN b : Int) = (headP tl).C := rC
      apply hn
      intro i hi
      obtain ⟨z, hz1, z0, zA, _, zE, _⟩ := err_zero (hz i (by omega))
      rcases hm.mix i z hz1 with k | k
      · have := hb i z k z0 zA
        omega
      · rw [List.getElem?_append_left (by rw [length_cutAll]; exact hi), cutAll_get e at_ b i hi] at k
        rw [hz1, ← k]
  refine ⟨by rw [hE]; exact key, ?_⟩
  obtain ⟨e1, e2⟩ := head_congr (old 0 (by omega) key)
  refine gatE_zero.2 ⟨by rw [← e1]; exact h0, fun i hi => ?_⟩
  rw [← e2] at hi ⊢
  rw [← err_congr (old i hi key)]
  exact hz i hi
/-- where nothing was laid -/
theorem untorn {e at_ : Int} {tl bl : List (List UInt8)} (hm : Mix tl bl []) (hb : Elder e at_ bl) (hg : gatE tl at_ = 0) : gatEp tl at_ < e ∧ gatE bl at_ = 0 := by
  have hq : ∀ i : Nat, i < tl.length → tl[i]? = bl[i]? := by
    intro i hi
    rcases hm.mix i _ (List.getElem?_eq_getElem hi) with h | h
    · rw [List.getElem?_eq_getElem hi, h]
    · simp at h
  obtain ⟨c1, c2, _, h0, hC, hE, _, hz⟩ := gat_cnt hg
  refine ⟨?_, (gat_congr hg (fun i hi => hq i (by omega))).1⟩
  rw [hE]
  obtain ⟨y, hy, r0, rA, _, rE, _⟩ := err_zero (hz 0 (by omega))
  rw [← rE]
  exact hb 0 y (by rw [← hq 0 (by omega)]; exact hy) r0 rA

theorem Cuts.mem {e : Int} {l : List (List UInt8)} {at_ : Int} (hc : Cuts e at_ l) : ∀ (i : Nat) (y : List UInt8), (piecesAt e at_ l)[i]? = some y → readE y = 0 → (readP y).E = e := fun _ _ h _ => (piece_mem hc h).2.1

/-- what is found: all that was forced, and then as many as are there whole -/
theorem find {ls : List (List UInt8)} {H ep e : Int} (he : e < ep) : ∀ (l : List (List UInt8)) (at_ last : Int) (bl : List (List UInt8)) (m : Nat), H ≤ at_ → Cuts e at_ l → Mix (from_ ls H at_) bl (piecesAt e at_ l) → Elder e at_ bl → last ≤ e → (last = e ∨ gatE bl at_ ≠ 0) → m ≤ l.length →
    (∀ i, i < (piecesAt e at_ (l.take m)).length → (from_ ls H at_)[i]? = (piecesAt e at_ l)[i]?) →
    ∃ k last' t, m ≤ k ∧ k ≤ l.length ∧ Run ls H ep last at_ (recsAt at_ (l.take k)) last' t ∧ counts ls H ep last' t = false ∧ t = tailOf at_ (l.take k) ∧ last' ≤ e ∧ (gatE (from_ ls H t) t = 0 → ∃ (j : Nat) (y : List UInt8), bl[j]? = some y ∧ readE y = 0 ∧ (readP y).A = at_ + j)
  | [], at_, last, bl, m, h0, _, hm, hb, hl, hlast, hml, _ => by
    have hgt : gatE (from_ ls H at_) at_ = 0 → gatEp (from_ ls H at_) at_ < e ∧ gatE bl at_ = 0 := fun hg => untorn hm hb hg
    refine ⟨0, last, at_, by simpa using hml, Nat.le_refl _, ⟨rfl, rfl⟩, ?_, rfl, hl, ?_⟩
    · cases hc : counts ls H ep last at_ with
      | false => rfl
      | true =>
        exfalso
        obtain ⟨g0, g1, g2, g3⟩ := counts_iff.1 hc
        obtain ⟨k1, k2⟩ := hgt g0
        rcases hlast with h | h
        · omega
        · exact h k2
    · intro hg
      obtain ⟨_, k2⟩ := hgt hg
      obtain ⟨c1, _, _, _, hC, _, _, hz⟩ := gat_cnt k2
      obtain ⟨y, hy, r0, rA, _⟩ := err_zero (hz 0 (by omega))
      exact ⟨0, y, hy, r0, rA⟩
  | b :: l, at_, last, bl, m, h0, hc, hm, hb, hl, hlast, hml, hf => by
    have hlen : (piecesAt e at_ (b :: l)).length ≤ (from_ ls H at_).length := hm.le
    by_cases hall : ∀ i, i < needN b → (from_ ls H at_)[i]? = some (pieceAt e at_ (needN b) b i).sector
    · obtain ⟨g0, gB, gE, gC⟩ := (Rec.mk hc.1 hall).gat
      have hcnt : counts ls H ep last at_ = true := counts_iff.2 ⟨g0, by rw [gE]; exact hl, by rw [gE]; exact he, by rw [gC]; exact hc.2.1⟩
      have hd : (piecesAt e at_ (b :: l)).drop (needN b) = piecesAt e (at_ + needN b) l := List.drop_left' (length_cutAll e at_ b)
      have hm2 : Mix (from_ ls H (at_ + needN b)) (bl.drop (needN b)) (piecesAt e (at_ + needN b) l) := by
        rw [from_add h0, ← hd]
        exact hm.drop _
      obtain ⟨k, last', t, h1, h2, h3, h4, h5, h6, h7⟩ := find he l (at_ + needN b) e (bl.drop (needN b)) (m - 1) (by omega) hc.2.2 hm2 (hb.drop _) (Int.le_refl _) (.inl rfl) (by simp only [List.length_cons] at hml; omega) (by
        intro i hi
        rw [from_add h0, ← hd, List.getElem?_drop, List.getElem?_drop]
        refine hf _ ?_
        rcases m with _ | m
        · simp [piecesAt] at hi
        · show _ < (cutAll e at_ b ++ piecesAt e (at_ + needN b) (l.take m)).length
          rw [List.length_append, length_cutAll]
          simpa using hi)
      refine ⟨k + 1, last', t, by omega, by simp only [List.length_cons]; omega, ⟨hcnt, by rw [gB], by rw [gE, gC]; exact h3⟩, h4, h5, h6, ?_⟩
      intro hg
      obtain ⟨j, y, hj, r0, rA⟩ := h7 hg
      rw [List.getElem?_drop] at hj
      exact ⟨_, y, hj, r0, by rw [rA]; omega⟩
    · have hgt : gatE (from_ ls H at_) at_ = 0 → gatEp (from_ ls H at_) at_ < e ∧ gatE bl at_ = 0 := fun hg => torn hc.1 hm hb hc.2.2.mem hall hg
      refine ⟨0, last, at_, ?_, Nat.zero_le _, ⟨rfl, rfl⟩, ?_, rfl, hl, ?_⟩
      · rcases m with _ | m
        · exact Nat.le_refl _
        · exfalso
          apply hall
          intro i hi
          have hp : (piecesAt e at_ (b :: l))[i]? = some (pieceAt e at_ (needN b) b i).sector := by
            show (cutAll e at_ b ++ piecesAt e (at_ + needN b) l)[i]? = _
            rw [List.getElem?_append_left (by rw [length_cutAll]; exact hi), cutAll_get e at_ b i hi]
          rw [← hp]
          refine hf i ?_
          show i < (cutAll e at_ b ++ piecesAt e (at_ + needN b) (l.take m)).length
          rw [List.length_append, length_cutAll]
          omega
      · cases hcn : counts ls H ep last at_ with
        | false => rfl
        | true =>
          exfalso
          obtain ⟨g0, g1, g2, g3⟩ := counts_iff.1 hcn
          obtain ⟨k1, k2⟩ := hgt g0
          rcases hlast with h | h
          · omega
          · exact h k2
      · intro hg
        obtain ⟨_, k2⟩ := hgt hg
        obtain ⟨c1, _, _, _, hC, _, _, hz⟩ := gat_cnt k2
        obtain ⟨y, hy, r0, rA, _⟩ := err_zero (hz 0 (by omega))
        exact ⟨0, y, hy, r0, rA⟩

end Go.Proofs.YtdjfahnnfhediaaGreat
