/-
  What follows of the words: what is cut is gathered, whatever stands behind it; with one piece less, another place, a piece of another record, or a bit turned, nothing is. No program stands in this text.
-/
import Derived.Test.YtdjfahnnfhediaaGreatGath6
import Derived.Test.YtdjfahnnfhediaaGreatCut6
namespace Go.Proofs.YtdjfahnnfhediaaGreat
set_option maxRecDepth 100000
open Go.RowKit Crc Wm

theorem head_at {ls : List (List UInt8)} {x : List UInt8} (hx : ls[0]? = some x) : headE ls = readE x ∧ headP ls = readP x := by
  unfold headE headP
  rw [List.getD_eq_getElem?_getD, hx]
  exact ⟨rfl, rfl⟩
theorem err_at {ls : List (List UInt8)} {at_ ep ct : Int} {i : Nat} {x : List UInt8} (hx : ls[i]? = some x) : errAt ls at_ ep ct i = if readE x ≠ 0 then readE x else if (readP x).A = at_ + i ∧ (readP x).I = i ∧ (readP x).E = ep ∧ (readP x).C = ct then 0 else 3 := by
  unfold errAt
  rw [hx]
theorem err_piece {ls : List (List UInt8)} {at_ ep ct : Int} {i : Nat} {p : Pc} (hx : ls[i]? = some p.sector) (hm : p.May) : errAt ls at_ ep ct i = if p.A = at_ + i ∧ p.I = i ∧ p.E = ep ∧ p.C = ct then 0 else 3 := by
  obtain ⟨h1, h2⟩ := read_write p hm
  rw [err_at hx, if_neg (show ¬ (readE p.sector ≠ 0) from fun h => h h1), h2]

/-- an error at a place, none ahead of it -/
theorem gat_err {ls : List (List UInt8)} {at_ : Int} {i : Nat} {E : Int} (hf : ∀ j, j < i → errAt ls at_ (headP ls).E (headP ls).C j = 0) (hi : i = 0 ∨ (headE ls = 0 ∧ (i : Int) < (headP ls).C))
    (he : errAt ls at_ (headP ls).E (headP ls).C i = E) (hE : E ≠ 0) : gatE ls at_ = E := by
  have hf' := (firstErr_zero ls at_ (headP ls).E (headP ls).C i).2 hf
  have key : headE ls = 0 → (i : Int) < (headP ls).C → gatE ls at_ = E := by
    intro h0 hlt
    unfold gatE
    rw [if_neg (by rw [h0]; exact fun h => h rfl), firstErr_at ls at_ _ _ i _ (by omega) hf' (by rw [he]; exact hE), he]
  rcases hi with rfl | ⟨h0, hlt⟩
  · by_cases h0 : headE ls = 0
    · exact key h0 (by have := (count_bd ls h0).1; omega)
    · unfold gatE
      rw [if_pos h0, ← he]
      unfold headE at h0 ⊢
      unfold errAt
      cases hx : ls[0]? with
      | none => rfl
      | some x =>
        rw [hx] at h0
        simp only at h0 ⊢
        rw [if_pos h0]
  · exact key h0 hlt

/-- a record cut, and whatever stands behind it -/
structure Rec (ls : List (List UInt8)) (ep at_ : Int) (b : List UInt8) : Prop where
  ok : cutE ep at_ b = 0
  get : ∀ i, i < needN b → ls[i]? = some (pieceAt ep at_ (needN b) b i).sector

theorem cut_ok {ep at_ : Int} {b : List UInt8} (h : cutE ep at_ b = 0) : needN b ≤ 1024 ∧ (0 ≤ ep ∧ ep ≤ 4294967295) ∧ 0 ≤ at_ ∧ at_ + ((needN b : Int) - 1) ≤ 2199023255552 := by
  unfold cutE at h
  split at h
  · omega
  · split at h
    · next h1 h2 => exact ⟨by omega, h2⟩
    · omega
theorem cut_may {ep at_ : Int} {b : List UInt8} (h : cutE ep at_ b = 0) (i : Nat) (hi : i < needN b) : (pieceAt ep at_ (needN b) b i).May := by
  obtain ⟨h1, h2, h3, h4⟩ := cut_ok h
  rw [piece_may ep at_ b i hi h1]
  exact ⟨h2, by omega, by omega⟩

section
variable {ls : List (List UInt8)} {ep at_ : Int} {b : List UInt8}
theorem Rec.head (h : Rec ls ep at_ b) : headE ls = 0 ∧ headP ls = pieceAt ep at_ (needN b) b 0 := by
  have hp := needN_pos b
  obtain ⟨h1, h2⟩ := head_at (h.get 0 hp)
  obtain ⟨h3, h4⟩ := read_write _ (cut_may h.ok 0 hp)
  rw [h1, h2, h3, h4]
  exact ⟨rfl, rfl⟩
theorem Rec.err (h : Rec ls ep at_ b) (i : Nat) (hi : i < needN b) : errAt ls at_ ep (needN b) i = 0 := by
  rw [err_piece (h.get i hi) (cut_may h.ok i hi), if_pos ⟨rfl, rfl, rfl, rfl⟩]
theorem Rec.data (h : Rec ls ep at_ b) (i : Nat) (hi : i < needN b) : dataAt ls i = (b.drop (44 * i)).take 44 := by
  unfold dataAt
  rw [List.getD_eq_getElem?_getD, h.get i hi]
  show (readP (pieceAt ep at_ (needN b) b i).sector).D = _
  rw [(read_write _ (cut_may h.ok i hi)).2]
  rfl
theorem Rec.datas (h : Rec ls ep at_ b) : ∀ i, i ≤ needN b → datas ls i = b.take (44 * i)
  | 0, _ => by simp [Proofs.YtdjfahnnfhediaaGreat.datas]
  | i + 1, hi => by
    show Proofs.YtdjfahnnfhediaaGreat.datas ls i ++ dataAt ls i = _
    rw [Rec.datas h i (by omega), h.data i (by omega), Nat.mul_succ, List.take_add]
/-- it is gathered -/
theorem Rec.gat (h : Rec ls ep at_ b) : gatE ls at_ = 0 ∧ gatB ls at_ = b ∧ gatEp ls at_ = ep ∧ gatC ls at_ = needN b := by
  obtain ⟨h1, h2⟩ := h.head
  have e : gatE ls at_ = 0 := by
    unfold gatE
    rw [if_neg (by rw [h1]; exact fun h => h rfl), h2]
    show firstErr ls at_ ep (needN b) (needN b) = 0
    rw [firstErr_zero]
    exact fun i hi => h.err i hi
  unfold gatB gatEp gatC
  rw [e, if_pos rfl, if_pos rfl, if_pos rfl, h2]
  refine ⟨rfl, ?_, rfl, rfl⟩
  show Proofs.YtdjfahnnfhediaaGreat.datas ls (needN b) = b
  rw [h.datas _ (Nat.le_refl _), List.take_of_length_le (needN_bd b).1]
/-- at another place nothing is gathered -/
theorem Rec.off (h : Rec ls ep at_ b) (a : Int) (ha : a ≠ at_) : gatE ls a = 3 := by
  have hp := needN_pos b
  obtain ⟨h1, h2⟩ := h.head
  refine gat_err (i := 0) (fun j hj => by omega) (.inl rfl) ?_ (by decide)
  rw [err_piece (h.get 0 hp) (cut_may h.ok 0 hp), if_neg]
  intro g
  have := g.1
  have e : (pieceAt ep at_ (needN b) b 0).A = at_ + (0 : Nat) := rfl
  rw [e] at this
  omega
end

theorem Rec.of_cut {ep at_ : Int} {b : List UInt8} (h : cutE ep at_ b = 0) (more : List (List UInt8)) : Rec (cutAll ep at_ b ++ more) ep at_ b :=
  ⟨h, fun i hi => by rw [List.getElem?_append_left (by rw [length_cutAll]; exact hi), cutAll_get ep at_ b i hi]⟩
theorem Rec.of_cut' {ep at_ : Int} {b : List UInt8} (h : cutE ep at_ b = 0) : Rec (cutAll ep at_ b) ep at_ b := ⟨h, fun i hi => cutAll_get ep at_ b i hi⟩

/-- without its last sector it is too short -/
theorem gat_less {ep at_ : Int} {b : List UInt8} (h : cutE ep at_ b = 0) : gatE ((cutAll ep at_ b).take (needN b - 1)) at_ = 2 := by
  have hp := needN_pos b
  have hl : ((cutAll ep at_ b).take (needN b - 1)).length = needN b - 1 := by rw [List.length_take, length_cutAll]; omega
  have hn : ((cutAll ep at_ b).take (needN b - 1))[needN b - 1]? = none := List.getElem?_eq_none (by omega)
  have hg : ∀ i, i < needN b - 1 → ((cutAll ep at_ b).take (needN b - 1))[i]? = some (pieceAt ep at_ (needN b) b i).sector := fun i hi => by
    rw [List.getElem?_take, if_pos hi, cutAll_get ep at_ b i (by omega)]
  generalize (cutAll ep at_ b).take (needN b - 1) = ls at hl hn hg
  rcases Nat.lt_or_ge 1 (needN b) with h1 | h1
  · obtain ⟨e1, e2⟩ := head_at (hg 0 (by omega))
    obtain ⟨e3, e4⟩ := read_write _ (cut_may h 0 hp)
    rw [e3] at e1
    rw [e4] at e2
    refine gat_err (i := needN b - 1) ?_ (.inr ⟨e1, ?_⟩) ?_ (by decide)
    · intro j hj
      rw [e2, err_piece (hg j hj) (cut_may h j (by omega)), if_pos ⟨rfl, rfl, rfl, rfl⟩]
    · rw [e2]; show ((needN b - 1 : Nat) : Int) < (needN b : Int); omega
    · unfold errAt; rw [hn]
  · have : ls = [] := List.eq_nil_of_length_eq_zero (by omega)
    subst this
    rfl

/-- one bit turned: the sum is another -/
theorem sector_turned (p : Pc) (hm : p.May) (k : Nat) (hk : k < 64) (y : UInt8) (hy : p.sector[k]? ≠ some y) : readE (p.sector.set k y) = 4 := by
  have hl := hm.len
  have hL := length_sector p hl
  have hB := length_body p hl
  have hS := length_sum4 p.body
  refine readE_sum _ (by rw [List.length_set]; exact hL) ?_
  unfold Pc.sector at hy ⊢
  rcases Nat.lt_or_ge k 4 with h | h
  · rw [List.set_append_left _ _ (by omega), List.take_left' (by rw [List.length_set]; exact hS), List.drop_left' (by rw [List.length_set]; exact hS)]
    intro e
    apply hy
    rw [List.getElem?_append_left (by omega)]
    have : ((sum4 p.body).set k y)[k]? = some y := List.getElem?_set_self (by omega)
    rw [e] at this
    exact this
  · rw [List.set_append_right _ _ (by omega), List.take_left' hS, List.drop_left' hS]
    intro e
    have h1 := sum4_inj e
    have hkb : k - 4 < p.body.length := by omega
    have h2 : p.body = p.body.take (k - 4) ++ p.body[k - 4] :: p.body.drop (k - 4 + 1) := by
      conv => lhs; rw [← List.take_append_drop (k - 4) p.body]
      rw [List.drop_eq_getElem_cons hkb]
    have h3 : p.body.set (k - 4) y = p.body.take (k - 4) ++ y :: p.body.drop (k - 4 + 1) := List.set_eq_take_append_cons_drop.trans (if_pos hkb)
    rw [hS, h3] at h1
    conv at h1 => lhs; rw [h2]
    have h4 := ofB_turned _ _ _ _ h1
    apply hy
    rw [List.getElem?_append_right (by omega), hS, List.getElem?_eq_getElem hkb, h4]

/-- one sector put in another's place -/
theorem set_get {ls : List (List UInt8)} {i j : Nat} {x : List UInt8} (hi : i < ls.length) : (ls.set i x)[j]? = if j = i then some x else ls[j]? := by
  rw [List.getElem?_set]
  by_cases h : i = j
  · subst h; rw [if_pos rfl, if_pos hi, if_pos rfl]
  · rw [if_neg h, if_neg (fun e => h e.symm)]

/-- a record with one sector that is none: its error -/
theorem gat_set {ep at_ : Int} {b : List UInt8} (h : cutE ep at_ b = 0) (i : Nat) (hi : i < needN b) (x : List UInt8) (E : Int) (hE : E ≠ 0)
    (h0 : i = 0 → errAt ((cutAll ep at_ b).set i x) at_ (readP x).E (readP x).C i = E) (h1 : i ≠ 0 → errAt ((cutAll ep at_ b).set i x) at_ ep (needN b) i = E) : gatE ((cutAll ep at_ b).set i x) at_ = E := by
  have hg := fun j => @set_get (cutAll ep at_ b) i j x (by rw [length_cutAll]; exact hi)
  have hp := needN_pos b
  rcases Nat.eq_zero_or_pos i with hz | hz
  · have e0 := hg 0
    rw [if_pos hz.symm] at e0
    obtain ⟨e1, e2⟩ := head_at e0
    refine gat_err (i := i) (fun j hj => by omega) (.inl hz) ?_ hE
    rw [e2]
    exact h0 hz
  · have e0 := hg 0
    rw [if_neg (by omega), cutAll_get ep at_ b 0 hp] at e0
    obtain ⟨e1, e2⟩ := head_at e0
    obtain ⟨e3, e4⟩ := read_write _ (cut_may h 0 hp)
    rw [e3] at e1
    rw [e4] at e2
    refine gat_err (i := i) ?_ (.inr ⟨e1, ?_⟩) ?_ hE
    · intro j hj
      have ej := hg j
      rw [if_neg (by omega), cutAll_get ep at_ b j (by omega)] at ej
      rw [e2, err_piece ej (cut_may h j (by omega)), if_pos ⟨rfl, rfl, rfl, rfl⟩]
    · rw [e2]; show (i : Int) < (needN b : Int); omega
    · rw [e2]; exact h1 (by omega)

theorem needN_len {b c : List UInt8} (h : c.length = b.length) : needN c = needN b := by unfold needN; rw [h]

/-- a sector of a record that lies elsewhere -/
theorem gat_away {ep at_ a2 : Int} {b c : List UInt8} (h : cutE ep at_ b = 0) (h2 : cutE ep a2 c = 0) (hl : c.length = b.length) (ha : a2 ≠ at_) (i : Nat) (hi : i < needN b) :
    gatE ((cutAll ep at_ b).set i (pieceAt ep a2 (needN c) c i).sector) at_ = 3 := by
  have hn := needN_len hl
  have hm := cut_may h2 i (by rw [hn]; exact hi)
  have hg := @set_get (cutAll ep at_ b) i i (pieceAt ep a2 (needN c) c i).sector (by rw [length_cutAll]; exact hi)
  rw [if_pos rfl] at hg
  have hA : ∀ ct ep2 : Int, ¬ ((pieceAt ep a2 (needN c) c i).A = at_ + i ∧ (pieceAt ep a2 (needN c) c i).I = i ∧ (pieceAt ep a2 (needN c) c i).E = ep2 ∧ (pieceAt ep a2 (needN c) c i).C = ct) := by
    intro ct ep2 g
    have g1 : a2 + (i : Int) = at_ + i := g.1
    omega
  refine gat_set h i hi _ 3 (by decide) (fun _ => ?_) (fun _ => ?_)
  · rw [err_piece hg hm, if_neg (hA _ _)]
  · rw [err_piece hg hm, if_neg (hA _ _)]
/-- a bit turned -/
theorem gat_bit {ep at_ : Int} {b : List UInt8} (h : cutE ep at_ b = 0) (i : Nat) (hi : i < needN b) (k : Nat) (hk : k < 64) (y : UInt8) (hy : (pieceAt ep at_ (needN b) b i).sector[k]? ≠ some y) :
    gatE ((cutAll ep at_ b).set i ((pieceAt ep at_ (needN b) b i).sector.set k y)) at_ = 4 := by
  have hr := sector_turned _ (cut_may h i hi) k hk y hy
  have hg := @set_get (cutAll ep at_ b) i i ((pieceAt ep at_ (needN b) b i).sector.set k y) (by rw [length_cutAll]; exact hi)
  rw [if_pos rfl] at hg
  refine gat_set h i hi _ 4 (by decide) (fun _ => ?_) (fun _ => ?_)
  · rw [err_at hg, if_pos (by rw [hr]; decide), hr]
  · rw [err_at hg, if_pos (by rw [hr]; decide), hr]
/-- a sector of another epoch's record, in one of several -/
theorem gat_older {ep e2 at_ : Int} {b c : List UInt8} (h : cutE ep at_ b = 0) (h2 : cutE e2 at_ c = 0) (hl : c.length = b.length) (he : e2 ≠ ep) (i : Nat) (hi : i < needN b) (hn1 : 1 < needN b) :
    gatE ((cutAll ep at_ b).set i (pieceAt e2 at_ (needN c) c i).sector) at_ = 3 := by
  have hn := needN_len hl
  have hm := cut_may h2 i (by rw [hn]; exact hi)
  have hgs := fun j => @set_get (cutAll ep at_ b) i j (pieceAt e2 at_ (needN c) c i).sector (by rw [length_cutAll]; exact hi)
  have hg := hgs i
  rw [if_pos rfl] at hg
  rcases Nat.eq_zero_or_pos i with hz | hz
  · subst hz
    obtain ⟨e1, e2'⟩ := head_at hg
    obtain ⟨e3, e4⟩ := read_write _ hm
    rw [e3] at e1
    rw [e4] at e2'
    have hg1 := hgs 1
    rw [if_neg (by decide), cutAll_get ep at_ b 1 hn1] at hg1
    refine gat_err (i := 1) ?_ (.inr ⟨e1, ?_⟩) ?_ (by decide)
    · intro j hj
      obtain rfl : j = 0 := by omega
      rw [e2', err_piece hg hm, if_pos ⟨rfl, rfl, rfl, rfl⟩]
    · rw [e2']; show ((1 : Nat) : Int) < (needN c : Int); omega
    · rw [e2', err_piece hg1 (cut_may h 1 hn1), if_neg]
      intro g
      have g1 : ep = e2 := g.2.2.1
      exact he g1.symm
  · refine gat_set h i hi _ 3 (by decide) (fun h => by omega) (fun _ => ?_)
    rw [err_piece hg hm, if_neg]
    intro g
    have g1 : e2 = ep := g.2.2.1
    exact he g1
theorem gat_older1 {ep e2 at_ : Int} {b c : List UInt8} (h2 : cutE e2 at_ c = 0) (hl : c.length = b.length) (hn1 : needN b = 1) :
    gatE ((cutAll ep at_ b).set 0 (pieceAt e2 at_ (needN c) c 0).sector) at_ = 0 ∧ gatEp ((cutAll ep at_ b).set 0 (pieceAt e2 at_ (needN c) c 0).sector) at_ = e2 := by
  have hn := needN_len hl
  have hr : Rec ((cutAll ep at_ b).set 0 (pieceAt e2 at_ (needN c) c 0).sector) e2 at_ c := ⟨h2, fun i hi => by
    obtain rfl : i = 0 := by omega
    rw [set_get (by rw [length_cutAll]; omega), if_pos rfl]⟩
  exact ⟨hr.gat.1, hr.gat.2.2.1⟩

theorem cut_any_ok {ep at_ : Int} {b : List UInt8} (he : 0 ≤ ep ∧ ep ≤ 4294967295) (ha : 0 ≤ at_) (hl : b.length ≤ 1000) (ha2 : at_ ≤ 2000000000000) : cutE ep at_ b = 0 := by
  have hb := needN_bd b
  unfold cutE
  rw [if_neg (by omega), if_pos ⟨he, ha, by omega⟩]

end Go.Proofs.YtdjfahnnfhediaaGreat
