/-
  A log that goes round, by its words: records of two sectors each, all of them forced; what is old is dropped. No program.
-/
import Derived.Test.YtdjfahnnfhediaaModel7
namespace Go.Proofs.Ytdjfahnnfhediaa
set_option maxRecDepth 100000
open Go.RowKit Crc Wm

/-- record j's bytes, and the sector of place a -/
def rdB (j : Nat) : List UInt8 := someB 60 (UInt8.ofNat j)
theorem need_rd (j : Nat) : needN (rdB j) = 2 := by
  have h := needN_some 60 (UInt8.ofNat j)
  unfold rdB
  rw [h]
  decide
def rdP (a : Nat) : List UInt8 := (pieceAt 1 (2 * (a / 2 : Nat)) 2 (rdB (a / 2)) (a % 2)).sector

theorem rd_cut (j : Nat) (h : j ≤ 1000) : cutE 1 (2 * (j : Int)) (rdB j) = 0 := by
  unfold cutE
  rw [need_rd, if_neg (by decide), if_pos ⟨by decide, by omega, by omega⟩]
theorem rd_sector (j i : Nat) (hi : i < 2) : (pieceAt 1 (2 * (j : Int)) 2 (rdB j) i).sector = rdP (2 * j + i) := by
  unfold rdP
  rw [show (2 * j + i) / 2 = j by omega, show (2 * j + i) % 2 = i by omega]
theorem rd_all (j : Nat) : cutAll 1 (2 * (j : Int)) (rdB j) = [rdP (2 * j), rdP (2 * j + 1)] := by
  unfold cutAll
  rw [need_rd]
  show [(pieceAt 1 (2 * (j : Int)) 2 (rdB j) 0).sector, (pieceAt 1 (2 * (j : Int)) 2 (rdB j) 1).sector] = _
  rw [rd_sector j 0 (by decide), rd_sector j 1 (by decide)]
  rfl
theorem rd_read (a : Nat) (h : a ≤ 1000) : readE (rdP a) = 0 ∧ (readP (rdP a)).A = a ∧ (rdP a).length = 64 := by
  have hm : (pieceAt 1 (2 * (a / 2 : Nat)) 2 (rdB (a / 2)) (a % 2)).May := by
    have := cut_may (rd_cut (a / 2) (by omega)) (a % 2) (by rw [need_rd]; omega)
    rwa [need_rd] at this
  obtain ⟨h1, h2⟩ := read_write _ hm
  refine ⟨h1, ?_, length_sector _ hm.len⟩
  show (readP (rdP a)).A = _
  unfold rdP
  rw [h2]
  show 2 * (((a / 2 : Nat)) : Int) + ((a % 2 : Nat) : Int) = a
  omega

/-- the records from fr on, up to i -/
def rdL (fr i : Nat) : List (List UInt8) := (List.range (i - fr)).map fun j => rdB (fr + j)

/-- all that was laid is there, as far as it counts; and nothing stands where it does not belong -/
structure Rnd (k : Nat) (D : Dv) (fr i : Nat) : Prop where
  n16 : D.n = 16
  late : ∀ s, D.late s = none
  le : fr ≤ i ∧ 2 * (i - fr) ≤ k ∧ i ≤ 64
  live : ∀ a : Nat, 2 * fr ≤ a → a < 2 * i → D.laid (sec ⟨1, k, 0, 0⟩ a) = rdP a
  any : ∀ s, D.laid s = Dv.zeros ∨ ∃ a : Nat, a < 2 * i ∧ D.laid s = rdP a

theorem Rnd.start (k : Nat) : Rnd k (.fresh 16) 0 0 := ⟨rfl, fun _ => rfl, ⟨Nat.le_refl _, by omega, by omega⟩, fun a _ h => by omega, fun _ => .inl rfl⟩
theorem Rnd.drop {k : Nat} {D : Dv} {fr i : Nat} (h : Rnd k D fr i) (hf : fr < i) : Rnd k D (fr + 1) i := ⟨h.n16, h.late, ⟨by omega, by have := h.le; omega, h.le.2.2⟩, fun a h1 h2 => h.live a (by omega) h2, h.any⟩

/-- one more is laid, and forced -/
theorem Rnd.lay {k : Nat} {D : Dv} {fr i : Nat} (h : Rnd k D fr i) (hk : 4 ≤ k ∧ k ≤ 11) (hf : D.Free) (hi : i < 64) (hr : 2 * (i + 1 - fr) ≤ k) : Rnd k (putTo ⟨1, k, 0, 0⟩ (2 * (i : Int)) (cutAll 1 (2 * (i : Int)) (rdB i)) D 2).flush fr (i + 1) := by
  obtain ⟨l1, l2, l3⟩ := h.le
  have h0 : (0 : Int) ≤ (Rg.mk 1 k 0 0).F := by show (0 : Int) ≤ 1; decide
  have h1 : (1 : Int) ≤ (Rg.mk 1 k 0 0).S := by show (1 : Int) ≤ k; omega
  have hsec : ∀ a : Int, sec ⟨1, k, 0, 0⟩ a < 16 := fun a => by
    have g1 := sec_int h0 h1 a
    have g2 := Int.emod_lt_of_pos a (b := (k : Int)) (by omega)
    have g3 : (Rg.mk 1 k 0 0).F + a % (Rg.mk 1 k 0 0).S = 1 + a % (k : Int) := rfl
    omega
  have e2 : putTo ⟨1, k, 0, 0⟩ (2 * (i : Int)) (cutAll 1 (2 * (i : Int)) (rdB i)) D 2 = (D.write ((sec ⟨1, k, 0, 0⟩ (2 * (i : Int)) : Nat) : Int) (rdP (2 * i))).write ((sec ⟨1, k, 0, 0⟩ (2 * (i : Int) + 1) : Nat) : Int) (rdP (2 * i + 1)) := by
    rw [rd_all, sec_int h0 h1, sec_int h0 h1]
    show (D.write (1 + (2 * (i : Int) + ((0 : Nat) : Int)) % k) (rdP (2 * i))).write (1 + (2 * (i : Int) + ((1 : Nat) : Int)) % k) (rdP (2 * i + 1)) = _
    simp
  have r1 := rd_read (2 * i) (by omega)
  have r2 := rd_read (2 * i + 1) (by omega)
  have w1 := write_cases D (sec ⟨1, k, 0, 0⟩ (2 * (i : Int))) (rdP (2 * i)) r1.2.2 (by rw [h.n16]; exact hsec _)
  have hf1 := hf.wrote ((sec ⟨1, k, 0, 0⟩ (2 * (i : Int)) : Nat) : Int) (rdP (2 * i))
  rcases w1 with ⟨_, _, hg⟩ | ⟨a1, a2, _⟩
  · rw [hf1.gone] at hg; cases hg
  have hn1 : (D.write ((sec ⟨1, k, 0, 0⟩ (2 * (i : Int)) : Nat) : Int) (rdP (2 * i))).n = 16 := by rw [Dv.write_n]; exact h.n16
  generalize D.write ((sec ⟨1, k, 0, 0⟩ (2 * (i : Int)) : Nat) : Int) (rdP (2 * i)) = D1 at *
  have w2 := write_cases D1 (sec ⟨1, k, 0, 0⟩ (2 * (i : Int) + 1)) (rdP (2 * i + 1)) r2.2.2 (by rw [hn1]; exact hsec _)
  have hf2 := hf1.wrote ((sec ⟨1, k, 0, 0⟩ (2 * (i : Int) + 1) : Nat) : Int) (rdP (2 * i + 1))
  rcases w2 with ⟨_, _, hg⟩ | ⟨b1, b2, _⟩
  · rw [hf2.gone] at hg; cases hg
  have hn2 : (D1.write ((sec ⟨1, k, 0, 0⟩ (2 * (i : Int) + 1) : Nat) : Int) (rdP (2 * i + 1))).n = 16 := by rw [Dv.write_n]; exact hn1
  rw [e2, hf2.flush]
  generalize D1.write ((sec ⟨1, k, 0, 0⟩ (2 * (i : Int) + 1) : Nat) : Int) (rdP (2 * i + 1)) = D2 at *
  have hlaid : ∀ s, (D2.more.settle).laid s = if s = sec ⟨1, k, 0, 0⟩ (2 * (i : Int) + 1) then rdP (2 * i + 1) else if s = sec ⟨1, k, 0, 0⟩ (2 * (i : Int)) then rdP (2 * i) else D.laid s := by
    intro s
    show (D2.late s).getD (D2.laid s) = _
    rw [b2, b1, a1]
    show (if s = sec ⟨1, k, 0, 0⟩ (2 * (i : Int) + 1) then some (rdP (2 * i + 1)) else D1.late s).getD (D.laid s) = _
    split
    · rfl
    · rw [a2]
      show (if s = sec ⟨1, k, 0, 0⟩ (2 * (i : Int)) then some (rdP (2 * i)) else D.late s).getD (D.laid s) = _
      split
      · rfl
      · rw [h.late]; rfl
  refine ⟨hn2, fun _ => rfl, ⟨by omega, hr, by omega⟩, fun a g1 g2 => ?_, fun s => ?_⟩
  · rw [hlaid]
    rcases Nat.lt_or_ge a (2 * i) with ha | ha
    · rw [if_neg (sec_ne h0 h1 (by omega) (by show 2 * (i : Int) + 1 - (a : Int) < k; omega)), if_neg (sec_ne h0 h1 (by omega) (by show 2 * (i : Int) - (a : Int) < k; omega))]
      exact h.live a g1 ha
    · rcases (show a = 2 * i ∨ a = 2 * i + 1 by omega) with ha | ha
      · subst ha
        rw [if_neg (sec_ne h0 h1 (by omega) (by show 2 * (i : Int) + 1 - ((2 * i : Nat) : Int) < k; omega)), if_pos (by congr 1)]
      · subst ha
        rw [if_pos (by congr 1)]
  · rw [hlaid]
    split
    · exact .inr ⟨2 * i + 1, by omega, rfl⟩
    · split
      · exact .inr ⟨2 * i, by omega, rfl⟩
      · rcases h.any s with g | ⟨a, g1, g2⟩
        · exact .inl g
        · exact .inr ⟨a, by omega, g2⟩

theorem rdL_len (fr i : Nat) : (rdL fr i).length = i - fr := by unfold rdL; simp
theorem rdL_get (fr i j : Nat) (h : j < i - fr) : (rdL fr i)[j]? = some (rdB (fr + j)) := by
  unfold rdL
  rw [List.getElem?_map, List.getElem?_range h]
  rfl
/-- records of two sectors each, by their places -/
theorem two_each : ∀ (l : List (List UInt8)) (at_ : Int), (∀ b ∈ l, needN b = 2) → tailOf at_ l = at_ + 2 * l.length ∧ ∀ (j : Nat) (b : List UInt8), l[j]? = some b → (recsAt at_ l)[j]? = some (at_ + 2 * j, b)
  | [], at_, _ => ⟨by simp [tailOf], fun j b h => by simp at h⟩
  | b :: l, at_, h => by
    have hb := h b (by simp)
    obtain ⟨h1, h2⟩ := two_each l (at_ + needN b) (fun c hc => h c (by simp [hc]))
    refine ⟨?_, fun j c hj => ?_⟩
    · show tailOf (at_ + needN b) l = _
      rw [h1, hb]
      simp only [List.length_cons]
      omega
    · rcases j with _ | j
      · have hj : some b = some c := hj
        injection hj with hj
        subst hj
        show some (at_, b) = some (at_ + 2 * ((0 : Nat) : Int), b)
        simp
      · have := h2 j c hj
        show (recsAt (at_ + needN b) l)[j]? = _
        rw [this, hb]
        congr 2
        omega
theorem rd_pieces : ∀ (n fr : Nat), fr + n ≤ 1000 → Cuts 1 (2 * (fr : Int)) ((List.range n).map fun j => rdB (fr + j)) ∧ ∀ j : Nat, j < 2 * n → (piecesAt 1 (2 * (fr : Int)) ((List.range n).map fun j => rdB (fr + j)))[j]? = some (rdP (2 * fr + j))
  | 0, fr, _ => ⟨trivial, fun j hj => by omega⟩
  | n + 1, fr, h => by
    have e : ((List.range (n + 1)).map fun j => rdB (fr + j)) = rdB fr :: ((List.range n).map fun j => rdB (fr + 1 + j)) := by
      rw [List.range_succ_eq_map, List.map_cons, List.map_map]
      congr 1
      apply List.map_congr_left
      intro j _
      show rdB (fr + (j + 1)) = rdB (fr + 1 + j)
      congr 1
      omega
    obtain ⟨h1, h2⟩ := rd_pieces n (fr + 1) (by omega)
    have e2 : 2 * (((fr + 1 : Nat)) : Int) = 2 * (fr : Int) + needN (rdB fr) := by rw [need_rd]; omega
    rw [e2] at h1 h2
    rw [e]
    refine ⟨⟨rd_cut fr (by omega), by rw [need_rd]; omega, h1⟩, fun j hj => ?_⟩
    show (cutAll 1 (2 * (fr : Int)) (rdB fr) ++ piecesAt 1 (2 * (fr : Int) + needN (rdB fr)) _)[j]? = _
    rw [rd_all]
    match j, hj with
    | 0, _ => rfl
    | 1, _ => rfl
    | j + 2, hj =>
      show (piecesAt 1 (2 * (fr : Int) + needN (rdB fr)) _)[j]? = _
      rw [h2 j (by omega)]
      congr 2
      omega

/-- what is found behind the head -/
theorem Rnd.found {k : Nat} {D : Dv} {fr i : Nat} (h : Rnd k D fr i) (hk : 4 ≤ k ∧ k ≤ 11) (hg : D.gone = false) {rs : List (Int × List UInt8)} {t : Int} (hf : Fnd (ringL D ⟨1, k, 2 * (fr : Int), 2 * (fr : Int)⟩) (2 * (fr : Int)) 2 rs t) :
    rs = recsAt (2 * (fr : Int)) (rdL fr i) ∧ t = 2 * (i : Int) := by
  obtain ⟨l1, l2, l3⟩ := h.le
  obtain ⟨c1, c2⟩ := rd_pieces (i - fr) fr (by omega)
  have hS : (Rg.mk 1 k (2 * (fr : Int)) (2 * (fr : Int))).S.toNat = k := rfl
  have hlenR : (ringL D ⟨1, k, 2 * (fr : Int), 2 * (fr : Int)⟩).length = k := by rw [length_ringL, hS]
  have hget : ∀ j : Nat, j < k → (ringL D ⟨1, k, 2 * (fr : Int), 2 * (fr : Int)⟩)[j]? = some (D.laid (sec ⟨1, k, 0, 0⟩ (2 * (fr : Int) + j))) := by
    intro j hj
    rw [ringL_get _ _ j (by rw [hS]; exact hj)]
    have := lread_sec (D := D) (R := ⟨1, k, 0, 0⟩) (by show (0 : Int) ≤ 1; decide) (by show (1 : Int) ≤ k; omega) (by rw [h.n16]; show (1 : Int) + k ≤ 16; omega) hg (2 * (fr : Int) + j)
    rw [h.late] at this
    exact congrArg some this
  have hfr : from_ (ringL D ⟨1, k, 2 * (fr : Int), 2 * (fr : Int)⟩) (2 * (fr : Int)) (2 * (fr : Int)) = ringL D ⟨1, k, 2 * (fr : Int), 2 * (fr : Int)⟩ := by
    unfold from_
    rw [Int.sub_self]
    rfl
  have hpl : ((piecesAt 1 (2 * (fr : Int)) (rdL fr i)).length : Int) = 2 * ((i - fr : Nat) : Int) := by
    have h1 := length_piecesAt 1 (rdL fr i) (2 * (fr : Int))
    have h2 := (two_each (rdL fr i) (2 * (fr : Int)) (fun b hb => by obtain ⟨j, _, rfl⟩ := List.mem_map.1 hb; exact need_rd _)).1
    rw [rdL_len] at h2
    omega
  have hpl2 : (piecesAt 1 (2 * (fr : Int)) (rdL fr i)).length = 2 * (i - fr) := by omega
  -- the sectors ahead of the tail are the records'; those behind stand for no place
  have hthere : ∀ j, j < 2 * (i - fr) → (ringL D ⟨1, k, 2 * (fr : Int), 2 * (fr : Int)⟩)[j]? = (piecesAt 1 (2 * (fr : Int)) (rdL fr i))[j]? := by
    intro j hj
    rw [hget j (by omega)]
    show _ = (piecesAt 1 (2 * (fr : Int)) ((List.range (i - fr)).map fun j => rdB (fr + j)))[j]?
    rw [c2 j hj]
    have := h.live (2 * fr + j) (by omega) (by omega)
    rw [show (((2 * fr + j : Nat)) : Int) = 2 * (fr : Int) + j by omega] at this
    rw [this]
  obtain ⟨bl, hbl⟩ : ∃ bl, bl = List.replicate (2 * (i - fr)) [] ++ (ringL D ⟨1, k, 2 * (fr : Int), 2 * (fr : Int)⟩).drop (2 * (i - fr)) := ⟨_, rfl⟩
  have hno : ∀ (j : Nat) y, bl[j]? = some y → readE y = 0 → (readP y).A ≠ 2 * (fr : Int) + j := by
    intro j y hy hr
    rw [hbl] at hy
    rcases Nat.lt_or_ge j (2 * (i - fr)) with hj | hj
    · rw [List.getElem?_append_left (by simpa using hj), List.getElem?_replicate, if_pos hj] at hy
      injection hy with hy
      rw [← hy] at hr
      exact absurd hr (by decide)
    · rw [List.getElem?_append_right (by simpa using hj), List.length_replicate, List.getElem?_drop, show 2 * (i - fr) + (j - 2 * (i - fr)) = j by omega] at hy
      have hjk : j < k := by rw [← hlenR]; exact (List.getElem?_eq_some_iff.1 hy).1
      rw [hget j hjk] at hy
      injection hy with hy
      rcases h.any (sec ⟨1, k, 0, 0⟩ (2 * (fr : Int) + j)) with g | ⟨a, g1, g2⟩
      · rw [← hy, g] at hr
        exact absurd hr zeros_bad
      · rw [← hy, g2, (rd_read a (by omega)).2.1]
        omega
  have hmix : Mix (from_ (ringL D ⟨1, k, 2 * (fr : Int), 2 * (fr : Int)⟩) (2 * (fr : Int)) (2 * (fr : Int))) bl (piecesAt 1 (2 * (fr : Int)) (rdL fr i)) := by
    rw [hfr]
    refine ⟨by rw [hbl, List.length_append, List.length_replicate, List.length_drop, hlenR]; omega, by rw [hlenR]; omega, fun j y hy => ?_⟩
    rcases Nat.lt_or_ge j (2 * (i - fr)) with hj | hj
    · right
      rw [← hthere j hj]
      exact hy
    · left
      rw [hbl, List.getElem?_append_right (by simpa using hj), List.length_replicate, List.getElem?_drop, show 2 * (i - fr) + (j - 2 * (i - fr)) = j by omega]
      exact hy
  have hgb : gatE bl (2 * (fr : Int)) ≠ 0 := by
    intro hg0
    obtain ⟨q1, _, _, _, qC, _, _, hz⟩ := gat_cnt hg0
    obtain ⟨y, hy, r0, rA, _⟩ := err_zero (hz 0 (by omega))
    exact hno 0 y hy r0 rA
  obtain ⟨kk, last', t', k1, k2, k3, k4, k5, _⟩ := find (ls := ringL D ⟨1, k, 2 * (fr : Int), 2 * (fr : Int)⟩) (H := 2 * (fr : Int)) (ep := 2) (e := 1) (by decide) (rdL fr i) (2 * (fr : Int)) 0 bl (rdL fr i).length (Int.le_refl _) c1 hmix (fun j y hy hr hA => absurd hA (hno j y hy hr)) (by decide) (.inr hgb) (Nat.le_refl _) (fun j hj => by
    rw [List.take_length, hpl2] at hj
    rw [hfr]
    exact hthere j hj)
  obtain ⟨e1, e2⟩ := hf.det ⟨last', k3, k4⟩
  have hkk : kk = (rdL fr i).length := Nat.le_antisymm k2 k1
  subst hkk
  rw [List.take_length] at e1 k5
  have e3 : ∀ (a b : Nat), b ≤ a → 2 * (b : Int) + 2 * ((a - b : Nat) : Int) = 2 * (a : Int) := fun a b h => by omega
  have h2 := (two_each (rdL fr i) (2 * (fr : Int)) (fun b hb => by obtain ⟨j, _, rfl⟩ := List.mem_map.1 hb; exact need_rd _)).1
  rw [rdL_len, e3 i fr l1] at h2
  exact ⟨e1, e2.trans (k5.trans h2)⟩

end Go.Proofs.Ytdjfahnnfhediaa
