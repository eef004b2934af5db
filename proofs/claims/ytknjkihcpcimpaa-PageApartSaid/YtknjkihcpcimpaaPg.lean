/-
  Blocks and counters in sectors, by their words alone: what is laid, what bytes tell; there and back, one bit turned, apart. No program.
-/
import Derived.Test.YtknjkihcpcimpaaSgn
namespace Go.Proofs.Ytknjkihcpcimpaa
set_option maxRecDepth 100000
open Go.RowKit Crc Wm

namespace Pg

/-- may a place in the log be? -/
def Lsn (n : Int) : Prop := 0 ≤ n ∧ n ≤ 2199023255552
instance (n : Int) : Decidable (Lsn n) := by unfold Lsn; infer_instance

/-- a cell -/
structure Ce where
  V : Int
  L : Int
deriving DecidableEq
def Ce.zero : Ce := ⟨0, 0⟩
def Ce.Wf (c : Ce) : Prop := (-9223372036854775808 ≤ c.V ∧ c.V ≤ 9223372036854775807) ∧ (-9223372036854775808 ≤ c.L ∧ c.L ≤ 9223372036854775807)

/-- three of them -/
structure C3 where
  a : Ce
  b : Ce
  c : Ce
deriving DecidableEq
def C3.zero : C3 := ⟨.zero, .zero, .zero⟩
def C3.at_ (x : C3) (i : Nat) : Ce := if i = 0 then x.a else if i = 1 then x.b else x.c
def C3.Wf (x : C3) : Prop := x.a.Wf ∧ x.b.Wf ∧ x.c.Wf
def C3.May (x : C3) : Prop := Lsn x.a.L ∧ Lsn x.b.L ∧ Lsn x.c.L
instance (x : C3) : Decidable x.May := by unfold C3.May; infer_instance

/-- bytes with zeros up to 60, and their sum -/
def body (h : List UInt8) : List UInt8 := h ++ List.replicate (60 - h.length) 0
def sect (h : List UInt8) : List UInt8 := sealB (body h)
theorem length_body {h : List UInt8} (hh : h.length ≤ 60) : (body h).length = 60 := by
  unfold body
  rw [List.length_append, List.length_replicate]
  omega
theorem length_sect {h : List UInt8} (hh : h.length ≤ 60) : (sect h).length = 64 := by
  unfold sect
  rw [length_seal, length_body hh]

/-- a block's sector -/
def blkH (n : Int) (d : List UInt8) : List UInt8 := 66 :: 0 :: (putB 6 n.toNat ++ d)
def blkE (n : Int) (d : List UInt8) : Int := if Lsn n ∧ d.length = 32 then 0 else 1
def blkB (n : Int) (d : List UInt8) : List UInt8 := if Lsn n ∧ d.length = 32 then sect (blkH n d) else []
theorem length_blkH (n : Int) (d : List UInt8) (h : d.length = 32) : (blkH n d).length = 40 := by
  unfold blkH
  rw [List.length_cons, List.length_cons, List.length_append, length_putB, h]
theorem length_blk (n : Int) (d : List UInt8) (h : d.length = 32) : (sect (blkH n d)).length = 64 := length_sect (by rw [length_blkH n d h]; omega)

/-- a sector of counters: the first n cells -/
def celB (c : Ce) : List UInt8 := putB 8 (sgn c.V) ++ putB 6 c.L.toNat
def celTo (x : C3) : Nat → List UInt8
  | 0 => [67, 0]
  | n + 1 => celTo x n ++ celB (x.at_ n)
theorem length_celB (c : Ce) : (celB c).length = 14 := by unfold celB; rw [List.length_append, length_putB, length_putB]
theorem length_celTo (x : C3) : ∀ n, (celTo x n).length = 2 + 14 * n
  | 0 => rfl
  | n + 1 => by unfold celTo; rw [List.length_append, length_celTo x n, length_celB]; omega
def celE (x : C3) : Int := if x.May then 0 else 1
def celS (x : C3) : List UInt8 := if x.May then sect (celTo x 3) else []
theorem length_cel (x : C3) : (sect (celTo x 3)).length = 64 := length_sect (by rw [length_celTo]; omega)

/-- a sector of nothing -/
def nil64 : List UInt8 := List.replicate 64 0
theorem length_nil64 : nil64.length = 64 := List.length_replicate

/-- why may bytes be no sector? -/
def whyE (l : List UInt8) : Int := if l.length < 64 then 2 else if 64 < l.length then 3 else if l = nil64 then 0 else if whole l 60 = true then 0 else 4
def whyZ (l : List UInt8) : Bool := l == nil64
theorem whyE_short {l : List UInt8} (h : l.length < 64) : whyE l = 2 := by unfold whyE; rw [if_pos h]
theorem whyE_long {l : List UInt8} (h : 64 < l.length) : whyE l = 3 := by unfold whyE; rw [if_neg (by omega), if_pos h]
theorem whyE_nil : whyE nil64 = 0 := by unfold whyE; rw [if_neg (by rw [length_nil64]; omega), if_neg (by rw [length_nil64]; omega), if_pos rfl]
theorem whyE_ok {l : List UInt8} (h : l.length = 64) (hw : whole l 60 = true) : whyE l = 0 := by
  unfold whyE; rw [if_neg (by omega), if_neg (by omega)]
  split
  · rfl
  · first | rfl | rw [if_pos hw]
theorem whyE_no {l : List UInt8} (h : l.length = 64) (hn : l ≠ nil64) (hw : whole l 60 = false) : whyE l = 4 := by
  unfold whyE; rw [if_neg (by omega), if_neg (by omega), if_neg hn, if_neg (by rw [hw]; decide)]
theorem whyE_len {l : List UInt8} (h : whyE l = 0) : l.length = 64 := by
  rcases Nat.lt_trichotomy l.length 64 with h1 | h1 | h1
  · rw [whyE_short h1] at h; omega
  · exact h1
  · rw [whyE_long h1] at h; omega
theorem whyZ_len {l : List UInt8} (h : l.length ≠ 64) : whyZ l = false := by
  unfold whyZ
  rw [beq_eq_false_iff_ne]
  intro e
  rw [e, length_nil64] at h
  exact h rfl

/-- what bytes tell of a block -/
def tellN (l : List UInt8) : Nat := valB ((l.drop 2).take 6)
def tellD (l : List UInt8) : List UInt8 := (l.drop 8).take 32
def obE (l : List UInt8) : Int := if whyE l = 0 then (if l = nil64 then 0 else if Lsn (tellN l) ∧ sect (blkH (tellN l) (tellD l)) = l then 0 else 3) else whyE l
def obN (l : List UInt8) : Int := if obE l = 0 then (if l = nil64 then 0 else (tellN l : Int)) else 0
def obD (l : List UInt8) : List UInt8 := if obE l = 0 then (if l = nil64 then List.replicate 32 0 else tellD l) else []
theorem length_tellD {l : List UInt8} (h : l.length = 64) : (tellD l).length = 32 := by unfold tellD; rw [List.length_take, List.length_drop, h]; rfl
theorem tellN_lt {l : List UInt8} : tellN l < 281474976710656 := by
  refine Nat.lt_of_lt_of_le (valB_lt _) ?_
  have h : ((l.drop 2).take 6).length ≤ 6 := by rw [List.length_take]; omega
  exact Nat.le_trans (Nat.pow_le_pow_right (by omega) h) (by decide)
theorem obE_why {l : List UInt8} (h : whyE l ≠ 0) : obE l = whyE l := by unfold obE; rw [if_neg h]
theorem obE_nil : obE nil64 = 0 := by unfold obE; rw [whyE_nil, if_pos rfl, if_pos rfl]
theorem obE_rest {l : List UInt8} (h : whyE l = 0) (hn : l ≠ nil64) : obE l = if Lsn (tellN l) ∧ sect (blkH (tellN l) (tellD l)) = l then 0 else 3 := by unfold obE; rw [if_pos h, if_neg hn]
theorem obN_not {l : List UInt8} (h : obE l ≠ 0) : obN l = 0 ∧ obD l = [] := by unfold obN obD; rw [if_neg h, if_neg h]; exact ⟨rfl, rfl⟩
theorem obN_nil : obN nil64 = 0 ∧ obD nil64 = List.replicate 32 0 := by unfold obN obD; rw [obE_nil, if_pos rfl, if_pos rfl, if_pos rfl, if_pos rfl]; exact ⟨rfl, rfl⟩
theorem obN_ok {l : List UInt8} (h : obE l = 0) (hn : l ≠ nil64) : obN l = (tellN l : Int) ∧ obD l = tellD l := by unfold obN obD; rw [if_pos h, if_pos h, if_neg hn, if_neg hn]; exact ⟨rfl, rfl⟩

/-- what bytes tell of counters -/
def tellC (l : List UInt8) (i : Nat) : Ce := ⟨sgnI (valB ((l.drop (2 + 14 * i)).take 8) : Int), (valB ((l.drop (10 + 14 * i)).take 6) : Nat)⟩
def tell3 (l : List UInt8) : C3 := ⟨tellC l 0, tellC l 1, tellC l 2⟩
theorem tell3_at (l : List UInt8) (i : Nat) (h : i < 3) : (tell3 l).at_ i = tellC l i := by
  rcases i with _ | _ | _ | i <;> first | omega | rfl
def ocE (l : List UInt8) : Int := if whyE l = 0 then (if l = nil64 then 0 else if (tell3 l).May ∧ sect (celTo (tell3 l) 3) = l then 0 else 3) else whyE l
def oc3 (l : List UInt8) : C3 := if ocE l = 0 then (if l = nil64 then .zero else tell3 l) else .zero
theorem ocE_why {l : List UInt8} (h : whyE l ≠ 0) : ocE l = whyE l := by unfold ocE; rw [if_neg h]
theorem ocE_nil : ocE nil64 = 0 := by unfold ocE; rw [whyE_nil, if_pos rfl, if_pos rfl]
theorem ocE_rest {l : List UInt8} (h : whyE l = 0) (hn : l ≠ nil64) : ocE l = if (tell3 l).May ∧ sect (celTo (tell3 l) 3) = l then 0 else 3 := by unfold ocE; rw [if_pos h, if_neg hn]
theorem oc3_not {l : List UInt8} (h : ocE l ≠ 0) : oc3 l = .zero := by unfold oc3; rw [if_neg h]
theorem oc3_nil : oc3 nil64 = .zero := by unfold oc3; rw [ocE_nil, if_pos rfl, if_pos rfl]
theorem oc3_ok {l : List UInt8} (h : ocE l = 0) (hn : l ≠ nil64) : oc3 l = tell3 l := by unfold oc3; rw [if_pos h, if_neg hn]

/-- a sector that is laid is whole, and begins as it was laid -/
theorem sect_whole {h : List UInt8} (hh : h.length ≤ 60) : whole (sect h) 60 = true := whole_sealB _ 60 (length_body hh)
theorem sect_app (h : List UInt8) : ∃ r, sect h = h ++ r := ⟨List.replicate (60 - h.length) 0 ++ sum4 (body h), by unfold sect sealB; rw [show body h = h ++ List.replicate (60 - h.length) 0 from rfl, List.append_assoc]⟩
theorem sect_ne {h : List UInt8} {x : UInt8} {t : List UInt8} (hh : h = x :: t) (hx : x ≠ 0) : sect h ≠ nil64 := by
  obtain ⟨r, hr⟩ := sect_app h
  rw [hr, hh]
  intro e
  have e0 := congrArg (fun l : List UInt8 => l[0]?) e
  simp only [List.cons_append, List.getElem?_cons_zero] at e0
  have e1 : nil64[0]? = some 0 := by decide
  rw [e1] at e0
  injection e0 with e0
  exact hx e0

theorem tell_blk (n : Int) (d : List UInt8) (hn : Lsn n) (hd : d.length = 32) : (tellN (sect (blkH n d)) : Int) = n ∧ tellD (sect (blkH n d)) = d := by
  obtain ⟨r, hr⟩ := sect_app (blkH n d)
  obtain ⟨h0, h1⟩ := hn
  rw [hr]
  unfold tellN tellD blkH
  constructor
  · rw [show (66 :: 0 :: (putB 6 n.toNat ++ d) ++ r).drop 2 = putB 6 n.toNat ++ (d ++ r) from by simp, List.take_left' (length_putB _ _), val_putB_fit _ _ (by omega), Int.toNat_of_nonneg h0]
  · have h8 : (66 :: 0 :: (putB 6 n.toNat ++ d) ++ r).drop 8 = d ++ r := by
      have hl : (66 :: 0 :: putB 6 n.toNat).length = 8 := by simp [length_putB]
      rw [show 66 :: 0 :: (putB 6 n.toNat ++ d) ++ r = (66 :: 0 :: putB 6 n.toNat) ++ (d ++ r) from by simp, ← hl, List.drop_left]
    rw [h8, List.take_left' hd]

/-- there and back -/
theorem blk_back (n : Int) (d : List UInt8) (hn : Lsn n) (hd : d.length = 32) : obE (sect (blkH n d)) = 0 ∧ obN (sect (blkH n d)) = n ∧ obD (sect (blkH n d)) = d ∧ ocE (sect (blkH n d)) = 3 := by
  have hw : whyE (sect (blkH n d)) = 0 := whyE_ok (length_blk n d hd) (sect_whole (by rw [length_blkH n d hd]; omega))
  have hz : sect (blkH n d) ≠ nil64 := sect_ne (x := 66) rfl (by decide)
  obtain ⟨h1, h2⟩ := tell_blk n d hn hd
  have h0 : obE (sect (blkH n d)) = 0 := by
    rw [obE_rest hw hz, h1, h2, if_pos ⟨hn, rfl⟩]
  refine ⟨h0, by rw [(obN_ok h0 hz).1, h1], by rw [(obN_ok h0 hz).2, h2], ?_⟩
  rw [ocE_rest hw hz, if_neg]
  rintro ⟨_, e⟩
  obtain ⟨r, hr⟩ := sect_app (blkH n d)
  obtain ⟨q, hq⟩ := sect_app (celTo (tell3 (sect (blkH n d))) 3)
  have e0 := congrArg (fun l : List UInt8 => l[0]?) e
  rw [hq] at e0
  rw [hr] at e0
  simp [celTo, blkH] at e0

theorem cel_at (x : C3) (r : List UInt8) : ∀ n, ∀ i, i < n → (celTo x n ++ r).drop (2 + 14 * i) = celB (x.at_ i) ++ ((celTo x n ++ r).drop (2 + 14 * (i + 1)))
  | 0, _, h => by omega
  | n + 1, i, h => by
    show (celTo x n ++ celB (x.at_ n) ++ r).drop _ = _ ++ (celTo x n ++ celB (x.at_ n) ++ r).drop _
    rw [List.append_assoc]
    rcases Nat.lt_or_ge i n with h1 | h1
    · exact cel_at x _ n i h1
    · obtain rfl : i = n := by omega
      have h2 := length_celTo x i
      rw [← h2, List.drop_left]
      have h3 : (celTo x i ++ (celB (x.at_ i) ++ r)).drop (2 + 14 * (i + 1)) = r := by
        have h4 : (celTo x i ++ celB (x.at_ i)).length = 2 + 14 * (i + 1) := by rw [List.length_append, h2, length_celB]; omega
        rw [← List.append_assoc, ← h4, List.drop_left]
      rw [h3]

theorem Ce.ext2 {a b : Ce} (h1 : a.V = b.V) (h2 : a.L = b.L) : a = b := by cases a; cases b; simp_all

theorem tellC_app (x : C3) (r : List UInt8) (i : Nat) (hi : i < 3) (hv : -9223372036854775808 ≤ (x.at_ i).V ∧ (x.at_ i).V ≤ 9223372036854775807) (hl : Lsn (x.at_ i).L) : tellC (celTo x 3 ++ r) i = x.at_ i := by
  have h := cel_at x r 3 i hi
  obtain ⟨s1, s2⟩ := sgn_back _ hv.1 hv.2
  obtain ⟨l1, l2⟩ := hl
  refine Ce.ext2 ?_ ?_
  · show sgnI (valB (((celTo x 3 ++ r).drop (2 + 14 * i)).take 8) : Int) = _
    rw [h]
    unfold celB
    rw [List.append_assoc, List.take_left' (length_putB _ _), val_putB_fit _ _ (by omega)]
    exact s1
  · show ((valB (((celTo x 3 ++ r).drop (10 + 14 * i)).take 6) : Nat) : Int) = _
    rw [show 10 + 14 * i = (2 + 14 * i) + 8 from by omega, ← List.drop_drop, h]
    unfold celB
    rw [List.append_assoc]
    rw [List.drop_left' (length_putB _ _), List.take_left' (length_putB _ _), val_putB_fit _ _ (by omega), Int.toNat_of_nonneg l1]

theorem C3.at_wf {x : C3} (h : x.Wf) (i : Nat) : (x.at_ i).Wf := by
  unfold C3.at_
  split
  · exact h.1
  · split
    · exact h.2.1
    · exact h.2.2
theorem C3.at_may {x : C3} (h : x.May) (i : Nat) : Lsn (x.at_ i).L := by
  unfold C3.at_
  split
  · exact h.1
  · split
    · exact h.2.1
    · exact h.2.2

theorem tell_cel (x : C3) (hw : x.Wf) (hm : x.May) : tell3 (sect (celTo x 3)) = x := by
  obtain ⟨r, hr⟩ := sect_app (celTo x 3)
  rw [hr]
  unfold tell3
  rw [tellC_app x r 0 (by omega) (x.at_wf hw 0).1 (x.at_may hm 0), tellC_app x r 1 (by omega) (x.at_wf hw 1).1 (x.at_may hm 1), tellC_app x r 2 (by omega) (x.at_wf hw 2).1 (x.at_may hm 2)]
  rfl

theorem celTo_cons (x : C3) : ∀ n, ∃ t, celTo x n = 67 :: t
  | 0 => ⟨_, rfl⟩
  | n + 1 => by obtain ⟨t, ht⟩ := celTo_cons x n; exact ⟨t ++ celB (x.at_ n), by unfold celTo; rw [ht, List.cons_append]⟩

theorem cel_back (x : C3) (hx : x.Wf) (hm : x.May) : ocE (sect (celTo x 3)) = 0 ∧ oc3 (sect (celTo x 3)) = x ∧ obE (sect (celTo x 3)) = 3 := by
  have hw : whyE (sect (celTo x 3)) = 0 := whyE_ok (length_cel x) (sect_whole (by rw [length_celTo]; omega))
  obtain ⟨t, ht⟩ := celTo_cons x 3
  have hz : sect (celTo x 3) ≠ nil64 := sect_ne ht (by decide)
  have h1 := tell_cel x hx hm
  have h0 : ocE (sect (celTo x 3)) = 0 := by rw [ocE_rest hw hz, h1, if_pos ⟨hm, rfl⟩]
  refine ⟨h0, by rw [oc3_ok h0 hz, h1], ?_⟩
  rw [obE_rest hw hz, if_neg]
  rintro ⟨_, e⟩
  obtain ⟨r, hr⟩ := sect_app (celTo x 3)
  obtain ⟨q, hq⟩ := sect_app (blkH (tellN (sect (celTo x 3))) (tellD (sect (celTo x 3))))
  have e0 := congrArg (fun l : List UInt8 => l[0]?) e
  rw [hq] at e0
  rw [hr, ht] at e0
  simp [blkH] at e0

/-- one byte turned is told -/
theorem turned (h : List UInt8) (x : UInt8) (t : List UInt8) (hh : h = x :: t) (hx : x = 66 ∨ x = 67) (hl : h.length ≤ 60) (i : Nat) (y : UInt8) (hi : i < (sect h).length) (hy : y ≠ (sect h)[i]) : whyE ((sect h).set i y) = 4 := by
  have hs := length_sect hl
  refine whyE_no (by rw [List.length_set]; exact hs) ?_ (turned_spoilt (body h) 60 i y (length_body hl) hi hy)
  intro e
  obtain ⟨r, hr⟩ := sect_app h
  have hx0 : x ≠ 0 := by rcases hx with rfl | rfl <;> decide
  have g0 : (sect h)[0]? = some x := by rw [hr, hh]; rfl
  have n0 : ∀ j, j < 64 → nil64[j]? = some 0 := fun j hj => by unfold nil64; rw [List.getElem?_replicate, if_pos hj]
  have ge : ∀ j, j < 64 → j ≠ i → (sect h)[j]? = some 0 := fun j hj hne => by
    have this : ((sect h).set i y)[j]? = nil64[j]? := by rw [e]
    rw [List.getElem?_set_ne (fun a => hne a.symm), n0 j hj] at this
    exact this
  rcases Nat.eq_zero_or_pos i with rfl | hp
  · have hb : body h = x :: List.replicate 59 0 := by
      apply List.ext_getElem?
      intro j
      rcases Nat.lt_or_ge j 60 with hj | hj
      · have hsj : (sect h)[j]? = (body h)[j]? := by unfold sect sealB; rw [List.getElem?_append_left (by rw [length_body hl]; exact hj)]
        rw [← hsj]
        rcases j with _ | j
        · rw [g0]; rfl
        · rw [ge (j + 1) (by omega) (by omega), List.getElem?_cons_succ, List.getElem?_replicate, if_pos (by omega)]
      · rw [List.getElem?_eq_none (by rw [length_body hl]; exact hj), List.getElem?_eq_none (by simp; omega)]
    have hsum : sum4 (body h) = [0, 0, 0, 0] := by
      apply List.ext_getElem?
      intro j
      rcases Nat.lt_or_ge j 4 with hj | hj
      · have h60 : (sect h)[60 + j]? = (sum4 (body h))[j]? := by unfold sect sealB; rw [List.getElem?_append_right (by rw [length_body hl]; omega), length_body hl, Nat.add_sub_cancel_left]
        rw [← h60, ge (60 + j) (by omega) (by omega)]
        rcases j with _ | _ | _ | _ | j <;> first | rfl | omega
      · rw [List.getElem?_eq_none (by rw [length_sum4]; exact hj), List.getElem?_eq_none (by simpa using hj)]
    rw [hb] at hsum
    rcases hx with rfl | rfl
    · exact absurd hsum (by decide +kernel)
    · exact absurd hsum (by decide +kernel)
  · have := ge 0 (by omega) (by omega)
    rw [g0] at this
    injection this with this
    exact hx0 this

/-- apart -/
theorem blk_apart (m n : Int) (a b : List UInt8) (hm : Lsn m) (hn : Lsn n) (ha : a.length = 32) (hb : b.length = 32) : sect (blkH m a) = sect (blkH n b) ↔ a = b ∧ m = n := by
  constructor
  · intro e
    obtain ⟨_, h1, h2, _⟩ := blk_back m a hm ha
    obtain ⟨_, k1, k2, _⟩ := blk_back n b hn hb
    rw [e] at h1 h2
    exact ⟨h2.symm.trans k2, h1.symm.trans k1⟩
  · rintro ⟨rfl, rfl⟩; rfl
theorem cel_apart (x y : C3) (hx : x.Wf) (hy : y.Wf) (mx : x.May) (my : y.May) : sect (celTo x 3) = sect (celTo y 3) ↔ x = y := by
  constructor
  · intro e
    have h := tell_cel x hx mx
    rw [e, tell_cel y hy my] at h
    exact h.symm
  · rintro rfl; rfl

end Pg
end Go.Proofs.Ytknjkihcpcimpaa
