/-
  A log by its words: which records are found in a ring's sectors, and what each call answers and leaves. No program.
-/
import Derived.Test.YtdjfahnnfhediaaGreatGatCut
import Derived.Test.YtdjfahnnfhediaaGreatRingA
import Derived.Test.YtdjfahnnfhediaaGreatDevA
namespace Go.Proofs.YtdjfahnnfhediaaGreat
set_option maxRecDepth 100000
open Go.RowKit Crc Wm

/-- what is gathered counts its pieces, and these are there -/
theorem gat_cnt {ls : List (List UInt8)} {at_ : Int} (h : gatE ls at_ = 0) : 1 ≤ gatC ls at_ ∧ gatC ls at_ ≤ ls.length ∧ gatC ls at_ ≤ 1024 ∧ headE ls = 0 ∧ gatC ls at_ = (headP ls).C ∧ gatEp ls at_ = (headP ls).E ∧ (0 ≤ (headP ls).E ∧ (headP ls).E ≤ 4294967295) ∧ ∀ i, i < (headP ls).C.toNat → errAt ls at_ (headP ls).E (headP ls).C i = 0 := by
  have h0 : headE ls = 0 := by
    by_cases h1 : headE ls = 0
    · exact h1
    · unfold gatE at h
      rw [if_pos h1] at h
      exact absurd h h1
  have hf : firstErr ls at_ (headP ls).E (headP ls).C (headP ls).C.toNat = 0 := by
    unfold gatE at h
    rwa [if_neg (by rw [h0]; exact fun h => h rfl)] at h
  have hz := (firstErr_zero _ _ _ _ _).1 hf
  have hc := count_bd ls h0
  have hC : gatC ls at_ = (headP ls).C := by unfold gatC; rw [if_pos h]
  have hE : gatEp ls at_ = (headP ls).E := by unfold gatEp; rw [if_pos h]
  refine ⟨by rw [hC]; exact hc.1, ?_, by rw [hC]; exact hc.2, h0, hC, hE, ?_, hz⟩
  · rw [hC]
    have hl := hz ((headP ls).C.toNat - 1) (by omega)
    unfold errAt at hl
    cases hx : ls[(headP ls).C.toNat - 1]? with
    | none => rw [hx] at hl; have h2 : (2 : Int) = 0 := hl; omega
    | some x =>
      have := (List.getElem?_eq_some_iff.1 hx).1
      omega
  · unfold headE headP at *
    rw [List.getD_eq_getElem?_getD]
    cases hx : ls[0]? with
    | none => rw [hx] at h0; have h2 : (2 : Int) = 0 := h0; omega
    | some x =>
      rw [hx] at h0
      exact (readP_may x h0).1

/-- what stands in a ring's sectors, by places from its head on -/
def ringL (D : Dv) (R : Rg) : List (List UInt8) := (List.range R.S.toNat).map fun (i : Nat) => D.read (R.F + (R.H + (i : Int)) % R.S)
theorem length_ringL (D : Dv) (R : Rg) : (ringL D R).length = R.S.toNat := by unfold ringL; simp
theorem ringL_get (D : Dv) (R : Rg) (i : Nat) (h : i < R.S.toNat) : (ringL D R)[i]? = some (D.read (R.F + (R.H + i) % R.S)) := by
  unfold ringL
  rw [List.getElem?_map, List.getElem?_range h]
  rfl

/-- the sectors from a place on -/
def from_ (ls : List (List UInt8)) (H at_ : Int) : List (List UInt8) := ls.drop (at_ - H).toNat

/-- does a record stand at a place, that counts behind one of the epoch last? -/
def counts (ls : List (List UInt8)) (H ep last at_ : Int) : Bool :=
  decide (gatE (from_ ls H at_) at_ = 0) && (decide (last ≤ gatEp (from_ ls H at_) at_) && (decide (gatEp (from_ ls H at_) at_ < ep) && decide (at_ + gatC (from_ ls H at_) at_ ≤ 1099511627776)))

/-- records are found one behind the other: from here to there -/
def Run (ls : List (List UInt8)) (H ep : Int) : Int → Int → List (Int × List UInt8) → Int → Int → Prop
  | last, at_, [], last', at' => last' = last ∧ at' = at_
  | last, at_, r :: rs, last', at' => counts ls H ep last at_ = true ∧ r = (at_, gatB (from_ ls H at_) at_) ∧ Run ls H ep (gatEp (from_ ls H at_) at_) (at_ + gatC (from_ ls H at_) at_) rs last' at'

/-- these are all of them -/
def Fnd (ls : List (List UInt8)) (H ep : Int) (rs : List (Int × List UInt8)) (t : Int) : Prop := ∃ last, Run ls H ep 0 H rs last t ∧ counts ls H ep last t = false

section
variable {ls : List (List UInt8)} {H ep : Int}
theorem Run.snoc : ∀ {rs : List (Int × List UInt8)} {last at_ last' at' : Int}, Run ls H ep last at_ rs last' at' → counts ls H ep last' at' = true → Run ls H ep last at_ (rs ++ [(at', gatB (from_ ls H at') at')]) (gatEp (from_ ls H at') at') (at' + gatC (from_ ls H at') at')
  | [], last, at_, last', at', h, hc => by
    obtain ⟨rfl, rfl⟩ := h
    exact ⟨hc, rfl, rfl, rfl⟩
  | r :: rs, last, at_, last', at', h, hc => ⟨h.1, h.2.1, Run.snoc h.2.2 hc⟩
theorem Run.append : ∀ {rs ss : List (Int × List UInt8)} {l0 a0 l1 a1 l2 a2 : Int}, Run ls H ep l0 a0 rs l1 a1 → Run ls H ep l1 a1 ss l2 a2 → Run ls H ep l0 a0 (rs ++ ss) l2 a2
  | [], ss, l0, a0, l1, a1, l2, a2, h, k => by obtain ⟨rfl, rfl⟩ := h; exact k
  | r :: rs, ss, l0, a0, l1, a1, l2, a2, h, k => ⟨h.1, h.2.1, Run.append h.2.2 k⟩
theorem Run.det : ∀ {rs ss : List (Int × List UInt8)} {last at_ l1 t1 l2 t2 : Int}, Run ls H ep last at_ rs l1 t1 → counts ls H ep l1 t1 = false → Run ls H ep last at_ ss l2 t2 → counts ls H ep l2 t2 = false → rs = ss ∧ t1 = t2
  | [], [], _, _, _, _, _, _, h, _, k, _ => by obtain ⟨_, rfl⟩ := h; obtain ⟨_, rfl⟩ := k; exact ⟨rfl, rfl⟩
  | [], s :: ss, _, _, _, _, _, _, h, hc, k, _ => by obtain ⟨rfl, rfl⟩ := h; rw [k.1] at hc; cases hc
  | r :: rs, [], _, _, _, _, _, _, h, _, k, kc => by obtain ⟨rfl, rfl⟩ := k; rw [h.1] at kc; cases kc
  | r :: rs, s :: ss, _, _, _, _, _, _, h, hc, k, kc => by
    obtain ⟨e1, e2⟩ := Run.det h.2.2 hc k.2.2 kc
    exact ⟨by rw [h.2.1, k.2.1, e1], e2⟩
theorem Fnd.det {rs ss : List (Int × List UInt8)} {t1 t2 : Int} (h : Fnd ls H ep rs t1) (k : Fnd ls H ep ss t2) : rs = ss ∧ t1 = t2 := by
  obtain ⟨l1, h1, h2⟩ := h
  obtain ⟨l2, k1, k2⟩ := k
  exact Run.det h1 h2 k1 k2

theorem counts_iff {last at_ : Int} : counts ls H ep last at_ = true ↔ gatE (from_ ls H at_) at_ = 0 ∧ last ≤ gatEp (from_ ls H at_) at_ ∧ gatEp (from_ ls H at_) at_ < ep ∧ at_ + gatC (from_ ls H at_) at_ ≤ 1099511627776 := by
  unfold counts
  simp only [Bool.and_eq_true, decide_eq_true_eq]
/-- what counts lies in the ring -/
theorem counts_in {last at_ : Int} (h : counts ls H ep last at_ = true) (h0 : H ≤ at_) (_h1 : at_ ≤ H + ls.length) : 1 ≤ gatC (from_ ls H at_) at_ ∧ at_ + gatC (from_ ls H at_) at_ ≤ H + ls.length ∧ at_ + gatC (from_ ls H at_) at_ ≤ 1099511627776 := by
  obtain ⟨g0, _, _, g3⟩ := counts_iff.1 h
  obtain ⟨c1, c2, _⟩ := gat_cnt g0
  refine ⟨c1, ?_, g3⟩
  have : (from_ ls H at_).length = ls.length - (at_ - H).toNat := by unfold from_; rw [List.length_drop]
  omega
/-- so many records, so many places at least -/
theorem Run.in_ : ∀ {rs : List (Int × List UInt8)} {last at_ last' at' : Int}, Run ls H ep last at_ rs last' at' → H ≤ at_ → at_ ≤ H + ls.length → at_ ≤ 1099511627776 → at_ + rs.length ≤ at' ∧ at' ≤ H + ls.length ∧ at' ≤ 1099511627776
  | [], _, _, _, _, h, h0, h1, h2 => by obtain ⟨_, rfl⟩ := h; simp only [List.length_nil]; omega
  | r :: rs, _, _, _, _, h, h0, h1, h2 => by
    obtain ⟨c1, c2, c3⟩ := counts_in h.1 h0 h1
    have := Run.in_ h.2.2 (by omega) c2 c3
    simp only [List.length_cons]
    omega
theorem Fnd.in_ {rs : List (Int × List UInt8)} {t : Int} (h : Fnd ls H ep rs t) (h2 : H ≤ 1099511627776) : H + rs.length ≤ t ∧ t ≤ H + ls.length ∧ t ≤ 1099511627776 := by
  obtain ⟨l, h, _⟩ := h
  exact h.in_ (Int.le_refl _) (by omega) h2
end

/-- a log -/
structure Lg where
  R : Rg
  E : Int
  safe : Int
  broken : Bool

/-- sectors are written at places from at on: the first n of them -/
def putTo (R : Rg) (at_ : Int) (ls : List (List UInt8)) (D : Dv) : Nat → Dv
  | 0 => D
  | n + 1 => (putTo R at_ ls D n).write (R.F + (at_ + n) % R.S) (ls.getD n [])

/-- may there be a log? -/
def openE (D : Dv) (F S H E : Int) : Int := if D.gone = true then 11 else if 0 ≤ F ∧ 1 ≤ S ∧ F + S ≤ D.n ∧ 0 ≤ H ∧ H ≤ 1099511627776 ∧ 1 ≤ E ∧ E ≤ 4294967295 then 0 else 1

namespace Lg
/-- it lies on a device -/
structure On (G : Lg) (D : Dv) : Prop where
  ok : G.R.Ok
  fit : G.R.F + G.R.S ≤ D.n
  e : 1 ≤ G.E ∧ G.E ≤ 4294967295
  safe : 0 ≤ G.safe ∧ G.safe ≤ 1099511627776

/-- what Append says ahead of its writes -/
def preE (G : Lg) (b : List UInt8) : Int := if G.broken = true then 11 else if cutE G.E G.R.T b ≠ 0 then cutE G.E G.R.T b else G.R.takeE (needN b)
def appD (G : Lg) (D : Dv) (b : List UInt8) : Dv := if G.preE b = 0 then putTo G.R G.R.T (cutAll G.E G.R.T b) D (needN b) else D
def appE (G : Lg) (D : Dv) (b : List UInt8) : Int := if G.preE b = 0 then (if (G.appD D b).gone = true then 11 else 0) else G.preE b
def appG (G : Lg) (D : Dv) (b : List UInt8) : Lg := if G.preE b = 0 then (if (G.appD D b).gone = true then { G with broken := true } else { G with R := ⟨G.R.F, G.R.S, G.R.H, G.R.T + needN b⟩ }) else G
def appAt (G : Lg) (D : Dv) (b : List UInt8) : Int := if G.appE D b = 0 then G.R.T else 0

def forE (G : Lg) (D : Dv) : Int := if G.broken = true then 11 else D.flushE
def forD (G : Lg) (D : Dv) : Dv := if G.broken = true then D else D.flush
def forG (G : Lg) (D : Dv) : Lg := if G.broken = true then G else if D.flushE ≠ 0 then { G with broken := true } else { G with safe := G.R.T }

def dropE (G : Lg) (to_ : Int) : Int := if G.broken = true then 11 else G.R.dropE to_
def dropG (G : Lg) (to_ : Int) : Lg := if G.dropE to_ = 0 then { G with R := ⟨G.R.F, G.R.S, to_, G.R.T⟩ } else G

section
variable {G : Lg} {D : Dv}
theorem On.dev (h : G.On D) {D' : Dv} (hn : D'.n = D.n) : G.On D' := ⟨h.ok, by rw [hn]; exact h.fit, h.e, h.safe⟩
theorem On.broke (h : G.On D) : ({ G with broken := true } : Lg).On D := ⟨h.ok, h.fit, h.e, h.safe⟩

theorem putTo_n (R : Rg) (at_ : Int) (ls : List (List UInt8)) (D : Dv) : ∀ n, (putTo R at_ ls D n).n = D.n
  | 0 => rfl
  | n + 1 => by rw [putTo, Dv.write_n, putTo_n R at_ ls D n]
theorem putTo_spent (R : Rg) (at_ : Int) (ls : List (List UInt8)) (D : Dv) : ∀ n, (putTo R at_ ls D n).spent ≤ D.spent + n
  | 0 => Nat.le_refl _
  | n + 1 => by
    have := putTo_spent R at_ ls D n
    have h := Dv.write_spent (D := putTo R at_ ls D n) (R.F + (at_ + n) % R.S) (ls.getD n [])
    rw [putTo]
    omega
theorem putTo_ok (R : Rg) (at_ : Int) (ls : List (List UInt8)) {D : Dv} (h : D.Ok) : ∀ n, (putTo R at_ ls D n).Ok
  | 0 => h
  | n + 1 => (putTo_ok R at_ ls h n).write _ _
theorem write_gone {D : Dv} (h : D.gone = true) (at_ : Int) (b : List UInt8) : D.write at_ b = D := by unfold Dv.write; rw [if_pos h]
theorem putTo_gone (R : Rg) (at_ : Int) (ls : List (List UInt8)) (D : Dv) {n : Nat} (h : (putTo R at_ ls D n).gone = true) : ∀ m, n ≤ m → putTo R at_ ls D m = putTo R at_ ls D n
  | 0, hm => by obtain rfl : n = 0 := by omega
                rfl
  | m + 1, hm => by
    rcases Nat.lt_or_ge m n with h1 | h1
    · obtain rfl : n = m + 1 := by omega
      rfl
    · rw [putTo, putTo_gone R at_ ls D h m h1, write_gone h]
/-- a write that may be: it is done, or the device is gone -/
theorem write_two {D : Dv} {at_ : Int} {b : List UInt8} (ha : D.has at_ = true) (hb : b.length ≤ 64) : D.writeE at_ b = if (D.write at_ b).gone = true then 11 else 0 := by
  unfold Dv.writeE Dv.write
  by_cases hg : D.gone = true
  · rw [if_pos hg, if_pos hg, if_pos hg]
  · rw [if_neg hg, if_neg hg, ha, decide_eq_true hb]
    by_cases hl : D.left = 0
    · simp only [Bool.and_self, if_true, if_pos hl]
      rfl
    · simp only [Bool.and_self, if_true, if_neg hl]
      rw [if_neg (show ¬ (D.more.put at_.toNat (Dv.pad b)).gone = true from hg)]
theorem On.has (h : G.On D) (at_ : Int) : D.has (G.R.F + at_ % G.R.S) = true := by
  have h1 := h.ok.s0
  have h2 := h.fit
  have h3 := h.ok.f0
  have h4 := Int.emod_nonneg at_ (b := G.R.S) (by omega)
  have h5 := Int.emod_lt_of_pos at_ (b := G.R.S) (by omega)
  unfold Dv.has
  rw [decide_eq_true (by omega), decide_eq_true (by omega)]
  rfl
theorem On.sector (h : G.On D) {at_ : Int} (h0 : 0 ≤ at_) (h1 : at_ ≤ 2199023255552) : G.R.sector at_ = G.R.F + at_ % G.R.S := by
  unfold Rg.sector Rg.asked
  rw [Rg.sane_iff.2 h.ok, decide_eq_true h0, decide_eq_true h1]
  rfl
end
end Lg
end Go.Proofs.YtdjfahnnfhediaaGreat
