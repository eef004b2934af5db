/-
  EscrowAll: the statement, out of its walk: for every input the law returns true, and each argument reads as it read. No condition.
-/
import Derived.Test.YtogngghfdcpeaaaKs
import Derived.Test.YtogngghfdcpeaaaKo
import Derived.Test.YtogngghfdcpeaaaRow13
namespace Go.Proofs.Ytogngghfdcpeaaa
set_option maxRecDepth 100000
set_option linter.unusedVariables false
set_option linter.unusedSimpArgs false
open Go.RowKit

theorem and31 (n : Int) : bits .and .i64 n 31 = n % 32 := by
  show IntKind.i64.wrap ((BitVec.ofInt 64 n &&& BitVec.ofInt 64 31).toNat : Int) = _
  have h : ((BitVec.ofInt 64 n).toNat : Int) = n % ((2 : Nat) ^ 64 : Nat) := by
    rw [BitVec.toNat_ofInt]
    have : (0 : Int) ≤ n % ((2 : Nat) ^ 64 : Nat) := Int.emod_nonneg _ (by decide)
    rw [Int.toNat_of_nonneg this]
  rw [BitVec.toNat_and, show (BitVec.ofInt 64 31).toNat = 2 ^ 5 - 1 from rfl, Nat.and_two_pow_sub_one_eq_mod]
  rw [IntKind.wrap_i64]
  omega

/-- so many top ones -/
def tops : Nat → Tr
  | 0 => ⟨[], 0⟩
  | i + 1 => (tops i).begun (-1)
theorem tops_len (i : Nat) : (tops i).l.length = i := by
  induction i with
  | zero => rfl
  | succ i ih => show ((tops i).begun (-1)).l.length = _; rw [len_begun, ih]
theorem tops_c (i : Nat) : (tops i).c = (i : Int) := by
  induction i with
  | zero => rfl
  | succ i ih => show (tops i).c + 1 = _; rw [ih]; omega
theorem tops_good (i : Nat) (h : i ≤ 60) : Good (tops i) := by
  induction i with
  | zero => exact good_nil
  | succ i ih => exact (ih (by omega)).begun (mayb _ (by rw [tops_len]; omega))
theorem tops_live (i : Nat) : ((tops (i + 1)).tx i).s = 1 := by
  have h := tx_begun_new (T := tops i) (p := -1)
  rw [tops_len] at h
  show (((tops i).begun (-1)).tx i).s = 1
  rw [h]

structure AllF (t : Tb) (i : Nat) (s : Int) : Prop where
  o : One t (-50) 50 0
  s : sF Pd.u t.P + sF Pd.d t.P = s
  x : ∀ p ∈ t.P, p.x < (i : Int)
  n : t.P.length ≤ i
def cA : List Ct := [⟨-50, 50, 0⟩]
theorem all0 : AllF ⟨cA, []⟩ 0 0 := ⟨⟨rfl, by simp, List.Pairwise.nil, by simp, by decide, by decide, by decide, by decide⟩, rfl, by simp, by simp⟩
theorem AllF.bd {t : Tb} {i : Nat} {s : Int} (h : AllF t i s) : -50 ≤ s ∧ s ≤ 50 := by
  have h1 := h.o.h
  have h2 := h.o.l
  have h3 := h.o.nn
  have h4 := h.s
  omega
theorem AllF.step {t : Tb} {i : Nat} {s : Int} (h : AllF t i s) (hi : i < 40) (z : Int) (hz : -16 ≤ z ∧ z ≤ 15) :
    (t.addE (tops (i + 1)) (i : Int) 0 z = 0 ∧ AllF (t.addT (tops (i + 1)) (i : Int) 0 z) (i + 1) (s + z)) ∨ t.addE (tops (i + 1)) (i : Int) 0 z = 8 := by
  have he := h.o.addE (tops_len (i + 1)) (x := (i : Int)) (by omega) (by rw [Int.toNat_natCast]; exact tops_live i) z
  cases hf : t.fits 0 z with
  | false => rw [hf] at he; exact .inr he
  | true =>
    rw [hf, if_pos rfl] at he
    obtain ⟨h1, h2⟩ := h.o.addT (T := tops (i + 1)) (x := (i : Int)) (z := z) (by omega) (by omega) h.x (by have := h.n; omega) he hf
    refine .inl ⟨he, ?_⟩
    rw [h1]
    obtain ⟨b1, b2⟩ := bit_sum (i : Int) z
    refine ⟨h2, ?_, ?_, ?_⟩
    · have := h.s
      simp only [sF_app, b1, b2]; omega
    · intro p hp
      rcases List.mem_append.1 hp with hp | hp
      · have := h.x p hp; omega
      · rw [(bit_mem hp).2]; show (i : Int) < ((i + 1 : Nat) : Int); omega
    · have := bit_len (i : Int) z
      have := h.n
      simp only [List.length_append]; omega
theorem AllF.stay {t : Tb} {i : Nat} {s : Int} (h : AllF t i s) : AllF t (i + 1) s := ⟨h.o, h.s, fun p hp => by have := h.x p hp; omega, by have := h.n; omega⟩
structure PasF (t : Tb) (j n : Nat) (s : Int) : Prop where
  o : ∃ v, One t (-50) 50 v ∧ v + sF Pd.u t.P + sF Pd.d t.P = s
  lo : ∀ p ∈ t.P, (j : Int) ≤ p.x ∧ p.x < (n : Int)
  n : t.P.length ≤ 100
theorem AllF.pas {t : Tb} {n : Nat} {s : Int} (h : AllF t n s) : PasF t 0 n s := ⟨⟨0, h.o, by have := h.s; omega⟩, fun p hp => ⟨(h.o.may p hp).x0, h.x p hp⟩, h.o.n⟩
theorem PasF.facts {t : Tb} {j n : Nat} {s : Int} (h : PasF t j n s) : Rise t.P ∧ (∀ p ∈ t.P, PdMay 1 p) ∧ t.C.length = 1 := by
  obtain ⟨v, h1, _⟩ := h.o
  exact ⟨h1.up, h1.may, by rw [h1.C]; rfl⟩
theorem PasF.sane {t : Tb} {j n : Nat} {s : Int} (h : PasF t j n s) : t.sane = true := by
  obtain ⟨v, h1, _⟩ := h.o
  exact h1.san.sane
theorem PasF.step {t : Tb} {j n : Nat} {s : Int} (h : PasF t j n s) : PasF (t.pass (j : Int) (-1)) (j + 1) n s := by
  obtain ⟨v, h1, h2⟩ := h.o
  obtain ⟨h3, h4⟩ := h1.pass (j : Int)
  rw [h3]
  refine ⟨⟨_, h4, ?_⟩, fun p hp => ?_, h4.n⟩
  · have q1 := sF_of Pd.u t.P (j : Int)
    have q2 := sF_of Pd.d t.P (j : Int)
    simp only
    omega
  · have q1 := h.lo p (freeL_mem hp)
    have q2 := freeL_x hp
    omega
theorem PasF.done {t : Tb} {n : Nat} {s : Int} (h : PasF t n n s) : t = ⟨[⟨-50, 50, s⟩], []⟩ := by
  obtain ⟨v, h1, h2⟩ := h.o
  have h3 : t.P = [] := by
    cases hp : t.P with
    | nil => rfl
    | cons p P =>
      have := h.lo p (by rw [hp]; simp)
      omega
  have h4 := h1.C
  rw [h3, sF_nil, sF_nil] at h2
  obtain ⟨C, P⟩ := t
  simp only at h3 h4
  subst h3
  rw [h4, show v = s by omega]
/-- a row of two ints or more an element lies in no block where no two ints stand side by side -/
theorem row_far {α : Type} {R : Rk α} (hR : R.Ok) (hi : ∀ x, ∃ z z', (R.enc x)[0]? = some (.int .i64 z) ∧ (R.enc x)[1]? = some (.int .i64 z')) {W : World} {A : Option Addr} {l : List α} {g : Nat} {cs : Array Value} {t : TypeId} (h : R.At W A l) (hg : Bk W g cs t) (hcs : ∀ (j : Nat) (z z' : Int), cs[j]? = some (Value.int .i64 z) → cs[j + 1]? ≠ some (Value.int .i64 z')) :
    ∀ q o, A = some ⟨q, o, none⟩ → l = [] ∨ q ≠ g := by
  intro q o e
  cases l with
  | nil => exact .inl rfl
  | cons x l =>
    refine .inr fun hq => ?_
    obtain ⟨b, o', e', _, hc⟩ := h.get hR (i := 0) (x := x) rfl
    rw [e] at e'
    injection e' with e'
    injection e' with e1 e2
    obtain ⟨z, z', hz, hz'⟩ := hi x
    have h1 := hc 0 _ hz
    have h1' := hc 1 _ hz'
    rw [← e1, hq] at h1 h1'
    have h2 : W.cell? ⟨g, o' + (0 * R.m + 0), none⟩ = cs[o' + (0 * R.m + 0)]? := cell_of_row _ _ _ _ _ _ hg
    have h2' : W.cell? ⟨g, o' + (0 * R.m + 1), none⟩ = cs[o' + (0 * R.m + 1)]? := cell_of_row _ _ _ _ _ _ hg
    rw [h1] at h2
    rw [h1'] at h2'
    exact hcs _ _ _ h2.symm h2'.symm
theorem tr_cs {A : Option Addr} {n a : Nat} {c : Int} : ∀ (j : Nat) (z z' : Int), (trC A n a c)[j]? = some (Value.int .i64 z) → (trC A n a c)[j + 1]? ≠ some (Value.int .i64 z') := by
  intro j z z' h
  rcases j with _ | _ | j
  · cases h
  · simp
  · simp at h

set_option maxHeartbeats 8000000 in
theorem all_walk (E : Option Addr) (q r : Nat) (l : List Int) (w : World) (hl : Ls w E q l) :
    Calls Try.prog 4 #[.slice E q r] w fun e w' => e = .returned (.bool true) ∧ Below w.heap.size w w' := by
  have HL := Lib.hid hl
  have HAW := Lib.hid awake_any
  clear hl
  go_enter Try.func4, Try.ntmps4
  go_wp2_with fail
  refine (HAW.out _).mono ?_
  rintro e w0 ⟨rfl, hv0⟩
  have HV0 := Lib.hid hv0
  clear hv0 HAW
  rcases Nat.lt_or_ge 30 q with hq | hq
  · have hd1 : decide ((30 : Int) < (q : Int)) = true := decide_eq_true (by omega)
    have hi1 : (30 : Int) < (q : Int) := by omega
    clear hq
    go_wp2_with fail
    go_ret
    exact ⟨rfl, HV0.out⟩
  have HQ := Lib.hid hq
  have hd1 : decide ((30 : Int) < (q : Int)) = false := decide_eq_false (by omega)
  have hi1 : ¬ (30 : Int) < (q : Int) := by omega
  clear hq
  go_upto_region 5 with fail
  obtain ⟨g, hg⟩ : ∃ g, g = w0.heap.size := ⟨_, rfl⟩
  obtain ⟨wa, hwa⟩ : ∃ wa, wa = w0.alloc (.cells (trC none 0 0 0) 38) := ⟨_, rfl⟩
  have HKa := Lib.hid (show Bk wa g (trC none 0 0 0) 38 by rw [hwa, hg]; exact Bk.new w0 _ _)
  have HVa := Lib.hid (show Below w.heap.size w wa by rw [hwa]; exact HV0.out.trans ((below_new w0 _).mono HV0.out.size))
  have HG := Lib.hid (show w.heap.size ≤ g by rw [hg]; exact HV0.out.size)
  rw [← hg, ← hwa]
  clear hg hwa HV0 hd1 hi1
  go_upto_region 6 with fail
  obtain ⟨gc, hgc⟩ : ∃ gc, gc = wa.heap.size := ⟨_, rfl⟩
  obtain ⟨wd, hwd⟩ : ∃ wd, wd = (wa.alloc (.cells #[.int .i64 (-50), .int .i64 50, .int .i64 0] 67)).alloc (.cells (tbC (some ⟨gc, 0, none⟩) 1 1 none 0 0) 34) := ⟨_, rfl⟩
  obtain ⟨gt, hgt⟩ : ∃ gt, gt = wa.heap.size + 1 := ⟨_, rfl⟩
  have hbd : Below wa.heap.size wa wd := by rw [hwd]; exact below_two (below_new _ _) (below_new _ _)
  have HKd := Lib.hid (HKa.out.below hbd)
  have HVd := Lib.hid (HVa.out.trans (hbd.mono HVa.out.size))
  have HGd := Lib.hid (show Bk wd gt (tbC (some ⟨gc, 0, none⟩) 1 1 none 0 0) 34 by
    rw [hwd, hgt]
    have h := Bk.new (wa.alloc (.cells #[.int .i64 (-50), .int .i64 50, .int .i64 0] 67)) (tbC (some ⟨gc, 0, none⟩) 1 1 none 0 0) 34
    rw [size_al] at h; exact h)
  have HTd := Lib.hid (show TbO wd (some ⟨gc, 0, none⟩) 1 1 none 0 0 ⟨cA, []⟩ from by
    refine ⟨⟨rfl, rfl, ?_, (fun p hp => by cases hp), ?_, .inl rfl⟩, Nat.le_refl _, .inr (.inr ⟨_, _, rfl⟩), Nat.le_refl _, .inl rfl, fun g o e => by cases e⟩
    · intro c hc
      have : c = ⟨-50, 50, 0⟩ := by simpa [cA] using hc
      subst this; exact ⟨by decide, by decide, by decide⟩
    · rw [hwd, hgc]
      exact (Rk.At.new rc_oko wa (⟨-50, 50, 0⟩ : Ct) 67).below (below_new _ _))
  have HNE := Lib.hid (show g ≠ gt ∧ w.heap.size ≤ gt by have h1 := HKa.out.lt; have h2 := HVa.out.size; omega)
  have hgt2 : gt = gc + 1 := by rw [hgt, hgc]
  rw [← hgc, ← hgt2, ← hwd]
  clear hgc hwd hgt hgt2 hbd HKa HVa
  go_wp2_with fail
  go_loopw [6, 7] (fun u v wr => ∃ (i : Nat) (s : Int) (A : Option Addr) (k : Nat) (A1 : Option Addr) (a1 : Nat) (B1 : Option Addr) (m1 b1 : Nat) (t : Tb), u = .int .i64 s ∧ v = .int .i64 (i : Int) ∧ i ≤ q ∧ Hid (AllF t i s) ∧ Hid (TxAt wr A (tops i).l) ∧ Hid (Bk wr g (trC A i k (i : Int)) 38) ∧ Hid (Bk wr gt (tbC A1 1 a1 B1 m1 b1) 34) ∧ Hid (TbO wr A1 1 a1 B1 m1 b1 t) ∧ Hid (Below w.heap.size w wr)) (fun _ v _ => q - (intOf v).toNat)
  case atStart => exact ⟨0, 0, none, 0, _, 1, none, 0, 0, _, rfl, rfl, Nat.zero_le _, Lib.hid all0, Lib.hid (.inl ⟨rfl, rfl⟩), HKd, HGd, HTd, HVd⟩
  case round =>
    obtain ⟨i, s, A, k, A1, a1, B1, m1, b1, t, rfl, rfl, hi, HAF, HX, HK, HGT, HT, HV⟩ := hrel
    rcases Nat.lt_or_ge i q with hlt | hge
    · have hd4 : decide ((i : Int) < (q : Int)) = true := decide_eq_true (by omega)
      have hd5 : decide (i < q) = true := decide_eq_true hlt
      have hi1 : (i : Int) < (q : Int) := by omega
      have HLT := Lib.hid hlt
      obtain ⟨b2, o2, hE, hbl2, hz2, hget2, hc2⟩ := HL.out.get hlt
      subst hE
      have HBL2 := Lib.hid hbl2
      have HC2 := Lib.hid hc2
      generalize l.getD i 0 = y at *
      obtain ⟨z, hz⟩ : ∃ z, z = y % 32 - 16 := ⟨_, rfl⟩
      obtain ⟨z0, hz0⟩ : ∃ z, z = y % 32 := ⟨_, rfl⟩
      have hand : bits .and .i64 y 31 = z0 := by rw [and31, hz0]
      have hsub : IntKind.i64.wrap (z0 - 16) = z := by rw [IntKind.wrap_i64]; omega
      have HZB := Lib.hid (show -16 ≤ z ∧ z ≤ 15 by omega)
      have hadd : IntKind.i64.wrap (s + z) = s + z := by rw [IntKind.wrap_i64]; have := HAF.out.bd; omega
      have HBG := Lib.hid (fun w h => top_any A (tops i) i k (i : Int) (tops_len i) (tops_good i (by have := HQ.out; omega)) (tops_c i) (by have := HQ.out; omega) (by have := HQ.out; omega) (i + 1) ((i : Int) + 1) (i : Int) rfl rfl rfl w h)
      have r0 := HK.out.r_0
      have r1 := HK.out.r_1
      clear hz hz0 hbl2 hz2 hget2 hc2 hlt
      go_wp2_with fail
      refine (HBG.out wr HX.out).mono ?_
      rintro e w1 ⟨A2, k2, rfl, hx1, hv1⟩
      have HX1 := Lib.hid (show TxAt w1 A2 (tops (i + 1)).l from hx1)
      have HV1 := Lib.hid (HV.out.trans (hv1.mono HV.out.size))
      have HK1 := Lib.hid (HK.out.below hv1)
      have HG1 := Lib.hid (HGT.out.below hv1)
      have HT1 := Lib.hid (HT.out.below hv1)
      clear hx1 hv1 HBG HX HK HGT HT HV r0 r1
      go_upto_region 13 with fail
      obtain ⟨ga, hga⟩ : ∃ g, g = w1.heap.size := ⟨_, rfl⟩
      obtain ⟨we, hwe⟩ : ∃ q, q = w1.alloc (.cells (trC A2 (i + 1) k2 ((i : Int) + 1)) 38) := ⟨_, rfl⟩
      have hbe : Below w1.heap.size w1 we := by rw [hwe]; exact below_new _ _
      have HAe := Lib.hid (show Bk we ga (trC A2 (i + 1) k2 ((i : Int) + 1)) 38 by rw [hwe, hga]; exact Bk.new w1 _ _)
      have HXe := Lib.hid (HX1.out.below hbe)
      have HVe := Lib.hid (HV1.out.trans (hbe.mono HV1.out.size))
      have HKe := Lib.hid (HK1.out.below hbe)
      have HGe := Lib.hid (HG1.out.below hbe)
      have HTe := Lib.hid (HT1.out.below hbe)
      rw [← hga, ← hwe]
      clear hga hwe hbe HX1 HV1 HK1 HG1 HT1
      have r0 := HAe.out.r_0
      have r1 := HAe.out.r_1
      have f0 := HKe.out.fr 0
      have f1 := HKe.out.fr 1
      have q0 := HKe.out.r_0
      have q1 := HKe.out.r_1
      go_upto_region 14 with fail
      have HKf := Lib.hid (HKe.out.two (.slice A2 (i + 1) k2) (.int .i64 ((i : Int) + 1)))
      have hTf := Turn.two (W := we) g (.slice A2 (i + 1) k2) (.int .i64 ((i : Int) + 1))
      have HXf := Lib.hid (tx_put HXe.out HKe.out (.slice A2 (i + 1) k2) (.int .i64 ((i : Int) + 1)))
      have HGf := Lib.hid (HGe.out.turn hTf (fun h => HNE.out.1 h.symm))
      have HTf := Lib.hid (HTe.out.turn hTf (row_far rc_oko (fun c => ⟨c.lo, c.hi, rfl, rfl⟩) HTe.out.tb.atC HKe.out tr_cs) (row_far rp_oko (fun c => ⟨c.c, c.x, rfl, rfl⟩) HTe.out.tb.atP HKe.out tr_cs))
      have HVf := Lib.hid (HVe.out.trans (hTf.below (B := w.heap.size) (fun q h => by have := HG.out; omega) HVe.out.size))
      generalize (we.setCell ⟨g, 0, none⟩ (.slice A2 (i + 1) k2)).setCell ⟨g, 1, none⟩ (.int .i64 ((i : Int) + 1)) = wf at *
      clear hTf r0 r1 f0 f1 q0 q1 HAe HXe HVe HKe HGe HTe
      have r0 := HKf.out.r_0
      have r1 := HKf.out.r_1
      have t0 := HGf.out.t0
      have t1 := HGf.out.t1
      have c2 := (HVf.out.cell (p := ⟨b2, o2 + i, none⟩) HBL2.out).trans HC2.out
      have HST := Lib.hid (HAF.out.step (by have := HQ.out; have := HLT.out; omega) z HZB.out)
      have HPA := Lib.hid (fun w ht hr => padd_any A1 B1 1 a1 m1 b1 t A2 (i + 1) k2 ((i : Int) + 1) (tops (i + 1)) (i : Int) 0 z (by unfold okI; have := HQ.out; have := HLT.out; omega) (by unfold okI; have := HZB.out; omega) (by have := HTf.out.tb.pl; have := HAF.out.o.n; omega) w ht hr)
      go_wp2_with fail
      refine (HPA.out wf HTf.out (tr_rows HXf.out (tops_good (i + 1) (by have := HQ.out; have := HLT.out; omega)) (by rw [tops_c]; have := HQ.out; have := HLT.out; omega) (tops_len (i + 1)))).mono ?_
      rintro e w4 ⟨A4, n4, a4, B4, m4, b4, rfl, ht4, hv4⟩
      have HT4 := Lib.hid ht4
      have HX4 := Lib.hid (HXf.out.below hv4)
      have HK4 := Lib.hid (HKf.out.below hv4)
      have HG4 := Lib.hid (HGf.out.below hv4)
      have HO4 := Lib.hid (HTf.out.below hv4)
      have HV4 := Lib.hid (HVf.out.trans (hv4.mono HVf.out.size))
      clear ht4 hv4 HPA r0 r1 t0 t1 c2 HXf HKf HGf HTf HVf
      generalize t.addT (tops (i + 1)) (i : Int) 0 z = t4 at *
      generalize t.addE (tops (i + 1)) (i : Int) 0 z = e4 at *
      go_upto_region 16 with fail
      obtain ⟨gb, hgb⟩ : ∃ g, g = w4.heap.size := ⟨_, rfl⟩
      obtain ⟨w5, hw5⟩ : ∃ q, q = w4.alloc (.cells (tbC A4 n4 a4 B4 m4 b4) 34) := ⟨_, rfl⟩
      have hb5 : Below w4.heap.size w4 w5 := by rw [hw5]; exact below_new _ _
      have HB5 := Lib.hid (show Bk w5 gb (tbC A4 n4 a4 B4 m4 b4) 34 by rw [hw5, hgb]; exact Bk.new w4 _ _)
      have HX5 := Lib.hid (HX4.out.below hb5)
      have HK5 := Lib.hid (HK4.out.below hb5)
      have HG5 := Lib.hid (HG4.out.below hb5)
      have HO5 := Lib.hid (HO4.out.below hb5)
      have HT5 := Lib.hid (HT4.out.below hb5)
      have HV5 := Lib.hid (HV4.out.trans (hb5.mono HV4.out.size))
      rw [← hgb, ← hw5]
      clear hgb hw5 hb5 HX4 HK4 HG4 HO4 HT4 HV4
      rcases HST.out with ⟨rfl, haf⟩ | rfl
      · have HA5 := Lib.hid haf
        clear haf HST
        obtain rfl : n4 = 1 := by have h1 := HT5.out.tb.cl; have h2 := HA5.out.o.C; rw [h2] at h1; exact h1.symm
        have t0 := HB5.out.t0
        have t1 := HB5.out.t1
        have f0 := HG5.out.fr 0
        have f1 := HG5.out.fr 1
        have g0 := HG5.out.t0
        have g1 := HG5.out.t1
        go_upto_region 18 with fail
        have HG6 := Lib.hid (HG5.out.two (.slice A4 1 a4) (.slice B4 m4 b4))
        have HT6 := Lib.hid (HT5.out.put HG5.out (.slice A4 1 a4) (.slice B4 m4 b4))
        have hT := Turn.two (W := w5) gt (.slice A4 1 a4) (.slice B4 m4 b4)
        have HK6 := Lib.hid (HK5.out.turn hT HNE.out.1)
        have HX6 := Lib.hid (HX5.out.turn hT (tx_far HX5.out HG5.out))
        have HV6 := Lib.hid (HV5.out.trans (hT.below (B := w.heap.size) (fun q h => by have := HNE.out.2; omega) HV5.out.size))
        generalize (w5.setCell ⟨gt, 0, none⟩ (.slice A4 1 a4)).setCell ⟨gt, 1, none⟩ (.slice B4 m4 b4) = w6 at *
        clear hT HB5 HX5 HK5 HG5 HO5 HT5 HV5 t0 t1 f0 f1 g0 g1
        have hq3 : q ≤ 30 := HQ.out
        go_wp2_with fail
        exact ⟨⟨i + 1, s + z, A2, k2, A4, a4, B4, m4, b4, t4, rfl, rfl, HLT.out, HA5, HX6, Lib.hid (show Bk _ g (trC A2 (i + 1) k2 (((i + 1 : Nat)) : Int)) _ from HK6.out), HG6, HT6, HV6⟩, by have := HLT.out; simp [intOf]; omega⟩
      · clear HST
        have hq3 : q ≤ 30 := HQ.out
        go_wp2_with fail
        exact ⟨⟨i + 1, s, A2, k2, A1, a1, B1, m1, b1, t, rfl, rfl, HLT.out, Lib.hid HAF.out.stay, HX5, Lib.hid (show Bk _ g (trC A2 (i + 1) k2 (((i + 1 : Nat)) : Int)) _ from HK5.out), HG5, HO5, HV5⟩, by have := HLT.out; simp [intOf]; omega⟩
    · obtain rfl : i = q := by omega
      have hd4 : decide ((i : Int) < (i : Int)) = false := decide_eq_false (by omega)
      have hd5 : decide (i < i) = false := decide_eq_false (by omega)
      clear hge hi
      have HPF := Lib.hid HAF.out.pas
      clear HAF HX
      go_wp2_with fail
      obtain ⟨wz, rfl⟩ : ∃ wz, wz = wr := ⟨_, rfl⟩
      go_loopw [14] (fun u wr => ∃ (j : Nat) (A3 : Option Addr) (a3 : Nat) (B3 : Option Addr) (m3 b3 : Nat) (t3 : Tb), u = .int .i64 (j : Int) ∧ j ≤ i ∧ Hid (PasF t3 j i s) ∧ Hid (Bk wr g (trC A i k (i : Int)) 38) ∧ Hid (Bk wr gt (tbC A3 1 a3 B3 m3 b3) 34) ∧ Hid (TbO wr A3 1 a3 B3 m3 b3 t3) ∧ Hid (Below w.heap.size w wr)) (fun u _ => i - (intOf u).toNat)
      case atStart => exact ⟨0, A1, a1, B1, m1, b1, t, rfl, Nat.zero_le _, HPF, HK, HGT, HT, HV⟩
      case round =>
        obtain ⟨j, A3, a3, B3, m3, b3, t3, rfl, hj, HP3, HK3, HG3, HT3, HV3⟩ := hrel
        clear hd4 hd5 HPF HK HGT HT HV
        have r0 := HK3.out.r_0
        have t0 := HG3.out.t0
        have t1 := HG3.out.t1
        rcases Nat.lt_or_ge j i with hlt | hge
        · have hd4 : decide ((j : Int) < (i : Int)) = true := decide_eq_true (by omega)
          have hd5 : decide (j < i) = true := decide_eq_true hlt
          have hi1 : (j : Int) < (i : Int) := by omega
          have HLT := Lib.hid hlt
          have HPP := Lib.hid (ppass_any A3 B3 1 a3 m3 b3 t3 (j : Int) (-1) (by unfold okI; have := HQ.out; omega) (by decide) (by omega) (by have := HT3.out.tb.pl; have := HP3.out.n; omega) HP3.out.facts.1 HP3.out.facts.2.1 wr HT3.out)
          clear hlt
          go_wp2_with fail
          refine HPP.out.mono ?_
          rintro e w7 ⟨A7, a7, B7, m7, b7, rfl, ht7, hv7⟩
          have HP7 := Lib.hid HP3.out.step
          have HT7 := Lib.hid ht7
          have HK7 := Lib.hid (HK3.out.below hv7)
          have HG7 := Lib.hid (HG3.out.below hv7)
          have HV7 := Lib.hid (HV3.out.trans (hv7.mono HV3.out.size))
          clear ht7 hv7 HPP HT3 HK3 HG3 HV3 r0 t0 t1
          generalize t3.pass (j : Int) (-1) = t7 at *
          have f0 := HG7.out.fr 0
          have f1 := HG7.out.fr 1
          have g0 := HG7.out.t0
          have g1 := HG7.out.t1
          go_upto_region 25 with fail
          have HG8 := Lib.hid (HG7.out.two (.slice A7 1 a7) (.slice B7 m7 b7))
          have HT8 := Lib.hid (HT7.out.put HG7.out (.slice A7 1 a7) (.slice B7 m7 b7))
          have hT := Turn.two (W := w7) gt (.slice A7 1 a7) (.slice B7 m7 b7)
          have HK8 := Lib.hid (HK7.out.turn hT HNE.out.1)
          have HV8 := Lib.hid (HV7.out.trans (hT.below (B := w.heap.size) (fun q h => by have := HNE.out.2; omega) HV7.out.size))
          generalize (w7.setCell ⟨gt, 0, none⟩ (.slice A7 1 a7)).setCell ⟨gt, 1, none⟩ (.slice B7 m7 b7) = w8 at *
          clear hT HG7 HT7 HK7 HV7 f0 f1 g0 g1
          have t0 := HG8.out.t0
          have t1 := HG8.out.t1
          have hsn := psane_any A7 B7 1 a7 m7 b7 t7 (by have := HT8.out.tb.pl; have := HP7.out.n; omega) HT8.out.mb HT8.out.sb w8 HT8.out.tb
          rw [HP7.out.sane] at hsn
          go_wp2_with fail
          refine hsn.mono ?_
          rintro e w9 ⟨rfl, hv9⟩
          have HK9 := Lib.hid (HK8.out.below hv9)
          have HG9 := Lib.hid (HG8.out.below hv9)
          have HT9 := Lib.hid (HT8.out.below hv9)
          have HV9 := Lib.hid (HV8.out.trans (hv9.mono HV8.out.size))
          clear hsn hv9 HK8 HG8 HT8 HV8 t0 t1
          have hq3 : i ≤ 30 := HQ.out
          go_wp2_with fail
          exact ⟨⟨j + 1, A7, a7, B7, m7, b7, t7, rfl, HLT.out, HP7, HK9, HG9, HT9, HV9⟩, by have := HLT.out; simp [intOf]; omega⟩
        · obtain rfl : j = i := by omega
          have hd4 : decide ((j : Int) < (j : Int)) = false := decide_eq_false (by omega)
          have hd5 : decide (j < j) = false := decide_eq_false (by omega)
          have hdn := HP3.out.done
          subst hdn
          obtain ⟨bw, ow, hA3, hbw, hcc⟩ := HT3.out.tb.atC.get rc_oko (i := 0) (x := ⟨-50, 50, s⟩) rfl
          have c2 := hcc 2 _ rfl
          subst hA3
          obtain rfl : m3 = 0 := HT3.out.tb.pl.symm
          have c2' : wr.cell? ⟨bw, ow + 2, none⟩ = some (.int .i64 s) := by simpa using c2
          clear hcc c2 hge
          go_wp2_with fail
          go_ret
          exact ⟨rfl, HV3.out⟩
end Go.Proofs.Ytogngghfdcpeaaa

namespace Go.Proofs.Ytogngghfdcpeaaa.escrowAll
open Go.ChangeShapes Go.WideShapes Go.ChangeAt Go.RowKit
set_option linter.unusedVariables false

set_option maxRecDepth 100000 in
theorem lifted (os : Os) (started : os.Started) (H : Type) (enc : TypeId × Value → H) :
    ReturnsInHanded {} Try.checked os 4 .any (Rows.escrowAllSpec.pre6 enc Try.prog Try.f4 Rows.escrowAllRow.domain false) (Rows.escrowAllSpec.post enc Try.prog Try.f4 false true false false) := by
  refine returnsInHanded_of_change_sized (C := Try.checked) rowOwn started (by kernel_rfl) Try.func4
    (ChangeSpec.witness6 (enc := enc) (C := Try.checked) false ⟨#[], #[.slice none 0 0], []⟩ 8 (by kernel_rfl) (by kernel_rfl) (by kernel_rfl) (by kernel_rfl)) ?_
  intro W base args ds gs before hval0 hW _ hsz0 _
  have hval : ∀ (j : Nat) t v, Try.f4.params[j]? = some t → args[j]? = some v → Value.okWide Try.prog W .any base t v := hval0
  have hsz : (DataW.weightsEach Try.prog (Try.f4.params.toList ++ Rows.escrowAllSpec.plain.varTypes Try.prog) (ds ++ gs)).all (· ≤ reachBytes) = true := hsz0
  clear hsz0
  have hW' := hW
  obtain ⟨p, q, hA0, hV, rfl, hfz, hnd⟩ := hW
  have hA : DataW.TrodAll enc Try.prog W 0 (fun _ => true) true Try.f4.params.toList args.toList ds p := hA0
  rw [Try.params4] at hA hval hsz
  obtain ⟨v0, vs0, d0, ds0, p0, q0, hargs, rfl, rfl, h0, r_0⟩ := trodAll_cons hA
  obtain ⟨rfl, rfl, rfl⟩ := trodAll_nil r_0
  obtain rfl : args = #[v0] := by cases args; simp_all
  obtain ⟨rfl, rfl⟩ := trodVars_none hV
  obtain ⟨a0, len0, cap0, rfl⟩ := okWide_slice Try.underlying29 (hval 0 29 v0 rfl rfl)
  have k0 := h0
  have lt0 : ∀ x ∈ p0, x.block < W.heap.size := by obtain ⟨m, hm⟩ := k0; exact DataW.trod_lt m _ _ _ hm
  obtain ⟨l0, b0, c0, s0⟩ := open_ls h0 hsz (j := 0) rfl rfl
  clear hA0 hval0
  refine (all_walk a0 len0 cap0 l0 W b0).mono fun e W' ⟨he, bel⟩ => ?_
  subst he
  exact ⟨_, rfl, _, _, _, [], _, [], hW', trodAll_mk1 (shut_bool Try.underlying4 _), (trodAll_cons_mk (Below.trod rowLaidOut (by kernel_rfl) (of_decide_eq_true (by kernel_rfl)) k0 bel lt0) trodAll_mk0), rfl, bel.frame _, fun h => by cases h⟩

theorem over : Rows.escrowAllRow.holds Try.pinned (OpenSpec.ofChange Rows.escrowAllSpec) :=
  OpenClaim.holds_of_wide 4 Try.f4 rfl rfl rfl rfl rfl rfl rfl ⟨rfl, rfl, rfl, rfl, rfl⟩ rfl rfl rfl rfl rfl (by kernel_rfl) Try.func4 (by kernel_rfl)
    (of_decide_eq_true (by kernel_rfl)) (by unfold Func.isWrapper; first | (rw [if_pos (by decide +kernel)]; kernel_rfl) | (rw [if_neg (by decide +kernel)]; exact ⟨rfl, rfl⟩))
    (fun os started H enc _ => lifted os started H enc)

/-- the statement -/
theorem proved : Rows.EscrowAllSaid := over
#print axioms proved
end Go.Proofs.Ytogngghfdcpeaaa.escrowAll
