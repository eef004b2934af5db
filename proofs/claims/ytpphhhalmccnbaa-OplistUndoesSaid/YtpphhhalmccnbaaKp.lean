/-
  Within, of any transactions: the way up with a mark that is laid twice as far on each time.
-/
import Derived.Test.YtpphhhalmccnbaaUl
namespace Go.Proofs.Ytpphhhalmccnbaa
set_option maxRecDepth 100000
set_option linter.unusedVariables false
set_option linter.unusedSimpArgs false

/-! ### the way up, whatever the parents are -/
def itR (T : Tr) (i : Int) : Nat → Int
  | 0 => i
  | k + 1 => (T.tx (itR T i k).toNat).p
def KnR (T : Tr) (i : Int) (k : Nat) : Prop := ∀ j, j ≤ k → T.isB (itR T i j) = true
theorem itR_shift (T : Tr) (i : Int) : ∀ k, itR T i (k + 1) = itR T (T.tx i.toNat).p k
  | 0 => rfl
  | k + 1 => by
    show (T.tx (itR T i (k + 1)).toNat).p = (T.tx (itR T (T.tx i.toNat).p k).toNat).p
    rw [itR_shift T i k]
theorem itR_add {T : Tr} {i : Int} {a b : Nat} (h : itR T i a = itR T i b) : ∀ j, itR T i (a + j) = itR T i (b + j)
  | 0 => h
  | j + 1 => by
    show (T.tx (itR T i (a + j)).toNat).p = (T.tx (itR T i (b + j)).toNat).p
    rw [itR_add h j]
theorem wayR_mem {T : Tr} : ∀ (f : Nat) (i x : Int), x ∈ wayR T f i ↔ ∃ k, k < f ∧ KnR T i k ∧ itR T i k = x
  | 0, i, x => by simp [wayR]
  | f + 1, i, x => by
    unfold wayR
    by_cases hb : T.isB i = true
    · rw [if_pos hb, List.mem_cons, wayR_mem f]
      constructor
      · rintro (rfl | ⟨k, hk, hn, hx⟩)
        · exact ⟨0, by omega, (fun j hj => by obtain rfl : j = 0 := (by omega); exact hb), rfl⟩
        · refine ⟨k + 1, by omega, fun j hj => ?_, by rw [itR_shift]; exact hx⟩
          cases j with
          | zero => exact hb
          | succ j => rw [itR_shift]; exact hn j (by omega)
      · rintro ⟨k, hk, hn, hx⟩
        cases k with
        | zero => exact .inl hx.symm
        | succ k => exact .inr ⟨k, by omega, fun j hj => by rw [← itR_shift]; exact hn (j + 1) (by omega), by rw [← itR_shift]; exact hx⟩
    · rw [if_neg hb]
      simp only [List.not_mem_nil, false_iff]
      rintro ⟨k, hk, hn, hx⟩
      exact hb (hn 0 (by omega))
theorem pigeon : ∀ (n : Nat) (f : Nat → Nat), (∀ j, j ≤ n → f j < n) → ∃ a b, a < b ∧ b ≤ n ∧ f a = f b
  | 0, f, h => by have := h 0 (by omega); omega
  | n + 1, f, h => by
    by_cases hc : ∃ j, j ≤ n ∧ f j = f (n + 1)
    · obtain ⟨j, hj, e⟩ := hc
      exact ⟨j, n + 1, by omega, by omega, e⟩
    · have hn : ∀ j, j ≤ n → f j ≠ f (n + 1) := fun j hj e => hc ⟨j, hj, e⟩
      obtain ⟨a, b, hab, hb, e⟩ := pigeon n (fun j => if f j < f (n + 1) then f j else f j - 1) (fun j hj => by
        have h1 := h j (by omega)
        have h2 := h (n + 1) (by omega)
        have h3 := hn j hj
        show (if f j < f (n + 1) then f j else f j - 1) < n
        split <;> omega)
      refine ⟨a, b, hab, by omega, ?_⟩
      have h3 := hn a (by omega)
      have h4 := hn b hb
      replace e : (if f a < f (n + 1) then f a else f a - 1) = (if f b < f (n + 1) then f b else f b - 1) := e
      split at e <;> split at e <;> omega
theorem isB_nat {T : Tr} {z : Int} (h : T.isB z = true) : 0 ≤ z ∧ z.toNat < T.l.length := by
  have := of_decide_eq_true h
  omega
theorem KnR.twice {T : Tr} {i : Int} (h : KnR T i T.l.length) : ∃ a b, a < b ∧ b ≤ T.l.length ∧ itR T i a = itR T i b := by
  obtain ⟨a, b, h1, h2, h3⟩ := pigeon T.l.length (fun j => (itR T i j).toNat) (fun j hj => (isB_nat (h j hj)).2)
  refine ⟨a, b, h1, h2, ?_⟩
  have k1 := (isB_nat (h a (by omega))).1
  have k2 := (isB_nat (h b h2)).1
  replace h3 : (itR T i a).toNat = (itR T i b).toNat := h3
  omega
theorem KnR.less {T : Tr} {i : Int} {k j : Nat} (h : KnR T i k) (hj : j ≤ k) : KnR T i j := fun x hx => h x (by omega)
theorem KnR.near {T : Tr} {i : Int} (k : Nat) (h : KnR T i k) : ∃ k', k' ≤ T.l.length ∧ KnR T i k' ∧ itR T i k' = itR T i k := by
  induction k using Nat.strongRecOn with
  | ind k ih =>
    by_cases hk : k ≤ T.l.length
    · exact ⟨k, hk, h, rfl⟩
    · obtain ⟨a, b, h1, h2, h3⟩ := (h.less (show T.l.length ≤ k by omega)).twice
      have e := itR_add h3 (k - b)
      rw [show b + (k - b) = k from by omega] at e
      obtain ⟨k', q1, q2, q3⟩ := ih (a + (k - b)) (by omega) (h.less (by omega))
      exact ⟨k', q1, q2, q3.trans e⟩
theorem stands_iff {T : Tr} {i of : Int} : standsR T i of = true ↔ ∃ k, KnR T i k ∧ itR T i k = of := by
  unfold standsR
  rw [decide_eq_true_iff, wayR_mem]
  constructor
  · rintro ⟨k, _, h1, h2⟩; exact ⟨k, h1, h2⟩
  · rintro ⟨k, h1, h2⟩
    obtain ⟨k', q1, q2, q3⟩ := KnR.near k h1
    exact ⟨k', by omega, q2, q3.trans h2⟩

/-- all have come -/
def RwS {N : Nat} (T : Tr) (i : Int) (xs : List (Id N)) : Prop := ∀ of, standsR T i of = true → ∃ y ∈ xs, ((y : Id N).val : Int) = of
/-- those that have come stand on the way -/
def RwP {N : Nat} (T : Tr) (i : Int) (xs : List (Id N)) : Prop := ∀ y ∈ xs, standsR T i ((y : Id N).val : Int) = true
theorem RwS.none {N : Nat} {T : Tr} {i of : Int} {xs : List (Id N)} (h : RwS T i xs) (hp : ∀ y ∈ xs, ((y : Id N).val : Int) ≠ of) : standsR T i of = false := by
  cases hs : standsR T i of with
  | false => rfl
  | true => obtain ⟨y, hy, e⟩ := h of hs; exact absurd e (hp y hy)
theorem RwP.some {N : Nat} {T : Tr} {i of : Int} {xs : List (Id N)} (h : RwP T i xs) (hp : ∃ y ∈ xs, ((y : Id N).val : Int) = of) : standsR T i of = true := by
  obtain ⟨y, hy, rfl⟩ := hp; exact h y hy

/-- so many have come; the mark, how far on the next one is laid, how many are left till then -/
structure RwI {N : Nat} (T : Tr) (i : Int) (pre : List (Id N)) (z m : Int) (f q : Nat) : Prop where
  n : T.l.length = N
  tol : ∀ (k : Nat) (h : k < pre.length), ((pre[k] : Id N).val : Int) = itR T i k
  z : z = itR T i pre.length
  len : pre.length + 1 + q = 2 * f
  q1 : 1 ≤ q
  qf : q ≤ f
  fN : f ≤ 2 * N + 2
  mark : (f = 1 ∧ m = -1) ∨ (2 ≤ f ∧ m = itR T i (f - 2) ∧ ∀ k, f - 2 < k → k < pre.length → itR T i k ≠ m)
section
variable {N : Nat} {T : Tr} {i z m : Int} {pre : List (Id N)} {f q : Nat}
theorem RwI.start (hN : T.l.length = N) (i : Int) : RwI (N := N) T i [] i (-1) 1 1 := ⟨hN, fun k h => by simp at h, rfl, rfl, Nat.le_refl _, Nat.le_refl _, by omega, .inl ⟨rfl, rfl⟩⟩
theorem RwI.few (h : RwI T i pre z m f q) : pre.length < 4 * N + 8 := by have := h.len; have := h.q1; have := h.fN; omega
theorem RwI.kn (h : RwI T i pre z m f q) {k : Nat} (hk : k < pre.length) : T.isB (itR T i k) = true := by
  rw [← h.tol k hk]
  unfold Tr.isB
  have := (pre[k]).isLt
  have := h.n
  exact decide_eq_true (by omega)
theorem RwI.part (h : RwI T i pre z m f q) {x : Nat} (hx : x < N) (hxl : x < T.l.length) (hz : z = (x : Int) := by rfl) : RwP T i (pre ++ [(⟨x, hx⟩ : Id N)]) := by
  intro y hy
  have hzb : T.isB (itR T i pre.length) = true := by rw [← h.z, hz]; exact decide_eq_true (by omega)
  rw [stands_iff]
  rcases List.mem_append.1 hy with hy | hy
  · obtain ⟨k, hk, rfl⟩ := List.getElem_of_mem hy
    exact ⟨k, fun j hj => h.kn (by omega), (h.tol k hk).symm⟩
  · have : y = ⟨x, hx⟩ := by simpa using hy
    subst this
    refine ⟨pre.length, fun j hj => ?_, by rw [← h.z]; exact hz⟩
    rcases Nat.lt_or_ge j pre.length with hlt | hge
    · exact h.kn hlt
    · obtain rfl : j = pre.length := by omega
      exact hzb
theorem RwI.end_none (h : RwI T i pre z m f q) (hz : ¬ (0 ≤ z ∧ z < (T.l.length : Int))) : RwS T i pre := by
  intro of hs
  obtain ⟨k, h1, h2⟩ := stands_iff.1 hs
  have hk : k < pre.length := by
    apply Classical.byContradiction
    intro hc
    have := h1 pre.length (by omega)
    rw [← h.z] at this
    exact hz (of_decide_eq_true this)
  exact ⟨pre[k], List.getElem_mem hk, by rw [h.tol k hk]; exact h2⟩
theorem RwI.end_mark (h : RwI T i pre z m f q) {x : Nat} (hxl : x < T.l.length) (hm : z = m) (hz : z = (x : Int) := by rfl) : RwS T i pre := by
  rcases h.mark with ⟨_, h2⟩ | ⟨h1, h2, _⟩
  · omega
  · have hlen := h.len
    have hqf := h.qf
    have hM : f - 2 < pre.length := by omega
    have he : itR T i (f - 2) = itR T i pre.length := by rw [← h2, ← hm, h.z]
    intro of hs
    obtain ⟨k, k1, k2⟩ := stands_iff.1 hs
    have key : ∀ k, ∃ k', k' < pre.length ∧ itR T i k' = itR T i k := by
      intro k
      induction k using Nat.strongRecOn with
      | ind k ih =>
        rcases Nat.lt_or_ge k pre.length with hlt | hge
        · exact ⟨k, hlt, rfl⟩
        · have e := itR_add he (k - pre.length)
          rw [show pre.length + (k - pre.length) = k from by omega] at e
          obtain ⟨k', q1, q2⟩ := ih (f - 2 + (k - pre.length)) (by omega)
          exact ⟨k', q1, q2.trans e⟩
    obtain ⟨k', q1, q2⟩ := key k
    exact ⟨pre[k'], List.getElem_mem q1, by rw [h.tol k' q1, q2]; exact k2⟩
theorem RwI.tol2 (h : RwI T i pre z m f q) {x : Nat} (hx : x < N) (hz : z = (x : Int)) : ∀ (k : Nat) (hk : k < (pre ++ [(⟨x, hx⟩ : Id N)]).length), (((pre ++ [(⟨x, hx⟩ : Id N)])[k] : Id N).val : Int) = itR T i k := by
  intro k hk
  rw [List.length_append, List.length_singleton] at hk
  rcases Nat.lt_or_ge k pre.length with hlt | hge
  · rw [List.getElem_append_left hlt]; exact h.tol k hlt
  · obtain rfl : k = pre.length := by omega
    rw [List.getElem_append_right (Nat.le_refl _)]
    simp only [Nat.sub_self, List.getElem_cons_zero]
    rw [← h.z, hz]
theorem RwI.z2 (h : RwI T i pre z m f q) {x : Nat} (hx : x < N) (hz : z = (x : Int)) : (T.tx x).p = itR T i (pre ++ [(⟨x, hx⟩ : Id N)]).length := by
  rw [List.length_append, List.length_singleton]
  show _ = (T.tx (itR T i pre.length).toNat).p
  rw [← h.z, hz, Int.toNat_natCast]
theorem RwI.next (h : RwI T i pre z m f (q + 1)) {x : Nat} (hx : x < N) (hxl : x < T.l.length) (hm : ¬ z = m) (hq : 1 ≤ q) (hz : z = (x : Int) := by rfl) : RwI T i (pre ++ [(⟨x, hx⟩ : Id N)]) (T.tx x).p m f q := by
  have hlen := h.len
  have hqf := h.qf
  refine ⟨h.n, h.tol2 hx hz, h.z2 hx hz, by rw [List.length_append, List.length_singleton]; omega, hq, by omega, h.fN, ?_⟩
  rcases h.mark with h1 | ⟨h1, h2, h3⟩
  · exact .inl h1
  · refine .inr ⟨h1, h2, fun k k1 k2 => ?_⟩
    rw [List.length_append, List.length_singleton] at k2
    rcases Nat.lt_or_ge k pre.length with hlt | hge
    · exact h3 k k1 hlt
    · obtain rfl : k = pre.length := by omega
      rw [← h.z]; exact hm
theorem RwI.turn (h : RwI T i pre z m f 1) {x : Nat} (hx : x < N) (hxl : x < T.l.length) (hm : ¬ z = m) (hz : z = (x : Int) := by rfl) : RwI T i (pre ++ [(⟨x, hx⟩ : Id N)]) (T.tx x).p (x : Int) (f * 2) (f * 2) := by
  have hlen := h.len
  have hqf := h.qf
  have hn := h.n
  refine ⟨h.n, h.tol2 hx hz, h.z2 hx hz, by rw [List.length_append, List.length_singleton]; omega, by omega, by omega, ?_, .inr ⟨by omega, ?_, fun k k1 k2 => ?_⟩⟩
  · rcases h.mark with ⟨h1, _⟩ | ⟨h1, h2, h3⟩
    · omega
    · apply Classical.byContradiction
      intro hc
      have hK : KnR T i pre.length := fun j hj => by
        rcases Nat.lt_or_ge j pre.length with hlt | hge
        · exact h.kn hlt
        · obtain rfl : j = pre.length := by omega
          rw [← h.z, hz]; exact decide_eq_true (by omega)
      obtain ⟨a, b, hab, hb, he⟩ := (hK.less (show T.l.length ≤ pre.length by omega)).twice
      have e := itR_add he (f - 2 - a)
      rw [show a + (f - 2 - a) = f - 2 from by omega] at e
      rcases Nat.lt_or_ge (b + (f - 2 - a)) pre.length with hlt | hge
      · exact h3 (b + (f - 2 - a)) (by omega) hlt (by rw [h2]; exact e.symm)
      · obtain hq : b + (f - 2 - a) = pre.length := by omega
        rw [hq, ← h.z] at e
        exact hm (by rw [h2]; exact e.symm)
  · rw [← hz, h.z]
    congr 1
    omega
  · rw [List.length_append, List.length_singleton] at k2
    omega
end
end Go.Proofs.Ytpphhhalmccnbaa

namespace Go.Proofs.Ytpphhhalmccnbaa
set_option maxRecDepth 100000
set_option linter.unusedVariables false
set_option linter.unusedSimpArgs false
open Go.RowKit Go.Shelf
attribute [local go_sem] Oper.semAt_some

theorem tx_o {W : World} {A : Option Addr} {T : Tr} (h : RTo.At W A T.l) {i : Nat} (hl : i < T.l.length) : ∃ b o, A = some ⟨b, o, none⟩ ∧ b < W.heap.size ∧ T.l[i]? = some (T.tx i) ∧
    W.cell? ⟨b, o + i * 4, none⟩ = some (.int .i64 (T.tx i).p) ∧ W.cell? ⟨b, o + i * 4 + 1, none⟩ = some (.int .i64 (T.tx i).s) ∧
    W.cell? ⟨b, o + i * 4 + 2, none⟩ = some (.int .i64 (T.tx i).b) ∧ W.cell? ⟨b, o + i * 4 + 3, none⟩ = some (.int .i64 (T.tx i).e) := by
  have hx : T.l[i]? = some (T.tx i) := by unfold Tr.tx; rw [List.getD_eq_getElem?_getD, List.getElem?_eq_getElem hl]; rfl
  obtain ⟨b, o, e, hb, hc⟩ := h.get rt_oko hx
  exact ⟨b, o, e, hb, hx, hc 0 _ rfl, hc 1 _ rfl, hc 2 _ rfl, hc 3 _ rfl⟩

set_option maxHeartbeats 4000000 in
theorem up1R_in (K : World → World → Prop) (n : Nat) (hn : 2 ≤ n) (l Bi Bt : Nat) (S : Nat → Prop) (A : Option Addr) (T : Tr) (N cap : Nat) (c i : Int) (hN : T.l.length = N) (hN6 : N ≤ 1000) (J Jx : List (Id N) → World → Prop)
    (hA : ∀ b o, A = some ⟨b, o, none⟩ → T.l = [] ∨ ¬ S b) (hSt : ¬ S Bt) (hK : ∀ a b, K a b → Turn S a b)
    (W : World) (hJ : AbidesFrom W.heap.size J)
    (hY : ∀ pre x W1, J pre W1 → pre.length < 4 * N + 8 → YieldAt Fence.wide (n - 1) Try.prog l #[.int .i64 ((x : Id N).val : Int)] W1 fun e W' =>
      (e = .returned (.bool true) ∧ J (pre ++ [x]) W' ∧ K W1 W') ∨ (e = .returned (.bool false) ∧ Jx (pre ++ [x]) W'))
    (ci : W.cell? ⟨Bi, 0, none⟩ = some (.int .i64 i)) (ct0 : W.cell? ⟨Bt, 0, none⟩ = some (.slice A N cap)) (ct1 : W.cell? ⟨Bt, 1, none⟩ = some (.int .i64 c)) (hT : RTo.At W A T.l) (h0 : J [] W) :
    CallsIn Fence.wide n Try.prog 63 #[.func (.yield l) #[] #[], .pointer (some ⟨Bi, 0, none⟩), .pointer (some ⟨Bt, 0, none⟩)] W fun e W' => (∃ v, e = .returned v) ∧
      ((∃ xs : List (Id N), RwS T i xs ∧ J xs W') ∨ (∃ pre : List (Id N), RwP T i pre ∧ Jx pre W')) := by
  have HY := Lib.hid hY
  have HT := Lib.hid hT
  have HJ := Lib.hid hJ
  have HN := Lib.hid hN
  have H0 := Lib.hid h0
  have HK0 := Lib.hid hK
  clear hY hT hJ hN h0 hK
  refine callsIn_of_wp Try.func63 rfl trivial ?_ rfl
  simp only [Try.ntmps63, List.size_toArray, List.length_cons, List.length_nil, Nat.reduceAdd, Nat.reduceSub, Array.replicate_succ, Array.replicate_zero, List.push_toArray, List.append_toArray, List.nil_append, List.cons_append]
  gi_wp2
  gi_loopw [4, 5, 6, 7] (fun pm pf pl pa wr => ∃ (pre : List (Id N)) (z m : Int) (f q : Nat), pm = .int .i64 m ∧ pf = .int .i64 (f : Int) ∧ pl = .int .i64 (q : Int) ∧ pa = .int .i64 z ∧ Hid (RwI T i pre z m f q) ∧ Hid (J pre wr) ∧
      wr.cell? ⟨Bt, 0, none⟩ = some (.slice A N cap) ∧ wr.cell? ⟨Bt, 1, none⟩ = some (.int .i64 c) ∧ Hid (RTo.At wr A T.l))
    (fun _ pf pl _ _ => 4 * N + 8 + (intOf pl).toNat - 2 * (intOf pf).toNat)
  case atStart => exact ⟨[], i, -1, 1, 1, rfl, rfl, rfl, rfl, RwI.start HN.out i, H0, ct0, ct1, HT⟩
  case round =>
    obtain ⟨pre, z, m, f, q, rfl, rfl, rfl, rfl, HI, hJp, kt0, kt1, hT2⟩ := hrel
    clear ci ct0 ct1 HT H0
    have hk := known_any A N cap c z wr
    by_cases hin : 0 ≤ z ∧ z < (N : Int)
    · rw [decide_eq_true hin] at hk
      obtain ⟨x, rfl⟩ : ∃ x : Nat, z = x := ⟨z.toNat, by omega⟩
      have hx : x < N := by omega
      have hxl : x < T.l.length := by rw [HN.out]; exact hx
      obtain ⟨w1, hw1⟩ : ∃ w1, w1 = wr.alloc (.cells #[.slice A N cap, .int .i64 c] 55) := ⟨_, rfl⟩
      have g1 : wr.grownBy w1 none := by rw [hw1]; exact World.grownBy_alloc _ _ _
      have J1 := HJ.out pre _ _ none hJp.out g1 (fun r e => by cases e)
      by_cases hmz : (x : Int) = m
      · have hmn : ((x : Int) != m) = false := by simp [hmz]
        have HS := Lib.hid (HI.out.end_mark hxl hmz)
        have HJ1 := Lib.hid J1
        have HK := Lib.hid hk
        have HW1 := Lib.hid hw1
        clear hk hJp J1 g1 hw1 hmz
        gi_wp2_with fail
        refine ⟨trivial, fun _ => by omega, (callsIn_wide.2 HK.out).mono ?_⟩
        rintro e w1' ⟨rfl, hw⟩
        obtain rfl : w1' = w1 := by rw [HW1.out, hw]
        clear HK hw
        gi_wp2
        refine ⟨fun f e => (by cases e), ?_⟩
        gi_wp2
        go_end0
        exact ⟨⟨_, rfl⟩, .inl ⟨pre, HS.out, HJ1.out⟩⟩
      have hlen : pre.length < 4 * N + 8 := HI.out.few
      have hfb : f ≤ 2 * N + 2 := HI.out.fN
      have hq := HI.out.q1
      have hqf := HI.out.qf
      have hmn : ((x : Int) != m) = true := by simp [hmz]
      obtain ⟨fn, tmps, assign, body, hy, hR⟩ := HY.out pre ⟨x, hx⟩ w1 J1 hlen
      dsimp only at hy
      have HK := Lib.hid hk
      have HW1 := Lib.hid hw1
      have HMZ := Lib.hid hmz
      clear hk hJp J1 g1 hw1 hmz
      gi_wp2_with fail
      refine ⟨trivial, fun _ => by omega, (callsIn_wide.2 HK.out).mono ?_⟩
      rintro e w1' ⟨rfl, hw⟩
      obtain rfl : w1' = w1 := by rw [HW1.out, hw]
      clear HK hw
      gi_wp2_with fail
      refine ⟨fun _ => by omega, hR.mono ?_⟩
      rintro e W3 (⟨rfl, hJ3, hk3⟩ | ⟨rfl, hJx3⟩)
      · have ht3 : Turn S wr W3 := ((Turn.ofBelow (by rw [HW1.out]; exact below_new wr _))).trans (HK0.out _ _ hk3)
        have c0 := ht3.cell kt0 hSt
        have c1 := ht3.cell kt1 hSt
        have hT3 := hT2.out.turn ht3 hA
        obtain ⟨b, o, hAe, hb, hgx, p0, _, _, _⟩ := tx_o hT3 hxl
        subst hAe
        have HJ3 := Lib.hid hJ3
        have HT3 := Lib.hid hT3
        clear hJ3 hT3 hk3 ht3 kt0 kt1 hT2 hR hy hgx
        obtain ⟨z, hz2⟩ : ∃ z, z = (T.tx x).p := ⟨_, rfl⟩
        rw [← hz2] at p0
        have HZ2 := Lib.hid hz2
        clear hz2 hmn
        rcases (show q = 1 ∨ 2 ≤ q from by omega) with h1 | h2
        · subst h1
          have hw2 : IntKind.i64.wrap ((f : Int) * 2) = ((f * 2 : Nat) : Int) := by simp [IntKind.wrap, IntKind.bits, IntKind.signed]; omega
          gi_wp2
          go_roundw
          case rel => exact ⟨pre ++ [⟨x, hx⟩], z, x, f * 2, f * 2, rfl, rfl, rfl, rfl, Lib.hid (by rw [HZ2.out]; exact HI.out.turn hx hxl HMZ.out), HJ3, c0, c1, HT3⟩
          case measure => simp [intOf]; omega
        · obtain ⟨q', rfl⟩ : ∃ q', q = q' + 1 := ⟨q - 1, by omega⟩
          have hw2 : IntKind.i64.wrap (((q' + 1 : Nat) : Int) - 1) = (q' : Int) := by simp [IntKind.wrap, IntKind.bits, IntKind.signed]; omega
          have hq0 : ((q' : Int) == 0) = false := by simp; omega
          gi_wp2
          go_roundw
          case rel => exact ⟨pre ++ [⟨x, hx⟩], z, m, f, q', rfl, rfl, rfl, rfl, Lib.hid (by rw [HZ2.out]; exact HI.out.next hx hxl HMZ.out (by omega)), HJ3, c0, c1, HT3⟩
          case measure => simp [intOf]; omega
      · gi_wp2
        refine bodyPost_end (results_none rfl _ _ _) rfl ?_
        exact ⟨⟨_, rfl⟩, .inr ⟨pre ++ [⟨x, hx⟩], HI.out.part hx hxl, hJx3⟩⟩
    · rw [decide_eq_false hin] at hk
      have HS := Lib.hid (HI.out.end_none (by rw [HN.out]; exact hin))
      have HK := Lib.hid hk
      clear hk
      gi_wp2_with fail
      refine ⟨trivial, fun _ => by omega, (callsIn_wide.2 HK.out).mono ?_⟩
      rintro e w1 ⟨rfl, hw⟩
      have HW1 := Lib.hid hw
      clear hw
      gi_wp2
      refine ⟨fun f e => (by cases e), ?_⟩
      gi_wp2
      go_end0
      exact ⟨⟨_, rfl⟩, .inl ⟨pre, HS.out, HJ.out _ _ _ none hJp.out (by rw [HW1.out]; exact World.grownBy_alloc _ _ _) (fun r e => by cases e)⟩⟩

theorem upR_stops (n : Nat) (hn : 2 ≤ n) (S : Nat → Prop) (A : Option Addr) (T : Tr) (N cap : Nat) (c i : Int) (hN : T.l.length = N) (hN6 : N ≤ 1000) (w : World) (hT : RTo.At w A T.l)
    (hA : ∀ b o, A = some ⟨b, o, none⟩ → T.l = [] ∨ ¬ S b) (hSt : ¬ S w.heap.size) :
    SeqStopsK Fence.wide n Try.prog 63 #[.pointer (some ⟨w.heap.size + 1, 0, none⟩), .pointer (some ⟨w.heap.size, 0, none⟩)] (fun x : Id N => #[Value.int .i64 (x.val : Int)]) (Kp S) (fun xs => RwS T i xs) (fun pre => RwP T i pre) (4 * N + 8)
      ((w.alloc (.cells #[.slice A N cap, .int .i64 c] 55)).alloc (.cells #[.int .i64 i] 3)) := fun l J Jx W hW hJ _ hY h0 => by
  have k0 := cell_al (.cells #[.int .i64 i] 3) ((cell_new w #[.slice A N cap, .int .i64 c] 55 0).trans rfl)
  have k1 := cell_al (.cells #[.int .i64 i] 3) ((cell_new w #[.slice A N cap, .int .i64 c] 55 1).trans rfl)
  have k2 := (cell_new (w.alloc (.cells #[.slice A N cap, .int .i64 c] 55)) #[.int .i64 i] 3 0).trans rfl
  have hT2 : RTo.At ((w.alloc (.cells #[.slice A N cap, .int .i64 c] 55)).alloc (.cells #[.int .i64 i] 3)) A T.l := (hT.below (below_new w _)).below (below_new _ _)
  refine up1R_in (Kp S) n hn l (w.heap.size + 1) w.heap.size S A T N cap c i hN hN6 J Jx hA hSt (fun _ _ h => h.turn) W hJ hY ((hW.cell (p := ⟨w.heap.size + 1, 0, none⟩) (by simp)).trans ?_) ((hW.cell (p := ⟨w.heap.size, 0, none⟩) (by simp; omega)).trans k0) ((hW.cell (p := ⟨w.heap.size, 1, none⟩) (by simp; omega)).trans k1) (hT2.below hW) h0
  simp

set_option maxHeartbeats 4000000 in
theorem pwithin_any (A : Option Addr) (T : Tr) (N cap : Nat) (c i of : Int) (hN : T.l.length = N) (hN6 : N ≤ 1000) (w : World) (hT : RTo.At w A T.l) :
    Calls Try.prog 29 #[.agg #[.slice A N cap, .int .i64 c], .int .i64 i, .int .i64 of] w fun e w' => e = .returned (.bool (standsR T i of)) ∧ Below w.heap.size w w' := by
  refine (callsIn_wide (n := 9)).1 ?_
  refine callsIn_of_wp_marks Try.func29 rfl trivial ?_ rfl
  simp only [Try.ntmps29, List.size_toArray, List.length_cons, List.length_nil, Nat.reduceAdd, Nat.reduceSub, Array.replicate_succ, Array.replicate_zero, List.push_toArray, List.append_toArray, List.nil_append, List.cons_append]
  have HT := Lib.hid hT
  have HN := Lib.hid hN
  clear hT hN
  gi_wp2_with fail
  obtain ⟨wx0, hw0⟩ : ∃ wx, wx = w.alloc (.cells #[.slice A N cap, .int .i64 c] 55) := ⟨_, rfl⟩
  obtain ⟨wx1, hw1⟩ : ∃ wx, wx = wx0.alloc (.cells #[.int .i64 of] 3) := ⟨_, rfl⟩
  obtain ⟨wx2, hw2⟩ : ∃ wx, wx = wx1.alloc (.cells #[.bool false] 4) := ⟨_, rfl⟩
  have s0 : wx0.heap.size = w.heap.size + 1 := by rw [hw0]; simp
  have s1 : wx1.heap.size = w.heap.size + 2 := by rw [hw1]; simp [s0]
  have s2 : wx2.heap.size = w.heap.size + 3 := by rw [hw2]; simp [s1]
  have k0 : wx2.cell? ⟨w.heap.size, 0, none⟩ = some (.slice A N cap) := by rw [hw2, hw1, hw0]; exact cell_al _ (cell_al _ ((cell_new w _ _ 0).trans rfl))
  have HB := Lib.hid (show Below w.heap.size w wx2 from by rw [hw2, hw1, hw0]; exact below_two (below_two (below_new w _) (below_new _ _)) (below_new _ _))
  have k1 : wx2.cell? ⟨w.heap.size + 1, 0, none⟩ = some (.int .i64 of) := by rw [hw2, hw1, ← s0]; exact cell_al _ ((cell_new wx0 _ _ 0).trans rfl)
  have k2 : wx2.cell? ⟨w.heap.size + 2, 0, none⟩ = some (.bool false) := by rw [hw2, ← s1]; exact (cell_new wx1 _ _ 0).trans rfl
  have f0 : wx2.frozen? ⟨w.heap.size + 2, 0, none⟩ = false := by rw [hw2, ← s1]; exact frozen_new wx1 _ _ 0
  rw [← hw0, ← hw1, ← hw2]
  have HT2 := Lib.hid (HT.out.below HB.out)
  have HA := Lib.hid HT.out.lt
  have H0 := Lib.hid k0
  have H1 := Lib.hid k1
  have H2 := Lib.hid k2
  have HF := Lib.hid f0
  have HS := Lib.hid s2
  clear hw0 s0 k0 hw1 s1 k1 hw2 s2 k2 f0
  clear wx0 wx1
  obtain ⟨w2, hw2⟩ : ∃ w2, w2 = wx2 := ⟨_, rfl⟩
  subst hw2
  refine ⟨trivial, (callsIn_wide.2 (up_any A N cap c i w2)).mono ?_⟩
  rintro e w3 ⟨rfl, rfl⟩
  gi_wp2_with fail
  refine wpIn_rangeFunc_ownF rfl (by omega) (gf := 63) (lb := #[.pointer (some ⟨w2.heap.size + 1, 0, none⟩), .pointer (some ⟨w2.heap.size, 0, none⟩)]) rfl trivial (enters_of Try.func63 (by kernel_rfl) rfl)
    (upR_stops 8 (by omega) (fun k => w2.heap.size + 2 ≤ k) A T N cap c i HN.out hN6 w2 HT2.out (fun b o e => (HA.out b o e).imp id (fun h h2 => by have := HS.out; omega)) (fun h => by omega)) Kp.t (Kp.b (by simp)) (Below.refl _ _) (fun _ => rfl)
    (fun pre W => ((∀ y ∈ pre, (y.val : Int) ≠ of) ∧ W.cell? ⟨w.heap.size + 1, 0, none⟩ = some (.int .i64 of) ∧ W.cell? ⟨w.heap.size + 2, 0, none⟩ = some (.bool false) ∧ W.frozen? ⟨w.heap.size + 2, 0, none⟩ = false) ∧ Below w.heap.size w W)
    (fun c pre W => (c = .ret ∧ (∃ y ∈ pre, (y.val : Int) = of) ∧ W.cell? ⟨w.heap.size + 2, 0, none⟩ = some (.bool true)) ∧ Below w.heap.size w W)
    (OwnFrom.and (Own.from (fun s A B row hs hg hr => ⟨hs.1, cell_kept hs.2.1 hg hr, cell_kept hs.2.2.1 hg hr, (frozen_kept hs.2.2.1 hg hr).trans hs.2.2.2⟩) _) (ownFrom_below (Nat.le_refl _) (by have := HS.out; simp; omega)))
    (fun _ => OwnFrom.and (Own.from (fun s A B row hs hg hr => ⟨hs.1, hs.2.1, cell_kept hs.2.2 hg hr⟩) _) (ownFrom_below (Nat.le_refl _) (by have := HS.out; simp; omega)))
    ⟨⟨by simp, cell_al _ (cell_al _ H1.out), cell_al _ (cell_al _ H2.out), frozen_al _ (cell_al _ H2.out) (frozen_al _ H2.out HF.out)⟩, below_two (below_two HB.out (below_new w2 _)) (below_new _ _)⟩
    ?acts ?assign ?body ?done ?stop
  case assign =>
    intro l x W K hK
    gi_wp2
    exact hK
  case body =>
    rintro l pre x W ⟨⟨hp, k1, kr, fr⟩, hB⟩ hlen
    have HP := Lib.hid hp
    have HB3 := Lib.hid hB
    clear hB hlen hp
    by_cases hx : (x.val : Int) = of
    · have hxb : ((x.val : Int) == of) = true := by simpa using hx
      have HX := Lib.hid hx
      clear hx
      gi_wp2
      exact ⟨KeepsOthers.setCell _ _ _, ⟨rfl, ⟨x, by simp, HX.out⟩, World.cell?_setCell_same' _ _ _ (by rw [kr]; rfl)⟩, HB3.out.setCell (by show w.heap.size ≤ w.heap.size + 2; omega) _⟩
    · have hxb : ((x.val : Int) == of) = false := by simpa using hx
      have HX := Lib.hid hx
      clear hx
      gi_wp2
      exact ⟨KeepsOthers.refl _, ⟨KeepsWalks.refl _, Turn.refl _ _⟩, ⟨fun y hy => (List.mem_append.1 hy).elim (HP.out y) (fun h => by simp at h; subst h; exact HX.out), k1, kr, fr⟩, HB3.out⟩
  case done =>
    rintro D ys WD hD hys ⟨⟨hp, k1, kr, fr⟩, hB⟩ hK
    have HW := Lib.hid (hys.none hp)
    clear hp hys
    have HB3 := Lib.hid hB
    have HD := Lib.hid (show w.heap.size ≤ D from by have := HS.out; simp at hD; omega)
    clear hB hD
    gi_wp2
    have hK' := (KeepsOthers.setCell WD ⟨w.heap.size + 2, 0, none⟩ (.bool false)).same D _ hK rfl
    refine ⟨by simp, .inl ⟨_, _, rfl, run_takeDeferred hK', ?_⟩⟩
    have hc5 := cell_put (o := .deferred none) (World.cell?_setCell_same' WD ⟨w.heap.size + 2, 0, none⟩ (.bool false) (by rw [kr]; rfl)) hK'
    refine ⟨.bool false, ?_, by rw [HW.out], below_put (HB3.out.setCell (by show w.heap.size ≤ w.heap.size + 2; omega) _) HD.out _⟩
    simp [results, Try.f29, go_sem, hc5]
  case stop =>
    rintro D c pre W hD hpre ⟨⟨rfl, hz, kr⟩, hB⟩ hK
    have HW := Lib.hid (hpre.some hz)
    clear hpre hz
    have HB3 := Lib.hid hB
    have HD := Lib.hid (show w.heap.size ≤ D from by have := HS.out; simp at hD; omega)
    clear hB hD
    gi_wp2
    refine ⟨by simp, .inl ⟨_, _, rfl, run_takeDeferred hK, ?_⟩⟩
    have hc5 := cell_put (o := .deferred none) kr hK
    refine ⟨.bool true, ?_, by rw [HW.out], below_put HB3.out HD.out _⟩
    simp [results, Try.f29, go_sem, hc5]

end Go.Proofs.Ytpphhhalmccnbaa
