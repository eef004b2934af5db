/-
  The program's small calls: among, may, against; a copy of entries.
-/
import Derived.Test.YtpphhhalmccnbaaQa
import Derived.Test.YtpphhhalmccnbaaAp
namespace Go.Proofs.Ytpphhhalmccnbaa
set_option maxRecDepth 100000
set_option linter.unusedVariables false
set_option linter.unusedSimpArgs false
open Go.RowKit

theorem among_any (x m : Int) (w : World) : Calls Try.prog 45 #[.int .i64 x, .int .i64 m] w fun r w' => r = .returned (.bool (decide (0 ≤ x) && decide (x < m))) ∧ w' = w := by
  go_enter Try.func45, Try.ntmps45
  by_cases h1 : (0 : Int) ≤ x
  · have e1 : decide (x ≥ 0) = true := decide_eq_true h1
    go_wp2_with fail
    go_ret
    refine ⟨?_, rfl⟩
    rw [decide_eq_true h1, Bool.true_and]; rfl
  · have e1 : decide (x ≥ 0) = false := decide_eq_false h1
    go_wp2_with fail
    go_ret
    refine ⟨?_, rfl⟩
    rfl

set_option maxHeartbeats 4000000 in
theorem may_any (e : En) (w : World) : Calls Try.prog 30 #[etV e] w fun r w' => r = .returned (.bool e.may) ∧ Below w.heap.size w w' := by
  obtain ⟨t, c, b, u⟩ := e
  have HB := Lib.hid (below_new w (.cells #[.int .i64 t, .int .i64 c, .int .i64 b, .bool u] 62))
  have HK := Lib.hid (Bk.new w #[.int .i64 t, .int .i64 c, .int .i64 b, .bool u] 62)
  have k0 := HK.out.c 0 _ rfl
  have k1 := HK.out.c 1 _ rfl
  have k2 := HK.out.c 2 _ rfl
  have HE := Lib.hid (show (En.mk t c b u).may = ((decide (0 ≤ t) && decide (t < 64)) && (decide (0 ≤ c) && decide (c < 64)) && !decide (b = -9223372036854775808)) from by
    rw [Bool.eq_iff_iff, En.may_iff]; simp [and_assoc]; omega)
  have ha := fun x V => among_any x 64 V
  obtain ⟨p, hp⟩ : ∃ p, p = (decide (0 ≤ t) && decide (t < 64)) := ⟨_, rfl⟩
  obtain ⟨q, hq⟩ : ∃ q, q = (decide (0 ≤ c) && decide (c < 64)) := ⟨_, rfl⟩
  rw [← hp, ← hq] at HE
  have HA1 := Lib.hid (show ∀ V, Calls Try.prog 45 #[.int .i64 t, .int .i64 64] V fun r w' => r = .returned (.bool p) ∧ w' = V from fun V => by rw [hp]; exact ha t V)
  have HA2 := Lib.hid (show ∀ V, Calls Try.prog 45 #[.int .i64 c, .int .i64 64] V fun r w' => r = .returned (.bool q) ∧ w' = V from fun V => by rw [hq]; exact ha c V)
  clear ha hp hq
  go_enter Try.func30, Try.ntmps30
  go_wp2_with fail
  refine (HA1.out _).mono ?_
  rintro r w2 ⟨rfl, rfl⟩
  cases p with
  | false =>
    go_wp2_with fail
    go_ret
    exact ⟨by rw [HE.out]; simp, HB.out⟩
  | true =>
    go_wp2_with fail
    refine (HA2.out _).mono ?_
    rintro r w3 ⟨rfl, rfl⟩
    cases q with
    | false =>
      go_wp2_with fail
      go_ret
      exact ⟨by rw [HE.out]; simp, HB.out⟩
    | true =>
      go_wp2_with fail
      go_ret
      refine ⟨?_, HB.out⟩
      rw [HE.out]
      by_cases h5 : b = -9223372036854775808 <;> simp [h5]

/-- what undoes it, and what one undoes -/
def En.ag (e : En) : En := ⟨e.t, e.c, wneg e.b, !e.u⟩
theorem En.ag_neg {e : En} (h : e.u = false) : e.ag = e.neg := by unfold En.ag En.neg; rw [h]; rfl
theorem En.ag_kdU {e : En} (h : e.u = true) : etV e.ag = kdV e.kdU := by unfold En.ag En.kdU kdV kdC; simp [h]
theorem En.kd_V {e : En} (h : e.u = false) : etV e = kdV e.kd := by unfold En.kd kdV kdC; simp [h]
set_option maxHeartbeats 4000000 in
theorem against_any (e : En) (he : okI e.b) (w : World) : Calls Try.prog 40 #[etV e] w fun r w' => r = .returned (etV e.ag) ∧ Below w.heap.size w w' := by
  obtain ⟨t, c, b, u⟩ := e
  have hwn : IntKind.i64.wrap (-b) = wneg b := wrap_neg he
  have HB := Lib.hid (below_two (below_new w (.cells (etC ⟨t, c, b, u⟩) 62)) (below_new _ (.cells (etC ⟨t, c, wneg b, !u⟩) 62)))
  go_enter Try.func40, Try.ntmps40
  go_wp2_with fail
  refine bodyPost_ret (v := etV ⟨t, c, wneg b, !u⟩) (by rw [results_cell_one rfl]; go_simp; first | done | exact ⟨rfl, rfl⟩) rfl ⟨rfl, HB.out⟩

theorem es_nil_eq (w : World) (n c : Nat) : (binOp .eql 30 (.slice none n c) (.slice none 0 0)).run Try.prog w = .ok (.bool true) w := by
  have h : ∀ d : Nat, (Op.equalIn (d + 1) 30 (.slice none n c) (.slice none 0 0)).run Try.prog w = .ok true w := fun d => by simp [Op.equalIn, run_underlying Try.underlying30]
  simp only [binOp]
  simp [Op.equal, Op.maxDepth, h 9999]
theorem es_some_eq (w : World) (a : Addr) (n c : Nat) : (binOp .eql 30 (.slice (some a) n c) (.slice none 0 0)).run Try.prog w = .ok (.bool false) w := by
  have h : ∀ d : Nat, (Op.equalIn (d + 1) 30 (.slice (some a) n c) (.slice none 0 0)).run Try.prog w = .ok false w := fun d => by simp [Op.equalIn, run_underlying Try.underlying30]
  simp only [binOp]
  simp [Op.equal, Op.maxDepth, h 9999]
set_option maxHeartbeats 4000000 in
theorem cloneE_any (A : Option Addr) (n c : Nat) (l : List En) (hn : n ≤ 2000) (hsp : l = [] ∨ Sp A) (w : World) (hl : EsAt REo w A n l) :
    Calls Try.prog 31 #[.slice A n c] w fun r w' => ∃ v, r = .returned v ∧ REo.Own w' w.heap.size v l ∧ Below w.heap.size w w' := by
  have HL := Lib.hid hl
  have HSP := Lib.hid hsp
  have hll := hl.len
  clear hl hsp
  go_enter Try.func31, Try.ntmps31
  rcases A with _ | A
  · have hq := es_nil_eq w n c
    go_wp2_with fail
    go_ret
    refine ⟨_, rfl, ?_, Below.refl _ _⟩
    have h0 : l = [] := by
      rcases HL.out.at' with h | ⟨b, o, h, _⟩
      · exact h
      · cases h
    subst h0
    exact Rk.Own.nil _ _ _
  · have hq := es_some_eq w A n c
    go_wp2_with (first
      | (at_builtin; refine Rk.wpList_append2 re_oko rfl (.tmp 5) (.tmp 6) rfl w.heap.size (.slice (some ⟨w.heap.size, 0, none⟩) 0 0) [] l rfl (World.ownsRow_lit w #[] 0 (Nat.le_refl _) (by simp [maxLen]) rfl) (some A) n c rfl (HL.out.at'.below (below_new w _)) HL.out.len HSP.out (by rw [HL.out.len, List.length_nil]; omega) (by simp) ?_; intro v5 w5 hx1 hg1 ha1; have HO5 := Lib.hid hx1; have HG5 := Lib.hid hg1; clear hx1 hg1 ha1)
      | fail)
    go_ret
    refine ⟨_, rfl, HO5.out, ?_⟩
    exact (below_new w _).grown HG5.out (by simp) (fun k e => by have e2 : some w.heap.size = some k := e; injection e2 with e2; omega)
end Go.Proofs.Ytpphhhalmccnbaa
