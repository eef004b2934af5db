/-
  The document's may and Need; the program's next number of a body, and whether bytes are all 0; a piece's stamp.
-/
import Derived.Test.YtofekbipbndbbaaSmall6
namespace Go.Proofs.Ytofekbipbndbbaa
open Go.RowKit Crc Wm

set_option maxHeartbeats 2000000 in
set_option maxRecDepth 100000 in
theorem refmay_any (p : Pv) (hn : p.n ≤ 4611686018427387904) (w : World) : Calls Try.prog 29 #[pvV p] w fun e w' => e = .returned (.bool (decide (MayN p.E p.A p.I p.C p.n))) ∧ Below w.heap.size w w' := by
  have HX := Lib.hid (Bp.new w p 24)
  have HB := Lib.hid (below_new w (.cells (pvC p) 24))
  obtain ⟨E, A, I, C, ad, n, c⟩ := p
  replace hn : n ≤ 4611686018427387904 := hn
  have c0 := HX.out.c0
  have c1 := HX.out.c1
  have c2 := HX.out.c2
  have c3 := HX.out.c3
  have c4 := HX.out.c4
  show Calls _ _ _ _ fun e w' => e = .returned (.bool (decide (MayN E A I C n))) ∧ _
  have ht : ∃ b, (I == C - 1) = b ∧ Hid (b = true ↔ I = C - 1) := ⟨_, rfl, Lib.hid (by simp)⟩
  obtain ⟨b, ht, HT⟩ := ht
  cases b
  all_goals
    go_enter Try.func29, Try.ntmps29
    go_wp2_with fail
    all_goals
      go_ret
      refine ⟨congrArg (fun b => Ending.returned (.bool b)) ?_, HB.out⟩
      have h5 := HT.out
      simp only [Bool.false_eq_true, false_iff, true_iff] at h5
      clear c0 c1 c2 c3 c4 HX HB HT ht
      first
        | (symm; rw [decide_eq_false_iff_not]; unfold MayN; omega)
        | (symm; rw [decide_eq_true_iff]; unfold MayN; omega)
        | (rw [Bool.eq_iff_iff]; simp only [Bool.or_eq_true, beq_iff_eq, decide_eq_true_eq]; unfold MayN; omega)

set_option maxHeartbeats 1000000 in
theorem refneed_any (n : Int) (h0 : -9223372036854775808 ≤ n) (h1 : n ≤ 9223372036854775807) : Says 24 #[.int .i64 n] (.int .i64 (need n)) := by
  intro w
  obtain ⟨N, hN⟩ : ∃ N : Nat, Hid ((N : Int) = 100000) := ⟨100000, Lib.hid rfl⟩
  go_enter Try.func24, Try.ntmps24
  go_wp2_with fail
  go_loopw [3] (fun u wr => ∃ k : Nat, u = .int .i64 (k : Int) ∧ 1 ≤ k ∧ k ≤ N ∧ (k = 1 ∨ 44 * ((k : Int) - 1) < n) ∧ wr = w) (fun u _ => N - (intOf u).toNat)
  case atStart => exact ⟨1, rfl, by omega, by have := hN.out; omega, .inl rfl, rfl⟩
  case round =>
    obtain ⟨k, rfl, hk1, hk2, hk, rfl⟩ := hrel
    have hk3 : (k : Int) ≤ 1000000 := by have := hN.out; omega
    rcases Int.lt_or_le (44 * (k : Int)) n with h | h
    · rcases Nat.lt_or_ge k N with h2 | h2
      · have hd : decide ((k : Int) < 100000) = true := decide_eq_true (by have := hN.out; omega)
        go_wp2_with fail
        refine ⟨⟨k + 1, by go_num, by omega, by omega, .inr (by omega), trivial⟩, by simp [intOf]; omega⟩
      · have hd : decide ((k : Int) < 100000) = false := decide_eq_false (by have := hN.out; omega)
        go_wp2_with fail
        go_ret
        exact ⟨by unfold need; rw [if_neg (by omega)]; rfl, rfl⟩
    · have e : need n = k := by unfold need; split <;> omega
      go_wp2_with fail
      go_ret
      exact ⟨rfl, rfl⟩

set_option maxHeartbeats 1000000 in
theorem zeros_any (A : Option Addr) (c L : Nat) (l : List UInt8) (HL : Hid (l.length = L)) (w : World) (hr : Rd w w.heap.size A l) (hl : L ≤ 1073741824) :
    Calls Try.prog 45 #[.slice A L c] w fun e w' => e = .returned (.bool (decide (∀ x ∈ l, x = 0))) ∧ w = w' := by
  go_enter Try.func45, Try.ntmps45
  go_wp2_with fail
  go_loopw [7] (fun u wr => ∃ k : Nat, u = .int .i64 (k : Int) ∧ k ≤ L ∧ Hid (∀ x ∈ l.take k, x = 0) ∧ wr = w) (fun u _ => L - (intOf u).toNat)
  case atStart => exact ⟨0, rfl, by omega, Lib.hid (by simp), rfl⟩
  case round =>
    obtain ⟨k, rfl, hk, HZ, rfl⟩ := hrel
    rcases Nat.lt_or_ge k L with hlt | hge
    · have hkl : k < l.length := by rw [HL.out]; exact hlt
      obtain ⟨b, o, rfl, hbb, hc⟩ := hr.cell hkl
      have HT := Lib.hid (List.take_succ_eq_append_getElem hkl)
      have HM := Lib.hid (List.getElem_mem hkl)
      generalize l[k] = x at hc HT HM
      replace hc : wr.cell? ⟨b, o + k, none⟩ = some (.int .u8 (x.toNat : Int)) := hc
      have hx : x.toNat < 256 := x.toNat_lt
      clear hkl
      by_cases hx0 : x = 0
      · have ht : ((x.toNat : Int) != 0) = false := by rw [hx0]; rfl
        go_wp2_with fail
        refine ⟨⟨k + 1, by go_num, by omega, Lib.hid ?_, trivial⟩, by simp [intOf]; omega⟩
        intro y hy
        rw [HT.out, List.mem_append, List.mem_singleton] at hy
        rcases hy with hy | rfl
        · exact HZ.out y hy
        · exact hx0
      · have ht : ((x.toNat : Int) != 0) = true := by
          rw [bne_iff_ne]
          intro h
          apply hx0
          apply UInt8.toNat_inj.1
          show x.toNat = 0
          omega
        go_wp2_with fail
        go_ret
        refine ⟨?_, rfl⟩
        have hno : ¬ ∀ x ∈ l, x = 0 := fun h => hx0 (h x HM.out)
        rw [decide_eq_false hno]
        rfl
    · obtain rfl : k = L := by omega
      go_wp2_with fail
      go_ret
      refine ⟨?_, rfl⟩
      have hz := HZ.out
      rw [List.take_of_length_le (by rw [HL.out]; exact Nat.le_refl _)] at hz
      rw [decide_eq_true hz]
      rfl

theorem valB_bd (l : List UInt8) (m : Nat) (hm : m ≤ 6) (hl : l.length ≤ m) : valB l < 281474976710656 := by
  refine Nat.lt_of_lt_of_le (valB_lt l) (Nat.le_trans (Nat.pow_le_pow_right (by omega) (Nat.le_trans hl hm)) (by decide))

/-- the next number is told as an int, and the place is behind it -/
def NextOk (w : World) (g t : Nat) (A : Option Addr) (cap n k m : Nat) (l : List UInt8) (e : Ending) (w' : World) : Prop :=
  e = .returned (.int .i64 (fieldN l k m : Int)) ∧ Cur w' g t A cap n (k + m) l ∧ w.grownBy w' (some g)

set_option maxHeartbeats 1000000 in
theorem next_any {w : World} {r cap n k : Nat} {A : Option Addr} {l : List UInt8} (h : Cur w r 85 A cap n k l) (m : Nat) (h1 : 1 ≤ m) (h2 : m ≤ 6) (hm : m ≤ n - k) :
    Calls Try.prog 44 #[.pointer (some ⟨r, 0, none⟩), .int .i64 m] w (NextOk w r 85 A cap n k m l) := by
  have hb : fieldN l k m < 281474976710656 := valB_bd _ m h2 (by rw [List.length_take]; omega)
  have HV : Hid (fieldN l k m = valB ((l.drop k).take m)) := Lib.hid rfl
  go_enter Try.func44, Try.ntmps44
  go_wp2_with fail
  refine (get_ok h m h1 (by omega) hm).mono ?_
  rintro e w1 ⟨rfl, hc, hg⟩
  have HC := Lib.hid hc
  have HG := Lib.hid hg
  clear hc hg h
  rw [← HV.out]
  generalize hz : fieldN l k m = z at *
  have HZ := Lib.hid hz
  clear hz HV
  go_wp2_with fail
  go_ret
  exact ⟨by rw [HZ.out]; rfl, HC.out, HG.out⟩

end Go.Proofs.Ytofekbipbndbbaa
