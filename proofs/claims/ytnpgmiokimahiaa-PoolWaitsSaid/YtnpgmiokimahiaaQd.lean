/-
  The pool's small calls: New, Safe, Reads, whether a frame may go, which frame holds a sector; of a nil pool.
-/
import Derived.Test.YtnpgmiokimahiaaQc
namespace Go.Proofs.Ytnpgmiokimahiaa
set_option maxRecDepth 100000
set_option linter.unusedVariables false
set_option linter.unusedSimpArgs false
open Go.RowKit Pl

section
variable {w W : World} {p n v : Nat} {m m' : Pm} {l l' : List Fq} {A : Option Addr} {N c h h' : Nat} {x y : Fq} {j : Nat}

theorem turn_drewN (S : Nat → Prop) (w : World) (q : Nat) : Turn S w (w.drewN q) := ⟨rfl, rfl, rfl, Nat.le_refl _, fun _ _ _ => rfl⟩
theorem mayGo_any (q : PoolAt w p n v m l A N c h) (hx : x ∈ l) : Calls Try.prog 42 #[ptr v, ptr x.g] w fun e w' => e = .returned (.bool (mayF m.safe x)) ∧ Turn (fun _ => False) w w' := by
  have c4 := q.c4
  have f66 := (q.f hx).c66
  have f67 := (q.f hx).c67
  obtain ⟨z, hz⟩ : ∃ z : Int, z = (x.pins : Int) := ⟨_, rfl⟩
  rw [← hz] at f67
  have HM : Hid (mayF m.safe x = (decide (z = 0) && decide (x.lsn ≤ m.safe))) := Lib.hid (by unfold mayF; congr 1; apply decide_eq_decide.2; omega)
  generalize mayF m.safe x = r at *
  clear hz q hx
  generalize x.lsn = u at *
  generalize m.safe = s at *
  generalize x.g = g at *
  by_cases h0 : z = 0
  · have hb : (z == 0) = true := by simpa using h0
    have HR : Hid (r = decide (u ≤ s)) := Lib.hid (by rw [HM.out, decide_eq_true h0]; rfl)
    clear h0 HM
    go_enter Try.func42, Try.ntmps42
    go_wp2_with fail
    go_quiet (fail)
    go_wp2_with fail
    go_ret
    exact ⟨by rw [HR.out]; rfl, turn_drewN _ _ _⟩
  · have hb : (z == 0) = false := by simpa using h0
    have HR : Hid (r = false) := Lib.hid (by rw [HM.out, decide_eq_false h0]; rfl)
    clear h0 HM
    go_enter Try.func42, Try.ntmps42
    go_wp2_with fail
    go_quiet (fail)
    go_wp2_with fail
    go_ret
    exact ⟨by rw [HR.out]; rfl, turn_drewN _ _ _⟩

/-- which frame holds a sector -/
inductive FindOut (l : List Fq) (a : Int) (e : Ending) : Prop
  | yes (j : Nat) (x : Fq) (hx : l[j]? = some x) (ha : a = (x.at_ : Int)) (he : e = .returned (ptr x.g))
  | no (hn : ∀ x ∈ l, a ≠ (x.at_ : Int)) (he : e = .returned (.pointer none))

set_option maxHeartbeats 2000000 in
theorem find_any (q : PoolAt w p n v m l A N c h) (a : Int) : Calls Try.prog 31 #[ptr v, .int .i64 a] w fun e w' => w' = w ∧ FindOut l a e := by
  have c2 := q.c2
  have hle := q.le.1
  have HQ := Lib.hid q
  have HL := Lib.hid q.len
  clear q
  go_enter Try.func31, Try.ntmps31
  go_wp2_with fail
  go_loopg [6, 12] N (fun gn _ i wr => ∃ k : Nat, i = .int .i64 (k : Int) ∧ k + gn = N ∧ wr = w ∧ Hid (∀ (j : Nat) (x : Fq), j < k → l[j]? = some x → a ≠ (x.at_ : Int)))
  case atStart => exact ⟨0, rfl, by omega, rfl, Lib.hid (fun _ _ h => by omega)⟩
  case round =>
    obtain ⟨k, rfl, hog, hwr, HN⟩ := hrel
    replace hwr := hwr.symm
    subst hwr
    rcases Nat.lt_or_ge k N with hlt | hge
    · have hd1 : decide (k < N) = true := decide_eq_true hlt
      have hd2 : decide ((k : Int) < (N : Int)) = true := decide_eq_true (by omega)
      obtain ⟨x, hk⟩ : ∃ x, l[k]? = some x := ⟨_, List.getElem?_eq_getElem (by have := HL.out; omega)⟩
      obtain ⟨g, hA, _, cg⟩ := HQ.out.at_ hk
      subst hA
      have f0 := (HQ.out.f (List.mem_of_getElem? hk)).c0
      have HK := Lib.hid hk
      clear hk
      by_cases he : (x.at_ : Int) = a
      · have hb : ((x.at_ : Int) == a) = true := by simpa using he
        have HE := Lib.hid he
        clear he
        generalize hz : (x.at_ : Int) = z at *
        have HZ := Lib.hid hz
        clear hz
        go_wp2_with fail
        go_ret
        exact ⟨rfl, .yes k x HK.out (by have := HE.out; have := HZ.out; omega) rfl⟩
      · have hb : ((x.at_ : Int) == a) = false := by simpa using he
        have HE := Lib.hid he
        clear he
        generalize hz : (x.at_ : Int) = z at *
        have HZ := Lib.hid hz
        clear hz
        go_wp2_with fail
        go_roundg (gk - 1)
        case measure => omega
        case rel =>
          refine ⟨k + 1, by go_num, by omega, rfl, Lib.hid (fun (j : Nat) (y : Fq) hj hy => ?_)⟩
          by_cases e : j = k
          · subst e
            have hk := HK.out
            rw [hy] at hk
            injection hk with hk
            subst hk
            have := HE.out
            have := HZ.out
            omega
          · exact HN.out j y (by omega) hy
    · obtain rfl : k = N := by omega
      have hd1 : decide (k < k) = false := decide_eq_false (by omega)
      have hd2 : decide ((k : Int) < (k : Int)) = false := decide_eq_false (by omega)
      go_wp2_with fail
      go_ret
      refine ⟨rfl, .no (fun x hx => ?_) rfl⟩
      obtain ⟨i, hi⟩ := List.mem_iff_getElem?.1 hx
      exact HN.out i x (by have := (List.getElem?_eq_some_iff.1 hi).1; have := HL.out; omega) hi

theorem reads_any (q : PoolAt w p n v m l A N c h) : Calls Try.prog 22 #[ptr v] w fun e w' => e = .returned (.int .i64 (m.reads : Int)) ∧ w' = w := by
  have c5 := q.c5
  clear q
  generalize m.reads = r at *
  go_enter Try.func22, Try.ntmps22
  go_wp2_with fail
  go_ret
  exact ⟨rfl, rfl⟩
end
theorem reads_nil (w : World) : Calls Try.prog 22 #[.pointer none] w fun e w' => e = .returned (.int .i64 0) ∧ w' = w := by
  go_enter Try.func22, Try.ntmps22
  go_wp2_with fail
  go_ret
  exact ⟨rfl, rfl⟩
theorem safe_nil (w : World) (lsn : Int) : Calls Try.prog 13 #[.pointer none, .int .i64 lsn] w fun e w' => e = .returned (.tuple #[]) ∧ w' = w := by
  go_enter Try.func13, Try.ntmps13
  go_wp2_with fail
  refine bodyPost_end (results_none rfl _ _ _) rfl ?_
  exact ⟨rfl, rfl⟩
theorem unpin_nil (w : World) (at_ : Int) : Calls Try.prog 20 #[.pointer none, .int .i64 at_] w fun e w' => e = .returned (.int .i64 11) ∧ w' = w := by
  go_enter Try.func20, Try.ntmps20
  go_wp2_with fail
  go_ret
  exact ⟨rfl, rfl⟩
theorem put_nil (w : World) (at_ lsn : Int) (A : Option Addr) (N c : Nat) : Calls Try.prog 12 #[.pointer none, .int .i64 at_, .slice A N c, .int .i64 lsn] w fun e w' => e = .returned (.int .i64 11) ∧ w' = w := by
  go_enter Try.func12, Try.ntmps12
  go_wp2_with fail
  go_ret
  exact ⟨rfl, rfl⟩
theorem clean_nil (w : World) : Calls Try.prog 14 #[.pointer none] w fun e w' => e = .returned (.int .i64 11) ∧ w' = w := by
  go_enter Try.func14, Try.ntmps14
  go_wp2_with fail
  go_ret
  exact ⟨rfl, rfl⟩
theorem use_nil (w : World) (at_ : Int) : Calls Try.prog 25 #[.pointer none, .int .i64 at_] w fun e w' => e = .returned (.tuple #[.pointer none, .int .i64 11]) ∧ w' = w := by
  go_enter Try.func25, Try.ntmps25
  go_wp2_with fail
  go_ret2
  exact ⟨rfl, rfl⟩
theorem get_nil (w : World) (at_ : Int) : Calls Try.prog 15 #[.pointer none, .int .i64 at_] w fun e w' => e = .returned (.tuple #[.slice none 0 0, .int .i64 11]) ∧ w' = w := by
  go_enter Try.func15, Try.ntmps15
  go_wp2_with fail
  refine (use_nil w at_).mono ?_
  rintro e w' ⟨rfl, hw⟩
  replace hw := hw.symm
  subst hw
  go_wp2_with fail
  go_ret2
  exact ⟨rfl, rfl⟩
theorem pin_nil (w : World) (at_ : Int) : Calls Try.prog 19 #[.pointer none, .int .i64 at_] w fun e w' => e = .returned (.int .i64 11) ∧ w' = w := by
  go_enter Try.func19, Try.ntmps19
  go_wp2_with fail
  refine (use_nil w at_).mono ?_
  rintro e w' ⟨rfl, hw⟩
  replace hw := hw.symm
  subst hw
  go_wp2_with fail
  go_ret
  exact ⟨rfl, rfl⟩
theorem rising_nil (w : World) : Calls Try.prog 26 #[.pointer none] w fun e w' => e = .returned (.slice none 0 0) ∧ w' = w := by
  go_enter Try.func26, Try.ntmps26
  go_wp2_with fail
  go_ret
  exact ⟨rfl, rfl⟩
end Go.Proofs.Ytnpgmiokimahiaa
