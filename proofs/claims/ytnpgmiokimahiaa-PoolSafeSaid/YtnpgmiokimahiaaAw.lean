/-
  The statements' example, over the words.
-/
import Derived.Test.YtnpgmiokimahiaaPy
import Derived.BigQuiet
import Derived.Lib.SlBytesConst
namespace Go.Proofs.Ytnpgmiokimahiaa
set_option maxRecDepth 100000
set_option linter.unusedVariables false
open Go.RowKit Pl

def x120 : List UInt8 := [120]
theorem pad_x : (Dv.pad x120).length = 64 ∧ (Dv.pad x120)[0]? = some 120 := ⟨Dv.len_pad _ (by decide), rfl⟩

set_option maxHeartbeats 1000000 in
theorem awake_any {PAt : Lay} (K : PoolOk PAt) (w : World) : Calls Try.prog 8 #[] w fun e w' => e = .returned (.bool true) ∧ Below w.heap.size w w' := by
  have HK := Lib.hid K
  clear K
  go_enter Try.func8, Try.ntmps8
  go_wp2_with fail
  refine (newdr (Below.refl w.heap.size w) 8 (by omega) (by omega)).mono ?_
  rintro e w1 ⟨p, L, M, rfl, hdr, hb1, _⟩
  have HD1 := Lib.hid hdr
  have HF := Lib.hid (Dv.free_fresh 8)
  clear hdr hb1
  go_wp2_with fail
  refine (PW.made HK.out HD1.out HF.out 1 (by omega)).mono ?_
  rintro e w2 ⟨v, T, rfl, hpw, hb2, _⟩
  have HP2 := Lib.hid hpw
  clear hpw hb2 HD1
  have kc := Lib.run_convert_bytes_const (P := Try.prog) w2 33 5 #[.int .u8 120] 1 1 Try.underlying33 Try.underlying5
  have HP3 := Lib.hid (HP2.out.alloc HK.out (.cells #[.int .u8 120] 5 (1, 2)))
  have HFI : Hid (Firm (PS T p L M) (w2.alloc (.cells #[.int .u8 120] 5 (1, 2))) (some ⟨w2.heap.size, 0, none⟩) x120) := Lib.hid (firm_one 120 120 rfl (Oth.new (o := .cells #[.int .u8 120] 5 (1, 2)) HK.out HP2.out).no (1, 2))
  go_wp2_with fail
  clear kc HP2
  generalize w2.alloc (.cells #[.int .u8 120] 5 (1, 2)) = w3 at *
  generalize w2.heap.size = g3 at *
  refine (HP3.out.put HK.out (show (Dv.fresh 8).spent ≤ 100000 from Nat.zero_le _) (Nat.zero_le _) 3 (show 3 < 8 by omega) 9 (by omega) HFI.out rfl (by decide)).mono ?_
  rintro e w4 ⟨E, D4, m4, T4, rfl, hp⟩
  obtain ⟨rfl, rfl, hm4⟩ := hp.put.wide rfl (show (keys 8 (new_ 1).F).length < 1 from by decide) (by decide) (by omega)
  have HP4 := Lib.hid hp.pw
  have HM4 := Lib.hid hm4
  have f3 : m4.F 3 = some ⟨Dv.pad x120, true, 9, 0⟩ := by rw [hm4]; rfl
  have fn : ∀ j f, m4.F j = some f → j = 3 := fun j f hj => by
    refine Classical.byContradiction fun hne => ?_
    rw [hm4] at hj
    have e1 : ((new_ 1).take (Dv.fresh 8) 3).lay 3 x120 9 = ((new_ 1).take (Dv.fresh 8) 3).set 3 ⟨Dv.pad x120, true, 9, 0⟩ := rfl
    rw [e1, set_ne _ _ hne, take_ne _ _ hne] at hj
    cases hj
  have HS4 : Hid (m4.safe = 0 ∧ m4.room = 1 ∧ m4.reads = 1) := Lib.hid (by rw [hm4]; exact ⟨rfl, rfl, rfl⟩)
  have HF3 := Lib.hid f3
  have HFN := Lib.hid fn
  have HRD : Hid (m4.reads ≤ 100000) := Lib.hid (by rw [HS4.out.2.2]; omega)
  have HKL : Hid (m4.room ≤ (keys 8 m4.F).length) := Lib.hid (by
    rw [HS4.out.2.1]
    exact List.length_pos_of_mem (mem_keys.2 ⟨(by omega : 3 < 8), by rw [f3]; rfl⟩))
  have HN4 : Hid (m4.F 4 = none) := Lib.hid (by
    cases h4 : m4.F 4 with
    | none => rfl
    | some f => have := fn 4 f h4; omega)
  clear hp hm4 f3 fn HFI HP3 HM4
  go_wp2_with fail
  refine (HP4.out.get HK.out (show (Dv.fresh 8).spent ≤ 100000 from Nat.zero_le _) HRD.out 4 (show 4 < 8 by omega)).mono ?_
  rintro e w5 ⟨E, A5, N5, c5, l5, D5, m5, T5, rfl, _, hg⟩
  have hst := hg.held.stuck HN4.out HKL.out (fun j f hj hgo => by
    obtain rfl := HFN.out j f hj
    rw [HF3.out] at hj
    injection hj with hj
    subst hj
    have h9 : (9 : Int) ≤ m4.safe := hgo.2 rfl
    rw [HS4.out.1] at h9
    omega)
  subst hst
  obtain ⟨rfl, rfl, _⟩ := hg.held.full rfl
  have HP5 := Lib.hid hg.pw
  clear hg HP4
  go_wp2_with fail
  refine (HP5.out.tell HK.out (show (Dv.fresh 8).spent ≤ 100000 from Nat.zero_le _) HRD.out 9 ⟨by omega, by omega⟩).mono ?_
  rintro e w6 ⟨T6, rfl, hp6, _⟩
  have HP6 := Lib.hid hp6
  clear hp6 HP5
  go_wp2_with fail
  refine (HP6.out.get HK.out (show (Dv.fresh 8).spent ≤ 100000 from Nat.zero_le _) HRD.out 4 (show 4 < 8 by omega)).mono ?_
  rintro e w7 ⟨E, A7, N7, c7, l7, D7, m7, T7, rfl, _, hg⟩
  have h0 : E = 0 := by
    rcases hg.held.e with h | h
    · exact h
    · obtain ⟨_, _, _, _, hno⟩ := hg.held.full h
      refine absurd ?_ (hno 3 _ HF3.out)
      exact ⟨rfl, fun _ => Int.le_max_right _ _⟩
  subst h0
  obtain ⟨rfl, _⟩ := hg.yes rfl
  have HP7 := Lib.hid hg.pw
  have HN7 : Hid (m7.F 3 = none) := Lib.hid (by
    cases h3 : m7.F 3 with
    | none => rfl
    | some f =>
      obtain ⟨g, hg4⟩ := hg.held.has rfl
      have := one_frame hg.held.mok (by rw [hg.held.room]; exact HS4.out.2.1) h3 hg4
      omega)
  have HC7 : Hid (D7.read 3 = Dv.pad x120) := Lib.hid (by
    have h1 := hg.held.cur 3 (show 3 < 8 by omega)
    rw [cur_none HN7.out] at h1
    rw [show D7.read 3 = sec D7 3 from hg.pw.free.read (i := 3) (by rw [hg.held.n]; show 3 < 8; omega), h1]
    exact cur_some HF3.out)
  clear hg HP6 HF3 HFN HKL HN4 HRD HS4
  go_wp2_with fail
  refine (read_sec HP7.out.dr.dev 3 HC7.out pad_x.1).mono ?_
  rintro e w8 ⟨g8, rfl, _, hc8, hb8⟩
  have HB8 := Lib.hid (HP7.out.dr.bel.trans (hb8.mono HP7.out.dr.bel.size))
  have c0 : w8.cell? ⟨g8, 0, none⟩ = some (.int .u8 120) := by
    rw [cell_of_row _ _ _ _ _ _ hc8]
    rfl
  clear hb8 hc8 HP7 HC7
  go_wp2_with fail
  go_ret
  exact ⟨rfl, HB8.out⟩

end Go.Proofs.Ytnpgmiokimahiaa
