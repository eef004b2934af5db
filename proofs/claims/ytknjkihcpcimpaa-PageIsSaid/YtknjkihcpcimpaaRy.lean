/-
  Why bytes may be no sector: the document's answer.
-/
import Derived.Test.YtknjkihcpcimpaaRb
namespace Go.Proofs.Ytknjkihcpcimpaa
set_option maxRecDepth 100000
set_option linter.unusedVariables false
open Go.RowKit Crc Wm Pg

/-- 'make([]byte, n)', in any world -/
theorem run_zeros (w : World) (n : Nat) (hn : n ≤ 1000000) : ∃ w', (Instr.makeSlice 22 (.int .i64 (n : Int)) (.int .i64 (n : Int))).run Try.prog w = .ok (.slice (some ⟨w.heap.size, 0, none⟩) n n) w' ∧
    Owns w' w.heap.size (some ⟨w.heap.size, 0, none⟩) n n (List.replicate n 0) ∧ Below w.heap.size w w' := by
  obtain ⟨i0, hi, hz0, hz1, hz2⟩ := info_parts byte_facts
  obtain ⟨w2, hmk, hown, hgr⟩ := run_make_full (P := Try.prog) w w.heap.size 22 5 i0 (.int .u8 0) 1 Try.underlying22 hi hz0 hz1 .i64 .i64 n (by rw [hz2]; omega) (by unfold maxLen; omega) (Nat.le_refl _)
  exact ⟨w2, hmk, made_zeros hown, (Below.refl _ _).grown hgr (Nat.le_refl _) (by simp)⟩

def WhyOut (w : World) (l : List UInt8) (e : Ending) (w' : World) : Prop := e = .returned (.tuple #[.bool (whyZ l), .int .i64 (whyE l)]) ∧ Below w.heap.size w w'

set_option maxHeartbeats 1000000 in
theorem refwhy_any (A : Option Addr) (c n : Nat) (l : List UInt8) (w : World) (hl : Lies w A c n l) (hn : n ≤ 1073741824) : Calls Try.prog 35 #[.slice A n c] w (WhyOut w l) := by
  have HLN := Lib.hid hl.len
  have HL := Lib.hid hl
  clear hl
  rcases Nat.lt_or_ge n 64 with hlt | hge
  · have HE : Hid (whyE l = 2) := Lib.hid (whyE_short (by rw [HLN.out]; exact hlt))
    have HZ : Hid (whyZ l = false) := Lib.hid (whyZ_len (by rw [HLN.out]; omega))
    have h1 : decide ((n : Int) < 64) = true := decide_eq_true (by omega)
    go_enter Try.func35, Try.ntmps35
    go_wp2_with fail
    go_ret2
    exact ⟨by rw [HE.out, HZ.out]; rfl, Below.refl _ _⟩
  rcases Nat.lt_or_ge 64 n with hgt | hle
  · have HE : Hid (whyE l = 3) := Lib.hid (whyE_long (by rw [HLN.out]; exact hgt))
    have HZ : Hid (whyZ l = false) := Lib.hid (whyZ_len (by rw [HLN.out]; omega))
    have h1 : decide ((n : Int) < 64) = false := decide_eq_false (by omega)
    have h2 : decide ((64 : Int) < (n : Int)) = true := decide_eq_true (by omega)
    go_enter Try.func35, Try.ntmps35
    go_wp2_with fail
    go_ret2
    exact ⟨by rw [HE.out, HZ.out]; rfl, Below.refl _ _⟩
  obtain rfl : n = 64 := by omega
  clear hge hle hn
  have kc : ∀ V, Since w V → (convert 22 9 (.slice A 64 c)).run Try.prog V = .ok (.string ⟨l.toArray⟩) V := fun V hV => (HL.out.up hV).conv
  have HKC := Lib.hid kc
  obtain ⟨z, hz⟩ : ∃ z, z = nil64 := ⟨_, rfl⟩
  obtain ⟨q, hq⟩ : ∃ q, (l == z) = q := ⟨_, rfl⟩
  have HQ : Hid (whyZ l = q) := Lib.hid (by rw [← hq, hz]; rfl)
  obtain ⟨w7, hmk, ho7, hb7⟩ := run_zeros (World.drew w) 64 (by omega)
  have HMK := Lib.hid hmk
  have HB7 := Lib.hid hb7
  have hkz : ∀ V, Since w7 V → (convert 22 9 (.slice (some ⟨w.heap.size, 0, none⟩) 64 64)).run Try.prog V = .ok (.string ⟨z.toArray⟩) V := fun V hV => by
    have h := (ho7.lies.up hV).conv
    rw [hz]
    exact h
  have HKZ := Lib.hid hkz
  have HZ := Lib.hid hz
  have HQ0 := Lib.hid hq
  clear hmk hb7 ho7 hkz kc hz hq
  go_enter Try.func35, Try.ntmps35
  go_upto_region 5 with fail
  refine wp_region_since (by kernel_rfl) ?_
  have hS : Since w (World.drew w) := (Below.refl _ _).drew
  refine wpAnyH_take (i := 0) (oi := ⟨some 12, _, _, _, _, _⟩) (v := ?_) rfl (by kernel_rfl) (by kernel_rfl) (by kernel_rfl) (fun _ _ _ h => h) (Or.inl ⟨by rfl, ?_⟩) hS ?_
  rotate_left
  · intro W hW; go_simp; with_reducible rfl
  try simp only [Act.put, List.setIfInBounds_toArray, List.set_cons_zero, List.set_cons_succ]
  refine wpAnyH_take (i := 1) (oi := ⟨some 13, _, _, _, _, _⟩) (v := ?_) rfl (by kernel_rfl) (by kernel_rfl) (by kernel_rfl) (fun _ _ _ h => h) (Or.inl ⟨by rfl, ?_⟩) hS ?_
  rotate_left
  · intro W hW
    have q0 := HKC.out W hW
    go_simp
    with_reducible rfl
  try simp only [Act.put, List.setIfInBounds_toArray, List.set_cons_zero, List.set_cons_succ]
  refine wpAnyH_ready (rs := [2]) (by kernel_rfl) (by simp) ?_
  refine AllReadyH.cons (o := ⟨some 14, _, _, _, _, _⟩) rfl (fun Kr hKr => ?_) AllReadyH.nil
  -- operation 2: a step
  rw [if_pos (by kernel_rfl)]
  refine wp_make 22 _ _ rfl rfl rfl HMK.out ?_
  show Kr _ _
  refine hKr.out _ _ ?_ (fun _ => ?_)
  · exact since_trans hS HB7.out
  clear hKr Kr
  refine wpAnyH_since (since_trans hS HB7.out) ?_
  clear hS
  have hS : Since w7 w7 := Below.refl _ _
  try simp only [Act.put, List.setIfInBounds_toArray, List.set_cons_zero, List.set_cons_succ]
  refine wpAnyH_take (i := 3) (oi := ⟨some 15, _, _, _, _, _⟩) (v := ?_) rfl (by kernel_rfl) (by kernel_rfl) (by kernel_rfl) (fun _ _ _ h => h) (Or.inl ⟨by rfl, ?_⟩) hS ?_
  rotate_left
  · intro W hW
    have q0 := HKZ.out W hW
    go_simp
    with_reducible rfl
  try simp only [Act.put, List.setIfInBounds_toArray, List.set_cons_zero, List.set_cons_succ]
  refine wpAnyH_take (i := 4) (oi := ⟨some 16, _, _, _, _, _⟩) (v := ?_) rfl (by kernel_rfl) (by kernel_rfl) (by kernel_rfl) (fun _ _ _ h => h) (Or.inl ⟨by rfl, ?_⟩) hS ?_
  rotate_left
  · intro W hW
    have q0 := HQ0.out
    go_simp
    with_reducible rfl
  try simp only [Act.put, List.setIfInBounds_toArray, List.set_cons_zero, List.set_cons_succ]
  refine wpAnyH_done (by kernel_rfl) ?_ _
  have HB8 := Lib.hid ((show Since w (World.drew w) from (Below.refl _ _).drew).trans (HB7.out.mono (Nat.le_refl _)))
  clear hS
  cases q with
  | true =>
    have HE : Hid (whyE l = 0) := Lib.hid (by
      have h1 : l = nil64 := by have := HQ.out; unfold whyZ at this; exact eq_of_beq this
      rw [h1]; exact whyE_nil)
    go_wp2_with fail
    go_ret2
    exact ⟨by rw [HE.out, HQ.out]; rfl, HB8.out⟩
  | false =>
    have HNZ : Hid (l ≠ nil64) := Lib.hid (by have := HQ.out; unfold whyZ at this; exact ne_of_beq_false this)
    have HL7 := Lib.hid (HL.out.up HB8.out)
    go_wp2_with fail
    refine (refopen_lies (n := 60) HL7.out (by omega)).mono ?_
    rintro e w9 hop
    obtain ⟨A2, c2, E, rfl, hE, _, hb9⟩ := hop
    generalize (if whole l 60 = true then 60 else 0) = n2
    have HE : Hid (whyE l = E) := Lib.hid (by
      rw [hE]
      cases hw : whole l 60 with
      | true => rw [whyE_ok HLN.out hw]; rfl
      | false => rw [whyE_no HLN.out HNZ.out hw]; rfl)
    have HB9 := Lib.hid (HB8.out.trans (hb9.mono HB8.out.size))
    clear hb9 hE
    go_wp2_with fail
    go_ret2
    exact ⟨by rw [HE.out, HQ.out]; rfl, HB9.out⟩

end Go.Proofs.Ytknjkihcpcimpaa
