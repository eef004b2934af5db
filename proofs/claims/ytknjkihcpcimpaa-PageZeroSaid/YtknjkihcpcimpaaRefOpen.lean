/-
  Sealed bytes opened by the document's own reader.
-/
import Derived.Test.YtknjkihcpcimpaaOpen
import Derived.Test.YtknjkihcpcimpaaSince
import Derived.RegionTactic
namespace Go.Proofs.Ytknjkihcpcimpaa
set_option maxRecDepth 100000
open Go.RowKit Crc Wm

theorem whole_seal (l : List UInt8) (n : Nat) : (sealB (l.take n) == l) = whole l n := by
  unfold sealB whole
  rw [Bool.eq_iff_iff, beq_iff_eq, beq_iff_eq]
  constructor
  · intro h
    have h2 : l = l.take n ++ l.drop n := (List.take_append_drop n l).symm
    have h3 : l.take n ++ sum4 (l.take n) = l.take n ++ l.drop n := h.trans h2
    exact (List.append_cancel_left h3).symm
  · intro h
    rw [← h, List.take_append_drop]

set_option maxHeartbeats 2000000 in
theorem refopen_len (b o c n : Nat) (l : List UInt8) (HL : Hid (l.length = n + 4)) (hc : n + 4 ≤ c) (w : World) (hr : Rd w w.heap.size (some ⟨b, o, none⟩) l) (hl : n ≤ 1073741824) :
    Calls Try.prog 46 #[.slice (some ⟨b, o, none⟩) (n + 4) c] w (Opened w n l) := by
  obtain ⟨i0, hi, hz0, hz1, hz2⟩ := info_parts byte_facts
  have HI := Lib.hid (show _ ∧ _ ∧ _ ∧ _ from ⟨hi, hz0, hz1, hz2⟩)
  clear hi hz0 hz1 hz2
  have HN : Hid ((l.take n).length = n) := Lib.hid (by rw [List.length_take, HL.out]; omega)
  have hr1 : Rd w w.heap.size (some ⟨b, o, none⟩) (l.take n) := by
    have := hr.cut 0 n (some ⟨b, o, none⟩) (fun b' o' e _ => by injection e with e; injection e with e1 e2; subst e1 e2; rfl)
    simpa using this
  have hcb : ∀ V, Since w V → (convert 22 9 (.slice (some ⟨b, o, none⟩) (n + 4) c)).run Try.prog V = .ok (.string ⟨l.toArray⟩) V := fun V hV => run_string_rd (hr.up hV) _ _ Try.underlying22 Try.underlying5 Try.underlying9 _ c HL.out
  cases hwh : whole l n
  all_goals
    have hq := whole_seal l n
    rw [hwh] at hq
    have HW := Lib.hid hwh
    clear hwh
    generalize hl1 : l.take n = l1 at HN hr1 hq
    have HL1 := Lib.hid hl1
    clear hl1
    have hq' : (sealB l1 != l) = !(sealB l1 == l) := rfl
    rw [hq] at hq'
    have hnc : n ≤ c := by omega
    go_enter Try.func46, Try.ntmps46
    go_wp2_with fail
    refine wp_region_since (by kernel_rfl) ?_
    have hS : Since w (World.drew w) := (Below.refl _ _).drew
    refine wpAnyH_take (i := 0) (oi := ⟨some 10, _, _, _, _, _⟩) (v := ?_) rfl (by kernel_rfl) (by kernel_rfl) (by kernel_rfl) (fun _ _ _ h => h) (Or.inl ⟨by rfl, ?_⟩) hS ?_
    rotate_left
    · intro W hW; go_simp; with_reducible rfl
    try simp only [Act.put, List.setIfInBounds_toArray, List.set_cons_zero, List.set_cons_succ]
    refine wpAnyH_take (i := 1) (oi := ⟨some 11, _, _, _, _, _⟩) (v := ?_) rfl (by kernel_rfl) (by kernel_rfl) (by kernel_rfl) (fun _ _ _ h => h) (Or.inl ⟨by rfl, ?_⟩) hS ?_
    rotate_left
    · intro W hW; go_simp; with_reducible rfl
    try simp only [Act.put, List.setIfInBounds_toArray, List.set_cons_zero, List.set_cons_succ]
    refine wpAnyH_take (i := 2) (oi := ⟨some 12, _, _, _, _, _⟩) (v := ?_) rfl (by kernel_rfl) (by kernel_rfl) (by kernel_rfl) (fun _ _ _ h => h) (Or.inl ⟨by rfl, ?_⟩) hS ?_
    rotate_left
    · intro W hW; go_simp; with_reducible rfl
    try simp only [Act.put, List.setIfInBounds_toArray, List.set_cons_zero, List.set_cons_succ]
    refine wpAnyH_take (i := 5) (oi := ⟨some 15, _, _, _, _, _⟩) (v := ?_) rfl (by kernel_rfl) (by kernel_rfl) (by kernel_rfl) (fun _ _ _ h => h) (Or.inl ⟨by rfl, ?_⟩) hS ?_
    rotate_left
    · intro W hW; go_simp; with_reducible rfl
    try simp only [Act.put, List.setIfInBounds_toArray, List.set_cons_zero, List.set_cons_succ]
    refine wpAnyH_take (i := 6) (oi := ⟨some 16, _, _, _, _, _⟩) (v := ?_) rfl (by kernel_rfl) (by kernel_rfl) (by kernel_rfl) (fun _ _ _ h => h) (Or.inl ⟨by rfl, ?_⟩) hS ?_
    rotate_left
    · intro W hW; go_simp; with_reducible rfl
    try simp only [Act.put, List.setIfInBounds_toArray, List.set_cons_zero, List.set_cons_succ]
    -- operation 3: a call
    refine wpAnyH_ready (rs := [3]) (by kernel_rfl) (by simp) ?_
    refine AllReadyH.cons (o := ⟨some 13, _, _, _, _, _⟩) rfl (fun Kr hKr => ?_) AllReadyH.nil
    go_simp
    refine (refseal_any (some ⟨b, o, none⟩) c n l1 HN w.drew (hr1.below ((Below.refl _ _).drew)) hl).mono ?_
    rintro e w1 ⟨A1, c1, rfl, ho1, hb1⟩
    have hc1 : ∀ V, Since w1 V → (convert 22 9 (.slice A1 (n + 4) c1)).run Try.prog V = .ok (.string ⟨(sealB l1).toArray⟩) V := fun V hV => run_string_rd (ho1.read.up hV) _ _ Try.underlying22 Try.underlying5 Try.underlying9 _ c1 ho1.len
    show Kr _ _
    refine hKr.out _ _ ?_ (fun _ => ?_)
    · exact since_trans hS hb1
    clear hKr Kr
    refine wpAnyH_since (since_trans hS hb1) ?_
    clear hS
    have hS : Since w1 w1 := Below.refl _ _
    try simp only [Act.put, List.setIfInBounds_toArray, List.set_cons_zero, List.set_cons_succ]
    refine wpAnyH_take (i := 4) (oi := ⟨some 14, _, _, _, _, _⟩) (v := ?_) rfl (by kernel_rfl) (by kernel_rfl) (by kernel_rfl) (fun _ _ _ h => h) (Or.inl ⟨by rfl, ?_⟩) hS ?_
    rotate_left
    · intro W hW; go_simp; with_reducible rfl
    try simp only [Act.put, List.setIfInBounds_toArray, List.set_cons_zero, List.set_cons_succ]
    refine wpAnyH_take (i := 7) (oi := ⟨some 17, _, _, _, _, _⟩) (v := ?_) rfl (by kernel_rfl) (by kernel_rfl) (by kernel_rfl) (fun _ _ _ h => h) (Or.inl ⟨by rfl, ?_⟩) hS ?_
    rotate_left
    · intro W hW; go_simp; with_reducible rfl
    try simp only [Act.put, List.setIfInBounds_toArray, List.set_cons_zero, List.set_cons_succ]
    refine wpAnyH_done (by kernel_rfl) ?_ _
    have HB1 : Hid (Below w.heap.size w w1) := Lib.hid (((Below.refl w.heap.size w).drew).trans hb1)
    clear hcb hc1 hb1 ho1 hS
  · go_wp2_with fail
    go_ret2
    exact opened_no HW.out HB1.out
  · obtain ⟨hi, hz0, hz1, hz2⟩ := HI.out
    have hown0 : (w1.alloc (.cells #[] 5)).ownsRow w.heap.size 5 1 (.slice (some ⟨w1.heap.size, 0, none⟩) 0 0) 0 [] := World.ownsRow_lit w1 #[] 0 HB1.out.size (by simp [maxLen]) rfl
    have hb0 : Below w.heap.size w (w1.alloc (.cells #[] 5)) := HB1.out.alloc HB1.out.size _
    have hr1' := hr1.below hb0
    go_wp2_with (at_builtin; refine wpList_append_rd rfl (.tmp 18) (.tmp 21) _ rfl w.heap.size i0 Try.underlying22 hi hz0 hz1 hz2 (.slice (some ⟨w1.heap.size, 0, none⟩) 0 0) 0 [] rfl hown0 w.heap.size _ l1 n c rfl hr1' HN.out (by omega) hb0.size ?_; intro v3 w3 hown3 hg3 hat3; obtain ⟨A3, c3, rfl, ho3, hb3⟩ := append_step' (l := []) hown0 hb0 hb0.size hown3 hg3; clear hown3 hg3 hat3; simp only [Nat.zero_add, List.nil_append] at ho3)
    go_ret2
    exact opened_yes HW.out (by rw [HL1.out]; exact ho3) hb3

end Go.Proofs.Ytknjkihcpcimpaa
