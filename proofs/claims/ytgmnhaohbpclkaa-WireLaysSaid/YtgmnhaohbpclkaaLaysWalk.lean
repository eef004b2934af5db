/-
  WireLays: the walk: any number's bytes, and any bytes with their count, behind any others, are what the document says.
-/
import Derived.Test.YtgmnhaohbpclkaaRefPut
import Derived.Test.YtgmnhaohbpclkaaAwake
import Derived.Test.YtgmnhaohbpclkaaSince
import Derived.RegionTactic
namespace Go.Proofs.Ytgmnhaohbpclkaa
open Go.RowKit Wm

theorem conv_own {w1 W : World} {base : Nat} {A : Option Addr} {c n : Nat} {l : List UInt8} (h : Owns w1 base A c n l) (hb : Below w1.heap.size w1 W) :
    (convert 22 9 (.slice A n c)).run Try.prog W = .ok (.string ⟨l.toArray⟩) W :=
  run_string_rd (h.read.up hb) _ _ Try.underlying22 Try.underlying5 Try.underlying9 n c h.len

/-- a call that makes bytes, made later: what it makes, as a string, and that nothing old has turned -/
def MadeAt (B : Nat) (w0 W : World) (n : Nat) (l : List UInt8) (e : Ending) (W' : World) : Prop :=
  ∃ A c, e = .returned (.slice A n c) ∧ (convert 22 9 (.slice A n c)).run Try.prog W' = .ok (.string ⟨l.toArray⟩) W' ∧
    (∀ V, Since W' V → (convert 22 9 (.slice A n c)).run Try.prog V = .ok (.string ⟨l.toArray⟩) V) ∧ Below B w0 W' ∧ Below W.heap.size W W'

theorem MadeAt.of {B : Nat} {w0 W : World} {n : Nat} {l : List UInt8} (hb : Below B w0 W) (hB : B ≤ w0.heap.size) {e : Ending} {W' : World} (h : Made W n l e W') : MadeAt B w0 W n l e W' := by
  obtain ⟨A, c, rfl, ho, hbe⟩ := h
  exact ⟨A, c, rfl, conv_own ho (Below.refl _ _), fun V hV => conv_own ho hV, hb.trans (hbe.mono (Nat.le_trans hB hb.size)), hbe⟩

section
variable {B : Nat} {w0 W : World} {A : Option Addr} {c L : Nat} {l : List UInt8} {A' : Option Addr} {c' M : Nat} {m : List UInt8}
theorem put_at (hr : Rd w0 B A l) (hB : B ≤ w0.heap.size) (HL : Hid (l.length = L)) (hl : L ≤ 1073741824) {v n : Int} (hv0 : 0 ≤ v) (hv1 : v ≤ 18446744073709551615) (hb : Below B w0 W) :
    Calls Try.prog 10 #[.slice A L c, .int .u64 v, .int .i64 n] W (MadeAt B w0 W (L + clampN n) (l ++ putB (clampN n) v.toNat)) :=
  (put_any A c L l HL v n W ((hr.below hb).more (Nat.le_trans hB hb.size)) hl hv0 hv1).mono fun _ _ h => .of hb hB h
theorem refput_at (hr : Rd w0 B A l) (hB : B ≤ w0.heap.size) (HL : Hid (l.length = L)) (hl : L ≤ 1073741824) {v n : Int} (hv0 : 0 ≤ v) (hv1 : v ≤ 18446744073709551615) (hb : Below B w0 W) :
    Calls Try.prog 11 #[.slice A L c, .int .u64 v, .int .i64 n] W (MadeAt B w0 W (L + clampN n) (l ++ putB (clampN n) v.toNat)) :=
  (refput_any A c L l HL v n W ((hr.below hb).more (Nat.le_trans hB hb.size)) hl hv0 hv1).mono fun _ _ h => .of hb hB h
theorem signed_at (hr : Rd w0 B A l) (hB : B ≤ w0.heap.size) (HL : Hid (l.length = L)) (hl : L ≤ 1073741824) {v : Int} (hb : Below B w0 W) :
    Calls Try.prog 12 #[.slice A L c, .int .i64 v] W (MadeAt B w0 W (L + 8) (l ++ putB 8 (sgn v))) :=
  (signed_any A c L l HL v W ((hr.below hb).more (Nat.le_trans hB hb.size)) hl).mono fun _ _ h => .of hb hB h
theorem refsigned_at (hr : Rd w0 B A l) (hB : B ≤ w0.heap.size) (HL : Hid (l.length = L)) (hl : L ≤ 1073741824) {v : Int} (hb : Below B w0 W) :
    Calls Try.prog 13 #[.slice A L c, .int .i64 v] W (MadeAt B w0 W (L + 8) (l ++ putB 8 (sgn v))) :=
  (refsigned_any A c L l HL v W ((hr.below hb).more (Nat.le_trans hB hb.size)) hl).mono fun _ _ h => .of hb hB h
theorem list_at (hr : Rd w0 B A l) (hr' : Rd w0 B A' m) (hB : B ≤ w0.heap.size) (HL : Hid (l.length = L)) (HM : Hid (m.length = M)) (hl : L ≤ 1073741824) (hm : M ≤ 1073741824) {N : Nat} (HN : Hid ((L + if M ≤ 65535 then 2 + M else 0) = N)) (hb : Below B w0 W) :
    Calls Try.prog 14 #[.slice A L c, .slice A' M c'] W (MadeAt B w0 W N (l ++ listB m)) :=
  HN.out ▸ (list_any A c L l HL A' c' M m HM W ((hr.below hb).more (Nat.le_trans hB hb.size)) ((hr'.below hb).more (Nat.le_trans hB hb.size)) hl hm).mono fun _ _ h => .of hb hB h
theorem reflist_at (hr : Rd w0 B A l) (hr' : Rd w0 B A' m) (hB : B ≤ w0.heap.size) (HL : Hid (l.length = L)) (HM : Hid (m.length = M)) (hl : L ≤ 1073741824) (hm : M ≤ 1073741824) {N : Nat} (HN : Hid ((L + if M ≤ 65535 then 2 + M else 0) = N)) (hb : Below B w0 W) :
    Calls Try.prog 15 #[.slice A L c, .slice A' M c'] W (MadeAt B w0 W N (l ++ listB m)) :=
  HN.out ▸ (reflist_any A c L l HL A' c' M m HM W ((hr.below hb).more (Nat.le_trans hB hb.size)) ((hr'.below hb).more (Nat.le_trans hB hb.size)) hl hm).mono fun _ _ h => .of hb hB h
end

theorem hide {p : Prop} (h : p) : Hid p := h

set_option maxHeartbeats 16000000 in
theorem lays_walk (A : Option Addr) (c L : Nat) (l : List UInt8) (HL : Hid (l.length = L)) (v n s : Int) (A' : Option Addr) (c' M : Nat) (m : List UInt8) (HM : Hid (m.length = M)) (w : World)
    (hr : Rd w w.heap.size A l) (hr' : Rd w w.heap.size A' m) (hl : L ≤ 1152921504606846976) (hm : M ≤ 1152921504606846976) (hv0 : 0 ≤ v) (hv1 : v ≤ 18446744073709551615) :
    Calls Try.prog 3 #[.slice A L c, .int .u64 v, .int .i64 n, .int .i64 s, .slice A' M c'] w fun e w' => e = .returned (.bool true) ∧ Below w.heap.size w w' := by
  by_cases hlen : L + M ≤ 70000
  · go_enter Try.func3, Try.ntmps3
    go_wp2_with fail
    refine (awake_any w).mono ?_
    rintro e w0 ⟨rfl, hb0⟩
    go_wp2_with fail
    have hr0 := hr.below hb0
    have hr0' := hr'.below hb0
    have hB0 := hb0.size
    have hd0 : Below w.heap.size w0 w0.drew := (Below.refl _ _).drew
    have hl' : L ≤ 1073741824 := by omega
    have hm' : M ≤ 1073741824 := by omega
    have HD := Lib.hid hlen
    have H0 := hide hb0
    clear hb0 hl hm hlen
    obtain ⟨N, HN⟩ : ∃ N, Hid ((L + if M ≤ 65535 then 2 + M else 0) = N) := ⟨_, rfl⟩
    refine wp_region_since (by kernel_rfl) ?_
    have hS : Since w0 (World.drew w0) := (Below.refl _ _).drew
    refine wpAnyH_take (i := 0) (oi := ⟨some 20, _, _, _, _, _⟩) (v := ?_) rfl (by kernel_rfl) (by kernel_rfl) (by kernel_rfl) (fun _ _ _ h => h) (Or.inl ⟨by rfl, ?_⟩) hS ?_
    rotate_left
    · intro W hW; go_simp; with_reducible rfl
    try simp only [Act.put, List.setIfInBounds_toArray, List.set_cons_zero, List.set_cons_succ]
    refine wpAnyH_take (i := 1) (oi := ⟨some 21, _, _, _, _, _⟩) (v := ?_) rfl (by kernel_rfl) (by kernel_rfl) (by kernel_rfl) (fun _ _ _ h => h) (Or.inl ⟨by rfl, ?_⟩) hS ?_
    rotate_left
    · intro W hW; go_simp; with_reducible rfl
    try simp only [Act.put, List.setIfInBounds_toArray, List.set_cons_zero, List.set_cons_succ]
    refine wpAnyH_take (i := 2) (oi := ⟨some 22, _, _, _, _, _⟩) (v := ?_) rfl (by kernel_rfl) (by kernel_rfl) (by kernel_rfl) (fun _ _ _ h => h) (Or.inl ⟨by rfl, ?_⟩) hS ?_
    rotate_left
    · intro W hW; go_simp; with_reducible rfl
    try simp only [Act.put, List.setIfInBounds_toArray, List.set_cons_zero, List.set_cons_succ]
    refine wpAnyH_take (i := 3) (oi := ⟨some 23, _, _, _, _, _⟩) (v := ?_) rfl (by kernel_rfl) (by kernel_rfl) (by kernel_rfl) (fun _ _ _ h => h) (Or.inl ⟨by rfl, ?_⟩) hS ?_
    rotate_left
    · intro W hW; go_simp; with_reducible rfl
    try simp only [Act.put, List.setIfInBounds_toArray, List.set_cons_zero, List.set_cons_succ]
    refine wpAnyH_take (i := 4) (oi := ⟨some 24, _, _, _, _, _⟩) (v := ?_) rfl (by kernel_rfl) (by kernel_rfl) (by kernel_rfl) (fun _ _ _ h => h) (Or.inl ⟨by rfl, ?_⟩) hS ?_
    rotate_left
    · intro W hW; go_simp; with_reducible rfl
    try simp only [Act.put, List.setIfInBounds_toArray, List.set_cons_zero, List.set_cons_succ]
    refine wpAnyH_take (i := 7) (oi := ⟨some 27, _, _, _, _, _⟩) (v := ?_) rfl (by kernel_rfl) (by kernel_rfl) (by kernel_rfl) (fun _ _ _ h => h) (Or.inl ⟨by rfl, ?_⟩) hS ?_
    rotate_left
    · intro W hW; go_simp; with_reducible rfl
    try simp only [Act.put, List.setIfInBounds_toArray, List.set_cons_zero, List.set_cons_succ]
    refine wpAnyH_take (i := 8) (oi := ⟨some 28, _, _, _, _, _⟩) (v := ?_) rfl (by kernel_rfl) (by kernel_rfl) (by kernel_rfl) (fun _ _ _ h => h) (Or.inl ⟨by rfl, ?_⟩) hS ?_
    rotate_left
    · intro W hW; go_simp; with_reducible rfl
    try simp only [Act.put, List.setIfInBounds_toArray, List.set_cons_zero, List.set_cons_succ]
    refine wpAnyH_take (i := 9) (oi := ⟨some 29, _, _, _, _, _⟩) (v := ?_) rfl (by kernel_rfl) (by kernel_rfl) (by kernel_rfl) (fun _ _ _ h => h) (Or.inl ⟨by rfl, ?_⟩) hS ?_
    rotate_left
    · intro W hW; go_simp; with_reducible rfl
    try simp only [Act.put, List.setIfInBounds_toArray, List.set_cons_zero, List.set_cons_succ]
    -- operation 5: a call
    refine wpAnyH_ready (rs := [5]) (by kernel_rfl) (by simp) ?_
    refine AllReadyH.cons (o := ⟨some 25, _, _, _, _, _⟩) rfl (fun K hK => ?_) AllReadyH.nil
    go_simp
    refine (put_at hr0 hB0 HL hl' hv0 hv1 hd0).mono ?_
    rintro e w1 ⟨A1, c1, rfl, hc1, hd1, hb1, hx1⟩
    show K _ _
    refine hK.out _ _ ?_ (fun _ => ?_)
    · exact since_trans hS hx1
    clear hK K
    refine wpAnyH_since (since_trans hS hx1) ?_
    clear hS
    have hS : Since w1 w1 := Below.refl _ _
    try simp only [Act.put, List.setIfInBounds_toArray, List.set_cons_zero, List.set_cons_succ]
    refine wpAnyH_take (i := 6) (oi := ⟨some 26, _, _, _, _, _⟩) (v := ?_) rfl (by kernel_rfl) (by kernel_rfl) (by kernel_rfl) (fun _ _ _ h => h) (Or.inl ⟨by rfl, ?_⟩) hS ?_
    rotate_left
    · intro W hW; go_simp; with_reducible rfl
    try simp only [Act.put, List.setIfInBounds_toArray, List.set_cons_zero, List.set_cons_succ]
    -- operation 10: a call
    refine wpAnyH_ready (rs := [10]) (by kernel_rfl) (by simp) ?_
    refine AllReadyH.cons (o := ⟨some 30, _, _, _, _, _⟩) rfl (fun K hK => ?_) AllReadyH.nil
    go_simp
    refine (refput_at hr0 hB0 HL hl' hv0 hv1 hb1).mono ?_
    rintro e w2 ⟨A2, c2, rfl, hc2, hd2, hb2, hx2⟩
    show K _ _
    refine hK.out _ _ ?_ (fun _ => ?_)
    · exact since_trans hS hx2
    clear hK K
    refine wpAnyH_since (since_trans hS hx2) ?_
    clear hS
    have hS : Since w2 w2 := Below.refl _ _
    try simp only [Act.put, List.setIfInBounds_toArray, List.set_cons_zero, List.set_cons_succ]
    refine wpAnyH_take (i := 11) (oi := ⟨some 31, _, _, _, _, _⟩) (v := ?_) rfl (by kernel_rfl) (by kernel_rfl) (by kernel_rfl) (fun _ _ _ h => h) (Or.inl ⟨by rfl, ?_⟩) hS ?_
    rotate_left
    · intro W hW; go_simp; with_reducible rfl
    try simp only [Act.put, List.setIfInBounds_toArray, List.set_cons_zero, List.set_cons_succ]
    refine wpAnyH_take (i := 12) (oi := ⟨some 32, _, _, _, _, _⟩) (v := ?_) rfl (by kernel_rfl) (by kernel_rfl) (by kernel_rfl) (fun _ _ _ h => h) (Or.inl ⟨by rfl, ?_⟩) hS ?_
    rotate_left
    · intro W hW; go_simp; with_reducible rfl
    try simp only [Act.put, List.setIfInBounds_toArray, List.set_cons_zero, List.set_cons_succ]
    refine wpAnyH_take (i := 13) (oi := ⟨some 33, _, _, _, _, _⟩) (v := ?_) rfl (by kernel_rfl) (by kernel_rfl) (by kernel_rfl) (fun _ _ _ h => h) (Or.inl ⟨by rfl, ?_⟩) hS ?_
    rotate_left
    · intro W hW; go_simp; with_reducible rfl
    try simp only [Act.put, List.setIfInBounds_toArray, List.set_cons_zero, List.set_cons_succ]
    refine wpAnyH_take (i := 14) (oi := ⟨some 34, _, _, _, _, _⟩) (v := ?_) rfl (by kernel_rfl) (by kernel_rfl) (by kernel_rfl) (fun _ _ _ h => h) (Or.inl ⟨by rfl, ?_⟩) hS ?_
    rotate_left
    · intro W hW; go_simp; with_reducible rfl
    try simp only [Act.put, List.setIfInBounds_toArray, List.set_cons_zero, List.set_cons_succ]
    refine wpAnyH_take (i := 15) (oi := ⟨some 35, _, _, _, _, _⟩) (v := ?_) rfl (by kernel_rfl) (by kernel_rfl) (by kernel_rfl) (fun _ _ _ h => h) (Or.inl ⟨by rfl, ?_⟩) hS ?_
    rotate_left
    · intro W hW; go_simp; with_reducible rfl
    try simp only [Act.put, List.setIfInBounds_toArray, List.set_cons_zero, List.set_cons_succ]
    refine wpAnyH_take (i := 16) (oi := ⟨some 36, _, _, _, _, _⟩) (v := ?_) rfl (by kernel_rfl) (by kernel_rfl) (by kernel_rfl) (fun _ _ _ h => h) (Or.inl ⟨by rfl, ?_⟩) hS ?_
    rotate_left
    · intro W hW; go_simp; with_reducible rfl
    try simp only [Act.put, List.setIfInBounds_toArray, List.set_cons_zero, List.set_cons_succ]
    refine wpAnyH_take (i := 19) (oi := ⟨some 39, _, _, _, _, _⟩) (v := ?_) rfl (by kernel_rfl) (by kernel_rfl) (by kernel_rfl) (fun _ _ _ h => h) (Or.inl ⟨by rfl, ?_⟩) hS ?_
    rotate_left
    · intro W hW; go_simp; with_reducible rfl
    try simp only [Act.put, List.setIfInBounds_toArray, List.set_cons_zero, List.set_cons_succ]
    refine wpAnyH_take (i := 20) (oi := ⟨some 40, _, _, _, _, _⟩) (v := ?_) rfl (by kernel_rfl) (by kernel_rfl) (by kernel_rfl) (fun _ _ _ h => h) (Or.inl ⟨by rfl, ?_⟩) hS ?_
    rotate_left
    · intro W hW; go_simp; with_reducible rfl
    try simp only [Act.put, List.setIfInBounds_toArray, List.set_cons_zero, List.set_cons_succ]
    -- operation 17: a call
    refine wpAnyH_ready (rs := [17]) (by kernel_rfl) (by simp) ?_
    refine AllReadyH.cons (o := ⟨some 37, _, _, _, _, _⟩) rfl (fun K hK => ?_) AllReadyH.nil
    go_simp
    refine (signed_at hr0 hB0 HL hl' hb2).mono ?_
    rintro e w3 ⟨A3, c3, rfl, hc3, hd3, hb3, hx3⟩
    show K _ _
    refine hK.out _ _ ?_ (fun _ => ?_)
    · exact since_trans hS hx3
    clear hK K
    refine wpAnyH_since (since_trans hS hx3) ?_
    clear hS
    have hS : Since w3 w3 := Below.refl _ _
    try simp only [Act.put, List.setIfInBounds_toArray, List.set_cons_zero, List.set_cons_succ]
    refine wpAnyH_take (i := 18) (oi := ⟨some 38, _, _, _, _, _⟩) (v := ?_) rfl (by kernel_rfl) (by kernel_rfl) (by kernel_rfl) (fun _ _ _ h => h) (Or.inl ⟨by rfl, ?_⟩) hS ?_
    rotate_left
    · intro W hW; go_simp; with_reducible rfl
    try simp only [Act.put, List.setIfInBounds_toArray, List.set_cons_zero, List.set_cons_succ]
    -- operation 21: a call
    refine wpAnyH_ready (rs := [21]) (by kernel_rfl) (by simp) ?_
    refine AllReadyH.cons (o := ⟨some 41, _, _, _, _, _⟩) rfl (fun K hK => ?_) AllReadyH.nil
    go_simp
    refine (refsigned_at hr0 hB0 HL hl' hb3).mono ?_
    rintro e w4 ⟨A4, c4, rfl, hc4, hd4, hb4, hx4⟩
    show K _ _
    refine hK.out _ _ ?_ (fun _ => ?_)
    · exact since_trans hS hx4
    clear hK K
    refine wpAnyH_since (since_trans hS hx4) ?_
    clear hS
    have hS : Since w4 w4 := Below.refl _ _
    try simp only [Act.put, List.setIfInBounds_toArray, List.set_cons_zero, List.set_cons_succ]
    refine wpAnyH_take (i := 22) (oi := ⟨some 42, _, _, _, _, _⟩) (v := ?_) rfl (by kernel_rfl) (by kernel_rfl) (by kernel_rfl) (fun _ _ _ h => h) (Or.inl ⟨by rfl, ?_⟩) hS ?_
    rotate_left
    · intro W hW; go_simp; with_reducible rfl
    try simp only [Act.put, List.setIfInBounds_toArray, List.set_cons_zero, List.set_cons_succ]
    refine wpAnyH_take (i := 23) (oi := ⟨some 43, _, _, _, _, _⟩) (v := ?_) rfl (by kernel_rfl) (by kernel_rfl) (by kernel_rfl) (fun _ _ _ h => h) (Or.inl ⟨by rfl, ?_⟩) hS ?_
    rotate_left
    · intro W hW; go_simp; with_reducible rfl
    try simp only [Act.put, List.setIfInBounds_toArray, List.set_cons_zero, List.set_cons_succ]
    refine wpAnyH_take (i := 24) (oi := ⟨some 44, _, _, _, _, _⟩) (v := ?_) rfl (by kernel_rfl) (by kernel_rfl) (by kernel_rfl) (fun _ _ _ h => h) (Or.inl ⟨by rfl, ?_⟩) hS ?_
    rotate_left
    · intro W hW; go_simp; with_reducible rfl
    try simp only [Act.put, List.setIfInBounds_toArray, List.set_cons_zero, List.set_cons_succ]
    refine wpAnyH_take (i := 25) (oi := ⟨some 45, _, _, _, _, _⟩) (v := ?_) rfl (by kernel_rfl) (by kernel_rfl) (by kernel_rfl) (fun _ _ _ h => h) (Or.inl ⟨by rfl, ?_⟩) hS ?_
    rotate_left
    · intro W hW; go_simp; with_reducible rfl
    try simp only [Act.put, List.setIfInBounds_toArray, List.set_cons_zero, List.set_cons_succ]
    refine wpAnyH_take (i := 26) (oi := ⟨some 46, _, _, _, _, _⟩) (v := ?_) rfl (by kernel_rfl) (by kernel_rfl) (by kernel_rfl) (fun _ _ _ h => h) (Or.inl ⟨by rfl, ?_⟩) hS ?_
    rotate_left
    · intro W hW; go_simp; with_reducible rfl
    try simp only [Act.put, List.setIfInBounds_toArray, List.set_cons_zero, List.set_cons_succ]
    refine wpAnyH_take (i := 27) (oi := ⟨some 47, _, _, _, _, _⟩) (v := ?_) rfl (by kernel_rfl) (by kernel_rfl) (by kernel_rfl) (fun _ _ _ h => h) (Or.inl ⟨by rfl, ?_⟩) hS ?_
    rotate_left
    · intro W hW; go_simp; with_reducible rfl
    try simp only [Act.put, List.setIfInBounds_toArray, List.set_cons_zero, List.set_cons_succ]
    refine wpAnyH_take (i := 30) (oi := ⟨some 50, _, _, _, _, _⟩) (v := ?_) rfl (by kernel_rfl) (by kernel_rfl) (by kernel_rfl) (fun _ _ _ h => h) (Or.inl ⟨by rfl, ?_⟩) hS ?_
    rotate_left
    · intro W hW; go_simp; with_reducible rfl
    try simp only [Act.put, List.setIfInBounds_toArray, List.set_cons_zero, List.set_cons_succ]
    refine wpAnyH_take (i := 31) (oi := ⟨some 51, _, _, _, _, _⟩) (v := ?_) rfl (by kernel_rfl) (by kernel_rfl) (by kernel_rfl) (fun _ _ _ h => h) (Or.inl ⟨by rfl, ?_⟩) hS ?_
    rotate_left
    · intro W hW; go_simp; with_reducible rfl
    try simp only [Act.put, List.setIfInBounds_toArray, List.set_cons_zero, List.set_cons_succ]
    -- operation 28: a call
    refine wpAnyH_ready (rs := [28]) (by kernel_rfl) (by simp) ?_
    refine AllReadyH.cons (o := ⟨some 48, _, _, _, _, _⟩) rfl (fun K hK => ?_) AllReadyH.nil
    go_simp
    refine (list_at hr0 hr0' hB0 HL HM hl' hm' HN hb4).mono ?_
    rintro e w5 ⟨A5, c5, rfl, hc5, hd5, hb5, hx5⟩
    show K _ _
    refine hK.out _ _ ?_ (fun _ => ?_)
    · exact since_trans hS hx5
    clear hK K
    refine wpAnyH_since (since_trans hS hx5) ?_
    clear hS
    have hS : Since w5 w5 := Below.refl _ _
    try simp only [Act.put, List.setIfInBounds_toArray, List.set_cons_zero, List.set_cons_succ]
    refine wpAnyH_take (i := 29) (oi := ⟨some 49, _, _, _, _, _⟩) (v := ?_) rfl (by kernel_rfl) (by kernel_rfl) (by kernel_rfl) (fun _ _ _ h => h) (Or.inl ⟨by rfl, ?_⟩) hS ?_
    rotate_left
    · intro W hW; go_simp; with_reducible rfl
    try simp only [Act.put, List.setIfInBounds_toArray, List.set_cons_zero, List.set_cons_succ]
    -- operation 32: a call
    refine wpAnyH_ready (rs := [32]) (by kernel_rfl) (by simp) ?_
    refine AllReadyH.cons (o := ⟨some 52, _, _, _, _, _⟩) rfl (fun K hK => ?_) AllReadyH.nil
    go_simp
    refine (reflist_at hr0 hr0' hB0 HL HM hl' hm' HN hb5).mono ?_
    rintro e w6 ⟨A6, c6, rfl, hc6, hd6, hb6, hx6⟩
    show K _ _
    refine hK.out _ _ ?_ (fun _ => ?_)
    · exact since_trans hS hx6
    clear hK K
    refine wpAnyH_since (since_trans hS hx6) ?_
    clear hS
    have hS : Since w6 w6 := Below.refl _ _
    try simp only [Act.put, List.setIfInBounds_toArray, List.set_cons_zero, List.set_cons_succ]
    refine wpAnyH_take (i := 33) (oi := ⟨some 53, _, _, _, _, _⟩) (v := ?_) rfl (by kernel_rfl) (by kernel_rfl) (by kernel_rfl) (fun _ _ _ h => h) (Or.inl ⟨by rfl, ?_⟩) hS ?_
    rotate_left
    · intro W hW; go_simp; with_reducible rfl
    try simp only [Act.put, List.setIfInBounds_toArray, List.set_cons_zero, List.set_cons_succ]
    refine wpAnyH_take (i := 34) (oi := ⟨some 54, _, _, _, _, _⟩) (v := ?_) rfl (by kernel_rfl) (by kernel_rfl) (by kernel_rfl) (fun _ _ _ h => h) (Or.inl ⟨by rfl, ?_⟩) hS ?_
    rotate_left
    · intro W hW; go_simp; with_reducible rfl
    try simp only [Act.put, List.setIfInBounds_toArray, List.set_cons_zero, List.set_cons_succ]
    refine wpAnyH_take (i := 35) (oi := ⟨some 55, _, _, _, _, _⟩) (v := ?_) rfl (by kernel_rfl) (by kernel_rfl) (by kernel_rfl) (fun _ _ _ h => h) (Or.inl ⟨by rfl, ?_⟩) hS ?_
    rotate_left
    · intro W hW; go_simp; with_reducible rfl
    try simp only [Act.put, List.setIfInBounds_toArray, List.set_cons_zero, List.set_cons_succ]
    refine wpAnyH_take (i := 36) (oi := ⟨some 10, _, _, _, _, _⟩) (v := ?_) rfl (by kernel_rfl) (by kernel_rfl) (by kernel_rfl) (fun _ _ _ h => h) (Or.inl ⟨by rfl, ?_⟩) hS ?_
    rotate_left
    · intro W hW; go_simp; with_reducible rfl
    try simp only [Act.put, List.setIfInBounds_toArray, List.set_cons_zero, List.set_cons_succ]
    refine wpAnyH_done (by kernel_rfl) ?_ _
    go_wp2_with fail
    go_ret
    exact ⟨rfl, H0.out.trans hb6⟩
  · go_enter Try.func3, Try.ntmps3
    go_wp2_with fail
    refine (awake_any w).mono ?_
    rintro e w0 ⟨rfl, hb0⟩
    go_wp2_with fail
    go_ret
    exact ⟨rfl, hb0⟩
end Go.Proofs.Ytgmnhaohbpclkaa
