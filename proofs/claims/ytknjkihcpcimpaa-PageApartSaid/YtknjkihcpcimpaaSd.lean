/-
  A sector held against what is laid; a reader behind a sector's name.
-/
import Derived.Test.YtknjkihcpcimpaaSc
import Derived.Test.YtknjkihcpcimpaaZeroWalk
namespace Go.Proofs.Ytknjkihcpcimpaa
set_option maxRecDepth 100000
set_option linter.unusedVariables false
open Go.RowKit Crc Wm Pg

theorem exec_build_sec {W : World} {o : Oper} {ρ : Operand → Value} (ho : o.op = .build 55 #[]) : (execOp ρ o).run Try.prog W = .ok (.value (secV nil64)) W := by
  have h := run_build (P := Try.prog) W 55 #[] (secC nil64) (by simpa using sec_built)
  unfold execOp
  simp only [ho, Sem.run_bind, Sem.run_pure, Array.map_empty, h, Result.andThen_ok]
  rfl
theorem exec_eql_sec {W : World} {o : Oper} {ρ : Operand → Value} {x y : Operand} {ty : TypeId} (ho : o.op = .binOp .eql 55 x y ty) {s t : List UInt8} (hs : s.length = 64) (ht : t.length = 64) (hx : ρ x = secV s) (hy : ρ y = secV t) {b : Bool} (hb : (s == t) = b) :
    (execOp ρ o).run Try.prog W = .ok (.value (.bool b)) W := by
  unfold execOp
  simp only [ho, hx, hy, Sem.run_bind, Sem.run_pure, run_sec_guard, Result.andThen_ok, run_sec_eql s t hs ht]
  rw [hb]

def IsOut (w : World) (s l : List UInt8) (e : Ending) (w' : World) : Prop := e = .returned (.bool (s == nil64 || s == padTo 64 l)) ∧ Below w.heap.size w w'

set_option maxHeartbeats 1000000 in
theorem is_any (s : List UInt8) (hs : s.length = 64) (A : Option Addr) (c n : Nat) (l : List UInt8) (hn : n ≤ 64) (w : World) (hl : Lies w A c n l) :
    Calls Try.prog 34 #[secV s, .slice A n c] w (IsOut w s l) := by
  have HL := Lib.hid hl
  have HSL := Lib.hid hs
  have HPL := Lib.hid (length_padTo (K := 64) (l := l) (by rw [hl.len]; exact hn))
  clear hl hs
  have hs0 : SecAt (w.alloc (.cells (secC s) 55)) w.heap.size s := ⟨heap_alloc_new w _, HSL.out⟩
  have hb0 := below_new w (.cells (secC s) 55)
  unfold IsOut
  have HV : Hid (secV s = .agg (secC s)) := Lib.hid rfl
  rw [HV.out]
  obtain ⟨C, hC⟩ : ∃ C, C = secC s := ⟨_, rfl⟩
  have HC : Hid (.agg C = secV s) := Lib.hid (by rw [hC]; rfl)
  rw [← hC] at hs0 hb0 ⊢
  have HS0 := Lib.hid hs0
  have HB0 := Lib.hid hb0
  clear hs0 hb0 hC HV
  cases hq : s == nil64 with
  | true =>
    have HQ := Lib.hid hq
    rw [Bool.true_or]
    clear hq
    go_enter Try.func34, Try.ntmps34
    go_upto_region 1 with fail
    generalize w.alloc (.cells C 55) = w0 at *
    have HLD := Lib.hid (fun V (hV : Since w0 V) => run_load_sec (HS0.out.below hV))
    refine wp_region_since (by kernel_rfl) ?_
    have hS : Since w0 (World.drew w0) := (Below.refl _ _).drew
    refine wpAnyH_take (i := 0) (oi := ⟨some 5, _, _, _, _, _⟩) (v := (secV s)) rfl (by kernel_rfl) (by kernel_rfl) (by kernel_rfl) (fun _ _ _ h => h) (Or.inl ⟨by rfl, fun W hW => exec_load rfl rfl (HLD.out W hW)⟩) hS ?_
    try simp only [Act.put, List.setIfInBounds_toArray, List.set_cons_zero, List.set_cons_succ]
    refine wpAnyH_take (i := 1) (oi := ⟨some 6, _, _, _, _, _⟩) (v := (secV nil64)) rfl (by kernel_rfl) (by kernel_rfl) (by kernel_rfl) (fun _ _ _ h => h) (Or.inl ⟨by rfl, fun W hW => exec_build_sec rfl⟩) hS ?_
    try simp only [Act.put, List.setIfInBounds_toArray, List.set_cons_zero, List.set_cons_succ]
    refine wpAnyH_take (i := 2) (oi := ⟨some 7, _, _, _, _, _⟩) (v := (.bool true)) rfl (by kernel_rfl) (by kernel_rfl) (by kernel_rfl) (fun _ _ _ h => h) (Or.inl ⟨by rfl, fun W hW => exec_eql_sec rfl HSL.out length_nil64 rfl rfl HQ.out⟩) hS ?_
    try simp only [Act.put, List.setIfInBounds_toArray, List.set_cons_zero, List.set_cons_succ]
    refine wpAnyH_take (i := 3) (oi := ⟨some 8, _, _, _, _, _⟩) (v := ?_) rfl (by kernel_rfl) (by kernel_rfl) (by kernel_rfl) (fun _ _ _ h => h) (Or.inl ⟨by rfl, ?_⟩) hS ?_
    rotate_left
    · intro W hW; go_simp; with_reducible rfl
    try simp only [Act.put, List.setIfInBounds_toArray, List.set_cons_zero, List.set_cons_succ]
    refine wpAnyH_take (i := 4) (oi := ⟨some 9, _, _, _, _, _⟩) (v := undef) rfl (by kernel_rfl) (by kernel_rfl) (by kernel_rfl) (fun _ _ _ h => h) (Or.inr ⟨by rfl, rfl⟩) hS ?_
    try simp only [Act.put, List.setIfInBounds_toArray, List.set_cons_zero, List.set_cons_succ]
    refine wpAnyH_take (i := 5) (oi := ⟨some 10, _, _, _, _, _⟩) (v := undef) rfl (by kernel_rfl) (by kernel_rfl) (by kernel_rfl) (fun _ _ _ h => h) (Or.inr ⟨by rfl, rfl⟩) hS ?_
    try simp only [Act.put, List.setIfInBounds_toArray, List.set_cons_zero, List.set_cons_succ]
    refine wpAnyH_take (i := 6) (oi := ⟨some 11, _, _, _, _, _⟩) (v := undef) rfl (by kernel_rfl) (by kernel_rfl) (by kernel_rfl) (fun _ _ _ h => h) (Or.inr ⟨by rfl, rfl⟩) hS ?_
    try simp only [Act.put, List.setIfInBounds_toArray, List.set_cons_zero, List.set_cons_succ]
    refine wpAnyH_take (i := 7) (oi := ⟨some 12, _, _, _, _, _⟩) (v := undef) rfl (by kernel_rfl) (by kernel_rfl) (by kernel_rfl) (fun _ _ _ h => h) (Or.inr ⟨by rfl, rfl⟩) hS ?_
    try simp only [Act.put, List.setIfInBounds_toArray, List.set_cons_zero, List.set_cons_succ]
    refine wpAnyH_take (i := 8) (oi := ⟨some 13, _, _, _, _, _⟩) (v := ?_) rfl (by kernel_rfl) (by kernel_rfl) (by kernel_rfl) (fun _ _ _ h => h) (Or.inl ⟨by rfl, ?_⟩) hS ?_
    rotate_left
    · intro W hW; go_simp; with_reducible rfl
    try simp only [Act.put, List.setIfInBounds_toArray, List.set_cons_zero, List.set_cons_succ]
    refine wpAnyH_take (i := 9) (oi := ⟨some 4, _, _, _, _, _⟩) (v := ?_) rfl (by kernel_rfl) (by kernel_rfl) (by kernel_rfl) (fun _ _ _ h => h) (Or.inl ⟨by rfl, ?_⟩) hS ?_
    rotate_left
    · intro W hW; go_simp; with_reducible rfl
    try simp only [Act.put, List.setIfInBounds_toArray, List.set_cons_zero, List.set_cons_succ]
    refine wpAnyH_done (by kernel_rfl) ?_ _
    have HB1 := Lib.hid (below_two HB0.out hS)
    clear hS
    go_wp2_with fail
    go_ret
    exact ⟨rfl, HB1.out⟩
  | false =>
    have HQ := Lib.hid hq
    obtain ⟨b, hb⟩ : ∃ b, (s == padTo 64 l) = b := ⟨_, rfl⟩
    have HBQ := Lib.hid hb
    rw [hb, Bool.false_or]
    clear hq hb
    go_enter Try.func34, Try.ntmps34
    go_upto_region 1 with fail
    generalize w.alloc (.cells C 55) = w0 at *
    have HLD := Lib.hid (fun V (hV : Since w0 V) => run_load_sec (HS0.out.below hV))
    have HCP := Lib.hid (fun V (hV : Since w0 V) => copied_any A c n l hn V ((HL.out.up HB0.out).up hV))
    refine wp_region_since (by kernel_rfl) ?_
    have hS : Since w0 (World.drew w0) := (Below.refl _ _).drew
    refine wpAnyH_take (i := 0) (oi := ⟨some 5, _, _, _, _, _⟩) (v := (secV s)) rfl (by kernel_rfl) (by kernel_rfl) (by kernel_rfl) (fun _ _ _ h => h) (Or.inl ⟨by rfl, fun W hW => exec_load rfl rfl (HLD.out W hW)⟩) hS ?_
    try simp only [Act.put, List.setIfInBounds_toArray, List.set_cons_zero, List.set_cons_succ]
    refine wpAnyH_take (i := 1) (oi := ⟨some 6, _, _, _, _, _⟩) (v := (secV nil64)) rfl (by kernel_rfl) (by kernel_rfl) (by kernel_rfl) (fun _ _ _ h => h) (Or.inl ⟨by rfl, fun W hW => exec_build_sec rfl⟩) hS ?_
    try simp only [Act.put, List.setIfInBounds_toArray, List.set_cons_zero, List.set_cons_succ]
    refine wpAnyH_take (i := 2) (oi := ⟨some 7, _, _, _, _, _⟩) (v := (.bool false)) rfl (by kernel_rfl) (by kernel_rfl) (by kernel_rfl) (fun _ _ _ h => h) (Or.inl ⟨by rfl, fun W hW => exec_eql_sec rfl HSL.out length_nil64 rfl rfl HQ.out⟩) hS ?_
    try simp only [Act.put, List.setIfInBounds_toArray, List.set_cons_zero, List.set_cons_succ]
    refine wpAnyH_take (i := 3) (oi := ⟨some 8, _, _, _, _, _⟩) (v := ?_) rfl (by kernel_rfl) (by kernel_rfl) (by kernel_rfl) (fun _ _ _ h => h) (Or.inl ⟨by rfl, ?_⟩) hS ?_
    rotate_left
    · intro W hW; go_simp; with_reducible rfl
    try simp only [Act.put, List.setIfInBounds_toArray, List.set_cons_zero, List.set_cons_succ]
    refine wpAnyH_take (i := 4) (oi := ⟨some 9, _, _, _, _, _⟩) (v := (secV s)) rfl (by kernel_rfl) (by kernel_rfl) (by kernel_rfl) (fun _ _ _ h => h) (Or.inl ⟨by rfl, fun W hW => exec_load rfl rfl (HLD.out W hW)⟩) hS ?_
    try simp only [Act.put, List.setIfInBounds_toArray, List.set_cons_zero, List.set_cons_succ]
    refine wpAnyH_take (i := 5) (oi := ⟨some 10, _, _, _, _, _⟩) (v := ?_) rfl (by kernel_rfl) (by kernel_rfl) (by kernel_rfl) (fun _ _ _ h => h) (Or.inl ⟨by rfl, ?_⟩) hS ?_
    rotate_left
    · intro W hW; go_simp; with_reducible rfl
    try simp only [Act.put, List.setIfInBounds_toArray, List.set_cons_zero, List.set_cons_succ]
    refine wpAnyH_ready (rs := [6]) (by kernel_rfl) (by simp) ?_
    refine AllReadyH.cons (o := ⟨some 11, _, _, _, _, _⟩) rfl (fun Kr hKr => ?_) AllReadyH.nil
    -- operation 6: a call
    go_simp
    refine (HCP.out _ hS).mono ?_
    rintro r ta ⟨rfl, hta⟩
    show Kr _ _
    refine hKr.out _ _ ?_ (fun _ => ?_)
    · exact since_trans hS hta
    clear hKr Kr
    replace hS : Since w0 ta := since_trans hS hta
    try simp only [Act.put, List.setIfInBounds_toArray, List.set_cons_zero, List.set_cons_succ]
    refine wpAnyH_take (i := 7) (oi := ⟨some 12, _, _, _, _, _⟩) (v := (.bool b)) rfl (by kernel_rfl) (by kernel_rfl) (by kernel_rfl) (fun _ _ _ h => h) (Or.inl ⟨by rfl, fun W hW => exec_eql_sec rfl HSL.out HPL.out rfl rfl HBQ.out⟩) hS ?_
    try simp only [Act.put, List.setIfInBounds_toArray, List.set_cons_zero, List.set_cons_succ]
    refine wpAnyH_take (i := 8) (oi := ⟨some 13, _, _, _, _, _⟩) (v := ?_) rfl (by kernel_rfl) (by kernel_rfl) (by kernel_rfl) (fun _ _ _ h => h) (Or.inl ⟨by rfl, ?_⟩) hS ?_
    rotate_left
    · intro W hW; go_simp; with_reducible rfl
    try simp only [Act.put, List.setIfInBounds_toArray, List.set_cons_zero, List.set_cons_succ]
    refine wpAnyH_take (i := 9) (oi := ⟨some 4, _, _, _, _, _⟩) (v := ?_) rfl (by kernel_rfl) (by kernel_rfl) (by kernel_rfl) (fun _ _ _ h => h) (Or.inl ⟨by rfl, ?_⟩) hS ?_
    rotate_left
    · intro W hW; go_simp; with_reducible rfl
    try simp only [Act.put, List.setIfInBounds_toArray, List.set_cons_zero, List.set_cons_succ]
    refine wpAnyH_done (by kernel_rfl) ?_ _
    have HB1 := Lib.hid (below_two HB0.out hS)
    clear hS
    go_wp2_with fail
    go_ret
    exact ⟨rfl, HB1.out⟩

/-- a reader where another block has turned -/
theorem Cur.other {w V : World} {r t cap n k g o q : Nat} {l : List UInt8} (h : Cur w r t (some ⟨g, o, none⟩) cap n k l) (hg : w.grownBy V (some q)) (h1 : r ≠ q) (h2 : g ≠ q) : Cur V r t (some ⟨g, o, none⟩) cap n k l := by
  refine ⟨(hg.block r h.lt (fun e => by injection e with e; exact h1 e)).trans h.blk, h.le, h.len, h.cap_, h.nm, ?_⟩
  rcases h.rd with h3 | ⟨b, o', e, hb, hc⟩
  · exact .inl h3
  · injection e with e
    injection e with e1 e2 _
    subst e1 e2
    have hlt := h.lt
    exact .inr ⟨g, o, rfl, hb, fun j x hx => (World.cell?_of_block (a := ⟨g, o + j, none⟩) (hg.block g (by omega) (fun e => by injection e with e; exact h2 e))).trans (hc j x hx)⟩

set_option maxHeartbeats 1000000 in
theorem numbers_any (s : List UInt8) (hs : s.length = 64) (w : World) : Calls Try.prog 32 #[secV s] w fun e w' =>
    ∃ r g, e = .returned (.pointer (some ⟨r, 0, none⟩)) ∧ Cur w' r 83 (some ⟨g, 2, none⟩) 62 62 0 (s.drop 2) ∧ Below w.heap.size w w' ∧ w.heap.size ≤ r ∧ w.heap.size ≤ g := by
  have HSL := Lib.hid hs
  clear hs
  have hs0 : SecAt (w.alloc (.cells (secC s) 55)) w.heap.size s := ⟨heap_alloc_new w _, HSL.out⟩
  have hb0 := below_new w (.cells (secC s) 55)
  have HV : Hid (secV s = .agg (secC s)) := Lib.hid rfl
  rw [HV.out]
  obtain ⟨C, hC⟩ : ∃ C, C = secC s := ⟨_, rfl⟩
  rw [← hC] at hs0 hb0 ⊢
  have HS0 := Lib.hid hs0
  have HB0 := Lib.hid hb0
  clear hs0 hb0 hC HV
  go_enter Try.func32, Try.ntmps32
  go_upto_region 1 with fail
  generalize w.alloc (.cells C 55) = w0 at *
  have HR : Hid (Rd w0 w0.heap.size (some ⟨w.heap.size, 2, none⟩) (s.drop 2)) := Lib.hid (by
    have h := HS0.out.rd.cut 2 62 (some ⟨w.heap.size, 2, none⟩) (fun b o e _ => by injection e with e; injection e with e1 e2; subst e1 e2; rfl)
    rwa [List.take_of_length_le (by rw [List.length_drop, HSL.out]; omega)] at h)
  have HDL : Hid ((s.drop 2).length = 62) := Lib.hid (by rw [List.length_drop, HSL.out])
  have HLE := Lib.hid HB0.out.size
  go_wp2_with fail
  refine (new_any HDL (by omega) (by omega) HR.out).mono ?_
  rintro e w2 ⟨r, rfl, hc2, hb2, hr2⟩
  have HC2 := Lib.hid hc2
  have HB2 := Lib.hid (HB0.out.trans (hb2.mono HLE.out))
  have HR2 := Lib.hid (Nat.le_trans HLE.out hr2)
  clear hc2 hb2 hr2
  go_wp2_with fail
  go_ret
  exact ⟨r, w.heap.size, rfl, HC2.out, HB2.out, HR2.out, Nat.le_refl _⟩

set_option maxHeartbeats 1000000 in
theorem lsnof_any {w : World} {r cap n k : Nat} {A : Option Addr} {l : List UInt8} (h : Cur w r 83 A cap n k l) (hm : 6 ≤ n - k) :
    Calls Try.prog 31 #[.pointer (some ⟨r, 0, none⟩)] w fun e w' => e = .returned (.int .i64 (valB ((l.drop k).take 6) : Nat)) ∧ Cur w' r 83 A cap n (k + 6) l ∧ w.grownBy w' (some r) := by
  have hX : valB ((l.drop k).take 6) < 281474976710656 := by
    refine Nat.lt_of_lt_of_le (valB_lt _) ?_
    have h : ((l.drop k).take 6).length ≤ 6 := by rw [List.length_take]; omega
    exact Nat.le_trans (Nat.pow_le_pow_right (by omega) h) (by decide)
  have HG := Lib.hid (get_ok h 6 (by omega) (by omega) hm)
  obtain ⟨X, hV⟩ : ∃ X, X = valB ((l.drop k).take 6) := ⟨_, rfl⟩
  rw [← hV] at hX ⊢
  have HV := Lib.hid hV
  clear hV
  have hwX : IntKind.i64.wrap (X : Int) = (X : Int) := by rw [IntKind.wrap_i64]; omega
  clear h
  go_enter Try.func31, Try.ntmps31
  go_wp2_with fail
  refine HG.out.mono ?_
  rintro e w2 ⟨rfl, hcur, hg⟩
  rw [← HV.out]
  have H1 := hide2 hcur
  have H2 := hide2 hg
  clear hcur hg
  go_wp2_with fail
  go_ret
  exact ⟨rfl, H1.out, H2.out⟩

end Go.Proofs.Ytknjkihcpcimpaa
