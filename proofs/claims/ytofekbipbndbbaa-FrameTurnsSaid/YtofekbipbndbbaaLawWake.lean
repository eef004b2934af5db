/-
  The statements' own calls: the example, few and short lists, pieces from one side to the other, the same pieces, the same lists.
-/
import Derived.Test.YtofekbipbndbbaaGatCut
import Derived.Test.YtofekbipbndbbaaRefGath6
import Derived.Test.YtofekbipbndbbaaRefCut6
namespace Go.Proofs.Ytofekbipbndbbaa
open Go.RowKit Crc Wm

def few (ls : List (List UInt8)) : Bool := decide (ls.length ≤ 30 ∧ ∀ x ∈ ls, x.length ≤ 200)

set_option maxHeartbeats 1000000 in
theorem small_any (A : Option Addr) (c m : Nat) (ls : List (List UInt8)) (HM : Hid (ls.length = m)) (w : World) (hls : Ls w A ls) :
    Calls Try.prog 10 #[.slice A m c] w fun e w' => e = .returned (.bool (few ls)) ∧ w = w' := by
  rcases Nat.lt_or_ge 30 m with hbig | hsm
  · have hf : few ls = false := decide_eq_false (fun h => by have := h.1; rw [HM.out] at this; omega)
    rw [hf]
    clear hf
    go_enter Try.func10, Try.ntmps10
    go_wp2_with fail
    go_ret
    exact ⟨rfl, rfl⟩
  have HL := Lib.hid hls
  clear hls
  go_enter Try.func10, Try.ntmps10
  go_wp2_with fail
  go_loopw [3] (fun u wr => ∃ k : Nat, u = .int .i64 (k : Int) ∧ k ≤ m ∧ Hid (∀ x ∈ ls.take k, x.length ≤ 200) ∧ wr = w) (fun u _ => m - (intOf u).toNat)
  case atStart => exact ⟨0, rfl, by omega, Lib.hid (by simp), rfl⟩
  case round =>
    obtain ⟨k, rfl, hk, HZ, rfl⟩ := hrel
    rcases Nat.lt_or_ge k m with hlt | hge
    · have hkl : k < ls.length := by rw [HM.out]; exact hlt
      obtain ⟨b, o, Ax, n, cx, rfl, hb, hc, hlx⟩ := HL.out.at_ (List.getElem?_eq_getElem hkl)
      have HT := Lib.hid (List.take_succ_eq_append_getElem hkl)
      have HE := Lib.hid (List.getElem_mem hkl)
      have HN := Lib.hid hlx.len
      generalize ls[k] = x at hc HT HE HN
      clear hkl hlx
      by_cases hn : n ≤ 200
      · go_wp2_with fail
        refine ⟨⟨k + 1, by go_num, by omega, Lib.hid ?_, trivial⟩, by simp [intOf]; omega⟩
        intro y hy
        rw [HT.out, List.mem_append, List.mem_singleton] at hy
        rcases hy with hy | rfl
        · exact HZ.out y hy
        · rw [HN.out]; exact hn
      · have hf : few ls = false := decide_eq_false (fun h => by have := h.2 x HE.out; rw [HN.out] at this; omega)
        have HF := Lib.hid hf
        clear hf
        go_wp2_with fail
        go_ret
        exact ⟨by rw [HF.out]; rfl, rfl⟩
    · obtain rfl : k = m := by omega
      have hz := HZ.out
      rw [List.take_of_length_le (by rw [HM.out]; exact Nat.le_refl _)] at hz
      have hf : few ls = true := decide_eq_true ⟨by rw [HM.out]; exact hsm, hz⟩
      have HF := Lib.hid hf
      clear hf hz
      go_wp2_with fail
      go_ret
      exact ⟨by rw [HF.out]; rfl, rfl⟩

set_option maxHeartbeats 400000 in
theorem ours_any (p : Pv) (w : World) : Calls Try.prog 12 #[pvV p] w fun e w' => e = .returned (pvV p) ∧ Below w.heap.size w w' := by
  have HB := Lib.hid (below_two (below_new w (.cells (pvC p) 24)) (below_new _ (.cells (pvC p) 31)))
  obtain ⟨E, A, I, C, ad, n, c⟩ := p
  go_enter Try.func12, Try.ntmps12
  go_wp2_with fail
  refine bodyPost_ret (v := pvV ⟨E, A, I, C, ad, n, c⟩) (by simp [results, Try.results12, go_sem]) rfl ⟨rfl, ?_⟩
  exact HB.out
set_option maxHeartbeats 400000 in
theorem theirs_any (p : Pv) (w : World) : Calls Try.prog 21 #[pvV p] w fun e w' => e = .returned (pvV p) ∧ Below w.heap.size w w' := by
  have HB := Lib.hid (below_two (below_new w (.cells (pvC p) 31)) (below_new _ (.cells (pvC p) 24)))
  obtain ⟨E, A, I, C, ad, n, c⟩ := p
  go_enter Try.func21, Try.ntmps21
  go_wp2_with fail
  refine bodyPost_ret (v := pvV ⟨E, A, I, C, ad, n, c⟩) (by simp [results, Try.results21, go_sem]) rfl ⟨rfl, ?_⟩
  exact HB.out

set_option maxHeartbeats 1000000 in
set_option maxRecDepth 100000 in
theorem same_any (E A I C : Int) (a1 a2 : Option Addr) (n1 c1 n2 c2 : Nat) (D : List UInt8) (w : World) (h1 : Lies w a1 c1 n1 D) (h2 : Lies w a2 c2 n2 D) :
    Calls Try.prog 20 #[pvV ⟨E, A, I, C, a1, n1, c1⟩, pvV ⟨E, A, I, C, a2, n2, c2⟩] w fun e w' => e = .returned (.bool true) ∧ Below w.heap.size w w' := by
  have hb1 := below_new w (.cells (pvC ⟨E, A, I, C, a1, n1, c1⟩) 24)
  have hb2 := below_new (w.alloc (.cells (pvC ⟨E, A, I, C, a1, n1, c1⟩) 24)) (.cells (pvC ⟨E, A, I, C, a2, n2, c2⟩) 24)
  have k1 := ((h1.up hb1).up hb2).conv
  have k2 := ((h2.up hb1).up hb2).conv
  have HB := Lib.hid (below_two hb1 hb2)
  clear hb1 hb2 h1 h2
  go_enter Try.func20, Try.ntmps20
  go_wp2_with fail
  go_ret
  exact ⟨rfl, HB.out⟩

set_option maxHeartbeats 1000000 in
set_option maxRecDepth 100000 in
theorem lists_any (A1 A2 : Option Addr) (c1 c2 m : Nat) (ls : List (List UInt8)) (HM : Hid (ls.length = m)) (hm : m ≤ 1000000) (w : World) (h1 : Ls w A1 ls) (h2 : Ls w A2 ls) :
    Calls Try.prog 22 #[.slice A1 m c1, .slice A2 m c2] w fun e w' => e = .returned (.bool true) ∧ Below w.heap.size w w' := by
  have HL1 := Lib.hid h1
  have HL2 := Lib.hid h2
  clear h1 h2
  go_enter Try.func22, Try.ntmps22
  go_wp2_with fail
  go_loopw [5] (fun u wr => ∃ k : Nat, u = .int .i64 (k : Int) ∧ k ≤ m ∧ Hid (Below w.heap.size w wr)) (fun u _ => m - (intOf u).toNat)
  case atStart => exact ⟨0, rfl, by omega, Lib.hid (Below.refl _ _)⟩
  case round =>
    obtain ⟨k, rfl, hk, HB⟩ := hrel
    rcases Nat.lt_or_ge k m with hlt | hge
    · have hkl : k < ls.length := by rw [HM.out]; exact hlt
      obtain ⟨b1, o1, Ax1, n1, cx1, rfl, hb1, hc1, hl1⟩ := (HL1.out.up HB.out).at_ (List.getElem?_eq_getElem hkl)
      obtain ⟨b2, o2, Ax2, n2, cx2, rfl, hb2, hc2, hl2⟩ := (HL2.out.up HB.out).at_ (List.getElem?_eq_getElem hkl)
      generalize ls[k] = x at hl1 hl2
      have d1 : ∀ V, Since wr V → V.cell? ⟨b1, o1 + k, none⟩ = some (.slice Ax1 n1 cx1) := fun V hV => (hV.cell (p := ⟨b1, o1 + k, none⟩) hb1).trans hc1
      have d2 : ∀ V, Since wr V → V.cell? ⟨b2, o2 + k, none⟩ = some (.slice Ax2 n2 cx2) := fun V hV => (hV.cell (p := ⟨b2, o2 + k, none⟩) hb2).trans hc2
      have k1 : ∀ V, Since wr V → (convert 22 9 (.slice Ax1 n1 cx1)).run Try.prog V = .ok (.string ⟨x.toArray⟩) V := fun V hV => (hl1.up hV).conv
      have k2 : ∀ V, Since wr V → (convert 22 9 (.slice Ax2 n2 cx2)).run Try.prog V = .ok (.string ⟨x.toArray⟩) V := fun V hV => (hl2.up hV).conv
      have hik : (k : Int) < (m : Int) := by omega
      have hmw : Hid (k < m) := hlt
      clear hkl hb1 hb2 hc1 hc2 hl1 hl2
      go_wp2_with fail
      refine wp_region_since (by kernel_rfl) ?_
      have hS : Since wr (World.drew wr) := (Below.refl _ _).drew
      refine wpAnyH_take (i := 0) (oi := ⟨some 17, _, _, _, _, _⟩) (v := ?_) rfl (by kernel_rfl) (by kernel_rfl) (by kernel_rfl) (fun _ _ _ h => h) (Or.inl ⟨by rfl, ?_⟩) hS ?_
      rotate_left
      · intro W hW; go_simp; with_reducible rfl
      try simp only [Act.put, List.setIfInBounds_toArray, List.set_cons_zero, List.set_cons_succ]
      refine wpAnyH_take (i := 1) (oi := ⟨some 18, _, _, _, _, _⟩) (v := ?_) rfl (by kernel_rfl) (by kernel_rfl) (by kernel_rfl) (fun _ _ _ h => h) (Or.inl ⟨by rfl, ?_⟩) hS ?_
      rotate_left
      · intro W hW; go_simp; with_reducible rfl
      try simp only [Act.put, List.setIfInBounds_toArray, List.set_cons_zero, List.set_cons_succ]
      refine wpAnyH_take (i := 2) (oi := ⟨some 19, _, _, _, _, _⟩) (v := ?_) rfl (by kernel_rfl) (by kernel_rfl) (by kernel_rfl) (fun _ _ _ h => h) (Or.inl ⟨by rfl, ?_⟩) hS ?_
      rotate_left
      · intro W hW; go_simp; with_reducible rfl
      try simp only [Act.put, List.setIfInBounds_toArray, List.set_cons_zero, List.set_cons_succ]
      refine wpAnyH_take (i := 3) (oi := ⟨some 20, _, _, _, _, _⟩) (v := ?_) rfl (by kernel_rfl) (by kernel_rfl) (by kernel_rfl) (fun _ _ _ h => h) (Or.inl ⟨by rfl, ?_⟩) hS ?_
      rotate_left
      · intro W hW; go_simp; with_reducible rfl
      try simp only [Act.put, List.setIfInBounds_toArray, List.set_cons_zero, List.set_cons_succ]
      refine wpAnyH_take (i := 4) (oi := ⟨some 21, _, _, _, _, _⟩) (v := ?_) rfl (by kernel_rfl) (by kernel_rfl) (by kernel_rfl) (fun _ _ _ h => h) (Or.inl ⟨by rfl, ?_⟩) hS ?_
      rotate_left
      · intro W hW; go_simp; with_reducible rfl
      try simp only [Act.put, List.setIfInBounds_toArray, List.set_cons_zero, List.set_cons_succ]
      refine wpAnyH_take (i := 5) (oi := ⟨some 22, _, _, _, _, _⟩) (v := ?_) rfl (by kernel_rfl) (by kernel_rfl) (by kernel_rfl) (fun _ _ _ h => h) (Or.inl ⟨by rfl, ?_⟩) hS ?_
      rotate_left
      · intro W hW; go_simp; with_reducible rfl
      try simp only [Act.put, List.setIfInBounds_toArray, List.set_cons_zero, List.set_cons_succ]
      refine wpAnyH_take (i := 6) (oi := ⟨some 23, _, _, _, _, _⟩) (v := ?_) rfl (by kernel_rfl) (by kernel_rfl) (by kernel_rfl) (fun _ _ _ h => h) (Or.inl ⟨by rfl, ?_⟩) hS ?_
      rotate_left
      · intro W hW; go_simp; with_reducible rfl
      try simp only [Act.put, List.setIfInBounds_toArray, List.set_cons_zero, List.set_cons_succ]
      refine wpAnyH_take (i := 7) (oi := ⟨some 24, _, _, _, _, _⟩) (v := ?_) rfl (by kernel_rfl) (by kernel_rfl) (by kernel_rfl) (fun _ _ _ h => h) (Or.inl ⟨by rfl, ?_⟩) hS ?_
      rotate_left
      · intro W hW; go_simp; with_reducible rfl
      try simp only [Act.put, List.setIfInBounds_toArray, List.set_cons_zero, List.set_cons_succ]
      refine wpAnyH_take (i := 8) (oi := ⟨some 25, _, _, _, _, _⟩) (v := ?_) rfl (by kernel_rfl) (by kernel_rfl) (by kernel_rfl) (fun _ _ _ h => h) (Or.inl ⟨by rfl, ?_⟩) hS ?_
      rotate_left
      · intro W hW; go_simp; with_reducible rfl
      try simp only [Act.put, List.setIfInBounds_toArray, List.set_cons_zero, List.set_cons_succ]
      refine wpAnyH_take (i := 9) (oi := ⟨some 26, _, _, _, _, _⟩) (v := ?_) rfl (by kernel_rfl) (by kernel_rfl) (by kernel_rfl) (fun _ _ _ h => h) (Or.inl ⟨by rfl, ?_⟩) hS ?_
      rotate_left
      · intro W hW; go_simp; with_reducible rfl
      try simp only [Act.put, List.setIfInBounds_toArray, List.set_cons_zero, List.set_cons_succ]
      refine wpAnyH_take (i := 10) (oi := ⟨some 27, _, _, _, _, _⟩) (v := ?_) rfl (by kernel_rfl) (by kernel_rfl) (by kernel_rfl) (fun _ _ _ h => h) (Or.inl ⟨by rfl, ?_⟩) hS ?_
      rotate_left
      · intro W hW; go_simp; with_reducible rfl
      try simp only [Act.put, List.setIfInBounds_toArray, List.set_cons_zero, List.set_cons_succ]
      refine wpAnyH_done (by kernel_rfl) ?_ _
      have HB2 := Lib.hid (below_two HB.out hS)
      clear d1 d2 k1 k2 hS
      go_wp2_with fail
      refine ⟨⟨k + 1, by go_num, by omega, HB2⟩, by simp [intOf]; omega⟩
    · obtain rfl : k = m := by omega
      go_wp2_with fail
      go_ret
      exact ⟨rfl, HB.out⟩

/-- 'make' of a slice, by what it runs to -/
theorem wpList_make_run {P : Program} {ops : Array Oper} {rest : List Oper} {o : Oper} {a : Act} {w w' : World} {Q : Exit → Act → World → Prop} (hgd : o.guard = none) (t : TypeId) (l c : Operand) (ho : o.op = .makeSlice t l c) {x y v : Value} (hl : a.eval l = x) (hc : a.eval c = y)
    (hrun : (Instr.makeSlice t x y).run P w = .ok v w') (h : wpList P ops Q rest (a.put o.dst v) w') : wpList P ops Q (o :: rest) a w :=
  wpList_plain hgd fun _ hK => wp_make t l c ho hl hc hrun (hK _ _ h)

theorem zeros_len (n : Nat) : (zeroB n).length = n := by unfold zeroB; simp

/-- a call of the statements' example -/
theorem wake_gat : cutE 3 7 (zeroB 45) = 0 ∧ needN (zeroB 45) = 2 ∧ gatE (cutAll 3 7 (zeroB 45)) 7 = 0 ∧ gatB (cutAll 3 7 (zeroB 45)) 7 = zeroB 45 ∧ gatEp (cutAll 3 7 (zeroB 45)) 7 = 3 ∧ gatC (cutAll 3 7 (zeroB 45)) 7 = 2 := by
  have h := cut_any_ok (ep := 3) (at_ := 7) (b := zeroB 45) (by omega) (by omega) (by rw [zeros_len]; omega) (by omega)
  have hn : needN (zeroB 45) = 2 := by unfold needN; rw [zeros_len]; decide
  obtain ⟨h1, h2, h3, h4⟩ := (Rec.of_cut' h).gat
  exact ⟨h, hn, h1, h2, h3, by rw [h4, hn]; rfl⟩

theorem all_small {ep at_ : Int} {b : List UInt8} (h : cutE ep at_ b = 0) : ∀ x ∈ cutAll ep at_ b, x.length = 64 := by
  intro x hx
  obtain ⟨i, hi, rfl⟩ := List.mem_map.1 hx
  exact length_sector _ (cut_may h i (by simpa using hi)).len

set_option maxHeartbeats 1000000 in
set_option maxRecDepth 100000 in
theorem awake_any (w : World) : Calls Try.prog 9 #[] w fun e w' => e = .returned (.bool true) ∧ Below w.heap.size w w' := by
  obtain ⟨h1, h2, h3, h4, h5, h6⟩ := wake_gat
  have hsm := all_small h1
  have hcl : cutL 3 7 (zeroB 45) = cutAll 3 7 (zeroB 45) := by unfold cutL; rw [if_pos h1]
  have hll : (cutAll 3 7 (zeroB 45)).length = 2 := by rw [length_cutAll, h2]
  have HND := Lib.hid (need_any 45 (by omega) (by omega))
  have hn2 : need 45 = 2 := by decide
  rw [hn2] at HND
  have hgl : (gatB (cutAll 3 7 (zeroB 45)) 7).length = 45 := by rw [h4, zeros_len]
  clear h2 h4
  obtain ⟨ls, hls⟩ : ∃ ls, cutAll 3 7 (zeroB 45) = ls := ⟨_, rfl⟩
  obtain ⟨wm, hmk, hown, hbm⟩ := run_zeros w 45 (by omega)
  have hcut := cut_any 3 7 (by omega) (by omega) _ _ 45 (zeroB 45) wm hown.lies (by omega)
  rw [h1, hcl, hls] at hcut
  rw [hls] at hsm hll h3 h5 h6 hgl
  have HCUT := Lib.hid hcut
  have hgat : ∀ A c W, Ls W A ls → Calls Try.prog 18 #[.slice A 2 c, .int .i64 7] W (GatOut W (gatB ls 7) 3 2 0) := fun A c W hW => by
    have h := gather_any A c 2 ls (Lib.hid hll) (by omega) (Lib.hid (fun x hx => by rw [hsm x hx]; omega)) 7 (by omega) (by omega) W hW
    rwa [h3, h5, h6] at h
  have HGAT := Lib.hid hgat
  have HGL := Lib.hid hgl
  have HLL := Lib.hid hll
  have HBM := Lib.hid hbm
  have HMK := Lib.hid hmk
  clear h1 h3 h5 h6 hcl hls hsm hll hn2 hgl hcut hgat hown hbm hmk
  go_enter Try.func9, Try.ntmps9
  go_wp2_with (at_make; refine wpList_make_run rfl 22 _ _ rfl rfl rfl HMK.out ?_)
  refine HCUT.out.mono ?_
  rintro e w1 ⟨A1, n1, c1, rfl, hn1, hl1, _, hb1⟩
  obtain rfl : n1 = 2 := by rw [hn1, HLL.out]
  have HL1 := Lib.hid hl1
  have HB1 := Lib.hid (below_two HBM.out hb1)
  clear hn1 hl1 hb1 HCUT
  go_wp2_with fail
  refine (HGAT.out A1 c1 w1 HL1.out).mono ?_
  rintro e w2 ⟨A2, n2, c2, rfl, ho2, hb2⟩
  obtain rfl : n2 = 45 := by rw [← ho2.len, HGL.out]
  have HB2 := Lib.hid (below_two HB1.out hb2)
  clear ho2 hb2
  go_wp2_with fail
  refine (HND.out w2).mono ?_
  rintro e w3 ⟨rfl, hw⟩
  subst hw
  go_wp2_with fail
  go_ret
  exact ⟨rfl, HB2.out⟩

end Go.Proofs.Ytofekbipbndbbaa
