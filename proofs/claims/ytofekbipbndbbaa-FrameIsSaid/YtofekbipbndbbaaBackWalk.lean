/-
  FrameBack: the walk: a record that is cut is gathered, whatever stands behind it; without its last sector it is too short; a place farther it is none.
-/
import Derived.Test.YtofekbipbndbbaaNeedsWalk
namespace Go.Proofs.Ytofekbipbndbbaa
open Go.RowKit Crc Wm

theorem few_small {ls : List (List UInt8)} (h : few ls = true) : ls.length ≤ 30 ∧ ∀ x ∈ ls, x.length ≤ 200 := of_decide_eq_true h

/-- an empty slice of slices of the call's own -/
theorem rw_lit (w : World) : Rw (w.alloc (.cells #[] 22)) w.heap.size (.slice (some ⟨w.heap.size, 0, none⟩) 0 0) [] :=
  ⟨[], World.ownsRow_lit w #[] 0 (Nat.le_refl _) (by simp [maxLen]) rfl, fun j x hx => by simp at hx⟩

theorem Ls.take {w : World} {A : Option Addr} {ls : List (List UInt8)} (h : Ls w A ls) (k : Nat) : Ls w A (ls.take k) := by
  rcases h with h | ⟨b, o, e, hb, hp⟩
  · exact .inl (by rw [h]; simp)
  · refine .inr ⟨b, o, e, hb, fun j x hx => hp j x ?_⟩
    rw [List.getElem?_take] at hx
    split at hx
    · exact hx
    · cases hx

/-- slices that lie in older blocks stand far from a row that is made new -/
theorem far_old {w : World} {A : Option Addr} {ls : List (List UInt8)} {V : World} {v : Value} (hls : Ls w A ls) (hV : Below w.heap.size w V) (hv : ∀ k, v.ownBlock = some k → w.heap.size ≤ k) :
    ∀ b o, A = some ⟨b, o, none⟩ → ∀ (j : Nat) (l : List UInt8), ls[j]? = some l → ∀ A' n c, V.cell? ⟨b, o + j, none⟩ = some (.slice A' n c) → Far A' l v.ownBlock := by
  intro b o e j l hl A' n c hc
  obtain ⟨b2, o2, Ax, n2, c2, e2, hb2, hc2, hlx⟩ := hls.at_ hl
  rw [e] at e2
  injection e2 with e2
  injection e2 with e3 e4
  subst e3 e4
  rw [hV.cell (p := ⟨b, o + j, none⟩) hb2, hc2] at hc
  injection hc with hc
  injection hc with hc
  subst hc
  rcases hlx.lt with h0 | h0
  · exact .inl h0
  · exact .inr fun a ha e5 => by have h1 := h0 a ha; have h2 := hv _ e5.symm; omega

set_option maxHeartbeats 4000000 in
set_option maxRecDepth 100000 in
theorem back_walk (A : Option Addr) (c L : Nat) (b : List UInt8) (ep at_ : Int) (A2 : Option Addr) (c2 m : Nat) (more : List (List UInt8)) (w : World) (hl : Lies w A c L b) (hL : L ≤ 140737488351232) (HM : Hid (more.length = m)) (hm : Ls w A2 more) : Calls Try.prog 4 #[.slice A L c, .int .i64 ep, .int .i64 at_, .slice A2 m c2] w fun e w' => e = .returned (.bool true) ∧ Below w.heap.size w w' := by
  have HSM := Lib.hid (fun W (hW : Ls W A2 more) => small_any A2 c2 m more HM W hW)
  have HMO := Lib.hid hm
  have HLI := Lib.hid hl
  have HBL := Lib.hid hl.len
  clear hl hm
  by_cases hbig : 1000 < L
  · have hd : decide ((L : Int) > 1000) = true := decide_eq_true (by omega)
    go_enter Try.func4, Try.ntmps4
    go_wp2_with fail
    refine (awake_any w).mono ?_
    rintro e w0 ⟨rfl, hb⟩
    have HB := Lib.hid hb
    clear hb
    go_wp2_with fail
    go_ret
    exact ⟨rfl, HB.out⟩
  have hd : decide ((L : Int) > 1000) = false := decide_eq_false (by omega)
  cases hf : few more with
  | false =>
    rw [hf] at HSM
    go_enter Try.func4, Try.ntmps4
    go_wp2_with fail
    refine (awake_any w).mono ?_
    rintro e w0 ⟨rfl, hb⟩
    have HB := Lib.hid hb
    clear hb
    go_wp2_with fail
    refine (HSM.out w0 (HMO.out.up HB.out)).mono ?_
    rintro e w1 ⟨rfl, hw⟩
    subst hw
    go_wp2_with fail
    go_ret
    exact ⟨rfl, HB.out⟩
  | true =>
  rw [hf] at HSM
  obtain ⟨hm30, hm200⟩ := few_small hf
  rw [HM.out] at hm30
  have HM2 := Lib.hid hm200
  clear hm200 hf
  obtain ⟨ib, hi, hz0, hz1, hz2⟩ := info_parts sl_facts
  have HI := Lib.hid (show _ ∧ _ ∧ _ ∧ _ from ⟨hi, hz0, hz1, hz2⟩)
  clear hi hz0 hz1 hz2
  obtain ⟨X, hX, hx⟩ := low ep 4294967295 32 (by decide) (by omega)
  obtain ⟨Y, hY, hy⟩ := low at_ 1099511627775 40 (by decide) (by omega)
  have hX2 : X < 4294967296 := hX
  have hY2 : Y < 1099511627776 := hY
  clear hX hY
  have hcut : cutE X Y b = 0 := cut_any_ok (by omega) (by omega) (by rw [HBL.out]; omega) (by omega)
  have hnb := needN_bd b
  rw [HBL.out] at hnb
  have hnp := needN_pos b
  have hne := needN_eq b
  rw [HBL.out] at hne
  have HND := Lib.hid (need_any L (by omega) (by omega))
  rw [← hne] at HND
  have HC := Lib.hid (fun W (hW : Lies W A c L b) => cut_yes_any hcut hW (by omega) (by omega))
  have hrec := Rec.of_cut hcut more
  obtain ⟨g0, g1, g2, g3⟩ := hrec.gat
  have g4 := hrec.off ((Y : Int) + 1) (by omega)
  have g5 := gat_less hcut
  have hll := length_cutAll (X : Int) (Y : Int) b
  have hls64 := all_small hcut
  have hal : (cutAll (X : Int) (Y : Int) b ++ more).length = needN b + m := by rw [List.length_append, hll, HM.out]
  have has : ∀ x ∈ cutAll (X : Int) (Y : Int) b ++ more, x.length ≤ 1000000 := by
    intro x hx
    rcases List.mem_append.1 hx with h | h
    · rw [hls64 x h]; omega
    · have := HM2.out x h; omega
  have htk : ((cutAll (X : Int) (Y : Int) b).take (needN b - 1)).length = needN b - 1 := by rw [List.length_take, hll]; omega
  have hts : ∀ x ∈ (cutAll (X : Int) (Y : Int) b).take (needN b - 1), x.length ≤ 1000000 := fun x hx => by rw [hls64 x (List.mem_of_mem_take hx)]; omega
  have hC23 : needN b ≤ 23 := by omega
  have HG1 := Lib.hid (fun A c W hW => gat_yes_any g1 g2 g3 g0 (A := A) (c := c) (w := W) hW hal (by omega) has ⟨by omega, by omega⟩)
  have HG2 := Lib.hid (fun A c W hW => gat_err_any g5 (A := A) (c := c) (w := W) hW htk (by omega) hts ⟨by omega, by omega⟩)
  have HG3 := Lib.hid (fun A c W hW => gat_err_any g4 (A := A) (c := c) (w := W) hW hal (by omega) has ⟨by omega, by omega⟩)
  have HLL := Lib.hid hll
  clear hcut hne hrec g0 g1 g2 g3 g4 g5 hls64 hal has htk hts hll
  generalize needN b = C at *
  obtain ⟨n1, n2, n3⟩ := hnb
  generalize cutAll (X : Int) (Y : Int) b = ls at *
  go_enter Try.func4, Try.ntmps4
  go_wp2_with fail
  refine (awake_any w).mono ?_
  rintro e w0 ⟨rfl, hb⟩
  have HB := Lib.hid hb
  clear hb
  go_wp2_with fail
  refine (HSM.out w0 (HMO.out.up HB.out)).mono ?_
  rintro e w0' ⟨rfl, hw⟩
  subst hw
  clear hd
  go_wp2_with fail
  refine (HC.out w0 (HLI.out.up HB.out)).mono ?_
  rintro e w1 ⟨A1, c1, rfl, hl1, hcc1, hb⟩
  have HL1 := Lib.hid hl1
  replace HB := Lib.hid (below_two HB.out hb)
  have HMO1 := Lib.hid (HMO.out.up HB.out)
  clear hb hl1 HC HSM
  have hb2 := below_new w1 (.cells #[] 22)
  have HR1 := Lib.hid (rw_lit w1)
  have HL2 := Lib.hid (HL1.out.up hb2)
  have HF1 := Lib.hid (far_old (v := .slice (some ⟨w1.heap.size, 0, none⟩) 0 0) HL1.out hb2 (fun k hk => Nat.le_of_eq (by simpa [Value.ownBlock] using hk)))
  have hsz2 := hb2.size
  have HB12 := Lib.hid hb2
  clear hb2
  obtain ⟨hi', hz0, hz1, hz2⟩ := HI.out
  go_wp2_with (first
    | (at_builtin; refine wpList_append_rw rfl (.tmp 48) (.tmp 49) _ rfl w1.heap.size ib Try.underlying25 hi' hz0 hz1 hz2 (.slice (some ⟨w1.heap.size, 0, none⟩) 0 0) _ rfl HR1.out _ ls C _ rfl HL2.out HLL.out HF1.out (by simp; omega) hsz2 ?_; intro v2 w2 hR2 hg2 hat2; have HR2 := Lib.hid hR2; have hB2 := HB12.out.grown hg2 hsz2 (fun k hk => (HR1.out.lt k hk).1); obtain ⟨A3, c3, hv3, hls3, _⟩ := HR2.out.form; have hln3 : ([] ++ ls).length = C := (by rw [List.nil_append]; exact HLL.out); rw [hln3] at hv3; subst hv3; have HB2 := Lib.hid hB2; have hle2 : w1.heap.size ≤ w2.heap.size := hB2.size; have HM3 := Lib.hid (HMO1.out.up hB2); have HF2 := Lib.hid (far_old (v := .slice A3 C c3) HMO1.out hB2 (fun k hk => (HR2.out.lt k hk).1)); clear hR2 hg2 hat2 hls3 hB2)
    | (at_builtin; refine wpList_append_rw rfl (.tmp 50) (.tmp 51) _ rfl w1.heap.size ib Try.underlying25 hi' hz0 hz1 hz2 (.slice A3 C c3) _ rfl HR2.out _ more m _ rfl HM3.out HM.out HF2.out (by rw [hln3]; omega) hle2 ?_; intro v4 w4 hR4 hg4 hat4; have HR4 := Lib.hid hR4; have hB4 := HB2.out.grown hg4 hle2 (fun k hk => (HR2.out.lt k hk).1); obtain ⟨A5, c5, hv5, hls5, _⟩ := HR4.out.form; have hln5 : ([] ++ ls ++ more).length = C + m := (by rw [List.length_append, hln3, HM.out]); rw [hln5] at hv5; subst hv5; have HB4 := Lib.hid (below_two HB.out hB4); have HLA := Lib.hid hls5; have HL4 := Lib.hid (HL1.out.up hB4); clear hR4 hg4 hat4 hls5 hB4))
  rw [List.nil_append] at HLA
  refine (HG1.out A5 c5 w4 HLA.out).mono ?_
  rintro e w5 ⟨A6, n6, c6, rfl, ho6, hb⟩
  have hn6 : n6 = L := by rw [← ho6.len, HBL.out]
  subst hn6
  have k1 := ho6.lies.conv
  have k2 := (HLI.out.up (below_two HB4.out hb)).conv
  have HLA5 := Lib.hid (HLA.out.up hb)
  have HL5 := Lib.hid (HL4.out.up hb)
  have HB5 := Lib.hid (below_two HB4.out hb)
  clear ho6 hb HG1 hln3 hln5 hi' hz0 hz1 hz2
  go_wp2_with fail
  refine (HND.out w5).mono ?_
  rintro e w5' ⟨rfl, hw⟩
  subst hw
  have hmx : max (0 : Int) ((C : Int) - 1) = ((C - 1 : Nat) : Int) := by omega
  have hwx : IntKind.i64.wrap ((C : Int) - 1) = (C : Int) - 1 := by rw [IntKind.wrap_i64]; omega
  clear k1 k2
  have hcx : ((C - 1 : Nat) : Int) ≤ (c1 : Int) := by omega
  go_wp2_with fail
  refine (HG2.out A1 c1 w5 (HL5.out.take (C - 1))).mono ?_
  rintro e w6 ⟨A7, n7, c7, rfl, hb⟩
  have HLA6 := Lib.hid (HLA5.out.up hb)
  replace HB5 := Lib.hid (below_two HB5.out hb)
  clear hb HG2
  go_wp2_with fail
  refine (HG3.out A5 c5 w6 HLA6.out).mono ?_
  rintro e w7 ⟨A8, n8, c8, rfl, hb⟩
  replace HB5 := Lib.hid (below_two HB5.out hb)
  clear hb HG3
  go_wp2_with fail
  go_ret
  exact ⟨rfl, HB5.out⟩

end Go.Proofs.Ytofekbipbndbbaa
