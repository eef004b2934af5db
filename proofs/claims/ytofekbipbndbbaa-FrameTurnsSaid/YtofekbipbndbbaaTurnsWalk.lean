/-
  FrameTurns: the walk: with one sector of another record, at another place, of another epoch, or with a bit turned, nothing is gathered.
-/
import Derived.Test.YtofekbipbndbbaaBackWalk
import Derived.Laws.ShiftsVarLaws
namespace Go.Proofs.Ytofekbipbndbbaa
open Go.RowKit Crc Wm

/-- a byte with one bit turned -/
def turned (x : UInt8) (J : Nat) : UInt8 := x ^^^ UInt8.ofNat (2 ^ J)
theorem turned_val (x : UInt8) (J : Nat) : bits .xor .u8 (x.toNat : Int) ((2 : Int) ^ J % 256) = ((turned x J).toNat : Int) := by
  have hx : x.toNat < 256 := x.toNat_lt
  have h2 : (2 : Int) ^ J % 256 = ((2 ^ J % 256 : Nat) : Int) := by
    rw [Int.natCast_emod, Int.natCast_pow]
    rfl
  rw [h2, u8_xor_nat _ _ hx (Nat.mod_lt _ (by omega))]
  unfold turned
  rw [UInt8.toNat_xor, UInt8.toNat_ofNat']
theorem turned_ne (x : UInt8) (J : Nat) (hJ : J < 8) : turned x J ≠ x := by
  intro h
  unfold turned at h
  have h2 : UInt8.ofNat (2 ^ J) = 0 := by
    have := congrArg (x ^^^ ·) h
    simpa [← UInt8.xor_assoc] using this
  have h3 := congrArg UInt8.toNat h2
  rw [UInt8.toNat_ofNat'] at h3
  have h4 : 2 ^ J % 256 = 0 := h3
  rcases J with _ | _ | _ | _ | _ | _ | _ | _ | J
  all_goals first | (exfalso; omega) | cases h4

/-- a row of the call's own, that holds something: where it lies -/
theorem Rw.ready {w : World} {base : Nat} {v : Value} {ls : List (List UInt8)} (h : Rw w base v ls) (hn : 0 < ls.length) : ∃ g cap, v = .slice (some ⟨g, 0, none⟩) ls.length cap ∧ base ≤ g ∧ g < w.heap.size ∧ (∀ j, w.frozen? ⟨g, j, none⟩ = false) ∧ ∀ j, j < ls.length → ∃ u, w.cell? ⟨g, j, none⟩ = some u := by
  obtain ⟨vs, ho, he⟩ := h
  rcases ho.2 with ⟨_, h0⟩ | ⟨g, cap, cur, rfl, hb, hh, _⟩
  · omega
  · refine ⟨g, cap, rfl, hb, lt_of_block hh, fun j => frozen_of_row _ _ _ _ _ hh, fun j hj => ?_⟩
    obtain ⟨A, n, c, e1, _⟩ := he j _ (List.getElem?_eq_getElem hj)
    have hc := ho.cells (g := g) rfl j _ e1
    rw [addr_add, Nat.zero_add] at hc
    exact ⟨_, hc⟩

/-- one slice of the row put in another's place -/
theorem Rw.put {w : World} {base g n c : Nat} {ls : List (List UInt8)} {i : Nat} {x : List UInt8} {Ax : Option Addr} {nx cx : Nat} (h : Rw w base (.slice (some ⟨g, 0, none⟩) n c) ls) (hn : ls.length = n) (hi : i < n) (hx : Lies w Ax cx nx x) (hf : Far Ax x (some g)) :
    Rw (w.setCell ⟨g, i, none⟩ (.slice Ax nx cx)) base (.slice (some ⟨g, 0, none⟩) n c) (ls.set i x) := by
  subst hn
  obtain ⟨vs, ho, he⟩ := h
  have hs := (ho.stored i (.slice Ax nx cx)).1
  have hg := setCell_grown w g i (.slice Ax nx cx)
  have hvl : vs.length = ls.length := by have := ho.1; omega
  refine ⟨vs.set i (.slice Ax nx cx), by rw [List.length_set]; exact hs, fun j y hy => ?_⟩
  rw [set_get hi] at hy
  by_cases hj : j = i
  · subst hj
    rw [if_pos rfl] at hy
    injection hy with hy
    subst hy
    exact ⟨Ax, nx, cx, List.getElem?_set_self (by omega), hx.far hf hg, hf⟩
  · rw [if_neg hj] at hy
    obtain ⟨A', n', c', e1, e2, e3⟩ := he j y hy
    exact ⟨A', n', c', by rw [List.getElem?_set_ne (fun e => hj e.symm)]; exact e1, e2.far e3 hg, e3⟩
theorem Rw.ls {w : World} {base n c : Nat} {A : Option Addr} {ls : List (List UInt8)} (h : Rw w base (.slice A n c) ls) : Ls w A ls := by
  obtain ⟨A', c', e, hl, _⟩ := h.form
  injection e with e1
  subst e1
  exact hl
theorem Rw.cell {w : World} {base g n c : Nat} {ls : List (List UInt8)} (h : Rw w base (.slice (some ⟨g, 0, none⟩) n c) ls) (hn : ls.length = n) {i : Nat} (hi : i < n) : (∃ u, w.cell? ⟨g, i, none⟩ = some u) ∧ w.frozen? ⟨g, i, none⟩ = false ∧ base ≤ g ∧ g < w.heap.size := by
  obtain ⟨g', cap, e, h1, h2, h3, h4⟩ := h.ready (by omega)
  injection e with e1
  injection e1 with e1
  injection e1 with e1
  subst e1
  exact ⟨h4 i (by omega), h3 i, h1, h2⟩

theorem far_lt {w : World} {A : Option Addr} {c n : Nat} {l : List UInt8} (h : Lies w A c n l) {g : Nat} (hg : w.heap.size ≤ g) : Far A l (some g) := Far.new h hg

theorem owns_far {w : World} {B : Nat} {A : Option Addr} {c n : Nat} {l : List UInt8} (h : Owns w B A c n l) {g : Nat} (hg : g < B) : Far A l (some g) :=
  .inr fun a ha e => by injection e with e; have := (h.block a ha).1; omega

set_option maxHeartbeats 8000000 in
set_option maxRecDepth 100000 in
theorem turns_walk (A : Option Addr) (c L : Nat) (b : List UInt8) (A' : Option Addr) (c' L' : Nat) (d : List UInt8) (at_ k bit : Int) (w : World) (hl : Lies w A c L b) (hL : L ≤ 140737488351232) (hl' : Lies w A' c' L' d) (_hL' : L' ≤ 140737488351232) :
    Calls Try.prog 5 #[.slice A L c, .slice A' L' c', .int .i64 at_, .int .i64 k, .int .i64 bit] w fun e w' => e = .returned (.bool true) ∧ Below w.heap.size w w' := by
  by_cases hbig : 1000 < L
  · have hd : decide ((L : Int) > 1000) = true := decide_eq_true (by omega)
    go_enter Try.func5, Try.ntmps5
    go_wp2_with fail
    refine (awake_any w).mono ?_
    rintro e w0 ⟨rfl, hb⟩
    go_wp2_with fail
    go_ret
    exact ⟨rfl, hb⟩
  have hd : decide ((L : Int) > 1000) = false := decide_eq_false (by omega)
  by_cases hlen : L' = L
  case neg =>
    have hne : ((L' : Int) != (L : Int)) = true := by rw [bne_iff_ne]; omega
    go_enter Try.func5, Try.ntmps5
    go_wp2_with fail
    refine (awake_any w).mono ?_
    rintro e w0 ⟨rfl, hb⟩
    go_wp2_with fail
    go_ret
    exact ⟨rfl, hb⟩
  subst hlen
  have HLI := Lib.hid hl
  have HLD := Lib.hid hl'
  have HBL := Lib.hid hl.len
  have HDL := Lib.hid hl'.len
  clear hl hl'
  by_cases hsame : b = d
  · have hq : (b == d) = true := beq_iff_eq.2 hsame
    go_enter Try.func5, Try.ntmps5
    go_wp2_with fail
    refine (awake_any w).mono ?_
    rintro e w0 ⟨rfl, hb⟩
    have k1 := (HLI.out.up hb).conv
    have k2 := (HLD.out.up hb).conv
    have HB := Lib.hid hb
    clear hsame hb
    go_wp2_with fail
    go_ret
    exact ⟨rfl, HB.out⟩
  have hq : (b == d) = false := beq_eq_false_iff_ne.2 hsame
  clear hsame
  obtain ⟨ib, hi, hz0, hz1, hz2⟩ := info_parts sl_facts
  have HI := Lib.hid (show _ ∧ _ ∧ _ ∧ _ from ⟨hi, hz0, hz1, hz2⟩)
  clear hi hz0 hz1 hz2
  obtain ⟨iu, hi, hz0, hz1, hz2⟩ := info_parts byte_facts
  have HU := Lib.hid (show _ ∧ _ ∧ _ ∧ _ from ⟨hi, hz0, hz1, hz2⟩)
  clear hi hz0 hz1 hz2
  obtain ⟨Y, hY, hy⟩ := low at_ 16777215 24 (by decide) (by omega)
  obtain ⟨K, hK, hk⟩ := low k 65535 16 (by decide) (by omega)
  obtain ⟨Z, hZ, hz⟩ := low bit 65535 16 (by decide) (by omega)
  have hY2 : Y < 16777216 := hY
  clear hY hK hZ
  have hc1 : cutE 5 Y b = 0 := cut_any_ok (by omega) (by omega) (by rw [HBL.out]; omega) (by omega)
  have hc2 : cutE 4 Y d = 0 := cut_any_ok (by omega) (by omega) (by rw [HDL.out]; omega) (by omega)
  have hc3 : cutE 5 ((Y : Int) + 64) d = 0 := cut_any_ok (by omega) (by omega) (by rw [HDL.out]; omega) (by omega)
  have hdl : d.length = b.length := by rw [HDL.out, HBL.out]
  have hnd := needN_len hdl
  have hnb := needN_bd b
  rw [HBL.out] at hnb
  have hC1 := needN_pos b
  have hC23 : needN b ≤ 23 := by omega
  have HA1 := Lib.hid (fun W (hW : Lies W A c L' b) => cut_yes_any hc1 hW (by omega) (by omega))
  have HA2 := Lib.hid (fun W (hW : Lies W A' c' L' d) => cut_yes_any hc2 hW (by omega) (by omega))
  have HA3 := Lib.hid (fun W (hW : Lies W A' c' L' d) => cut_yes_any hc3 hW (by omega) (by omega))
  rw [hnd] at HA2 HA3
  have hll1 := length_cutAll 5 (Y : Int) b
  have hll2 := length_cutAll 4 (Y : Int) d
  have hll3 := length_cutAll 5 ((Y : Int) + 64) d
  rw [hnd] at hll2 hll3
  obtain ⟨i, hrem, hiC⟩ : ∃ i : Nat, (K : Int) % (needN b : Int) = (i : Int) ∧ i < needN b := ⟨K % needN b, by rw [Int.natCast_emod], Nat.mod_lt _ (by omega)⟩
  have hgl1 := cutAll_get 5 (Y : Int) b i hiC
  have hgl2 := cutAll_get 4 (Y : Int) d i (by rw [hnd]; exact hiC)
  have hgl3 := cutAll_get 5 ((Y : Int) + 64) d i (by rw [hnd]; exact hiC)
  obtain ⟨I, J, hIJ, hI, hJ⟩ : ∃ I J, Z % 512 = 8 * I + J ∧ I < 64 ∧ J < 8 := ⟨Z % 512 / 8, Z % 512 % 8, by omega, by omega, by omega⟩
  have hZr : (Z : Int) % 512 = 8 * (I : Int) + (J : Int) := by omega
  have hd8 : (8 * (I : Int) + (J : Int)) / 8 = (I : Int) := by omega
  have hm8 : (8 * (I : Int) + (J : Int)) % 8 = (J : Int) := by omega
  have hsl1 := length_sector _ (cut_may hc1 i hiC).len
  have hgAway := gat_away hc1 hc3 hdl (by omega) i hiC
  have hgBit := fun y hy => gat_bit hc1 i hiC I hI y hy
  have hgOld := fun h1 => gat_older hc1 hc2 hdl (by decide) i hiC h1
  have hgOld1 := fun h1 => gat_older1 (ep := 5) hc2 hdl h1
  have hs1 := all_small hc1
  have hs2 := all_small hc2
  have hs3 := all_small hc3
  generalize hL1 : cutAll 5 (Y : Int) b = l1 at *
  generalize hL2 : cutAll 4 (Y : Int) d = l2 at *
  generalize hL3 : cutAll 5 ((Y : Int) + 64) d = l3 at *
  generalize hP1 : (pieceAt 5 (Y : Int) (needN b) b i).sector = p1 at *
  have hz00 : (i = 0 → (pieceAt 4 (Y : Int) (needN d) d 0).sector = (pieceAt 4 (Y : Int) (needN d) d i).sector) := fun h => by rw [h]
  generalize hP20 : (pieceAt 4 (Y : Int) (needN d) d 0).sector = p20 at *
  generalize hP2 : (pieceAt 4 (Y : Int) (needN d) d i).sector = p2 at *
  generalize hP3 : (pieceAt 5 ((Y : Int) + 64) (needN d) d i).sector = p3 at *
  have hp2 := hs2 p2 (List.mem_of_getElem? hgl2)
  have hp3 := hs3 p3 (List.mem_of_getElem? hgl3)
  generalize needN b = C at *
  have hsm : ∀ x, x.length = 64 → ∀ y ∈ l1.set i x, y.length ≤ 1000000 := fun x hx y hy => by
    rcases List.mem_or_eq_of_mem_set hy with h | h
    · rw [hs1 y h]; omega
    · rw [h, hx]; omega
  have hse : ∀ x, (l1.set i x).length = C := fun x => by rw [List.length_set, hll1]
  have HG3 := Lib.hid (fun A c W hW => gat_err_any hgAway (A := A) (c := c) (w := W) hW (hse _) (by omega) (hsm _ hp3) ⟨by omega, by omega⟩)
  have HG4 := Lib.hid (fun y hy A c W hW => gat_err_any (hgBit y hy) (A := A) (c := c) (w := W) hW (hse _) (by omega) (hsm _ (by rw [List.length_set]; exact hsl1)) ⟨by omega, by omega⟩)
  have HGO := Lib.hid (fun h1 A c W hW => gat_err_any (hgOld h1) (A := A) (c := c) (w := W) hW (hse _) (by omega) (hsm _ hp2) ⟨by omega, by omega⟩)
  have HGO1 : Hid (C = 1 → gatE (l1.set i p2) (Y : Int) = 0 ∧ gatEp (l1.set i p2) (Y : Int) = 4) := Lib.hid (fun h1 => by
    have hi0 : i = 0 := by omega
    have h2 := hgOld1 h1
    rw [hi0, ← hz00 hi0]
    exact h2)
  have HGZ := Lib.hid (fun (h1 : C = 1) A c W hW => gat_err_any (HGO1.out h1).1 (A := A) (c := c) (w := W) hW (hse _) (by omega) (hsm _ hp2) ⟨by omega, by omega⟩)
  have HP := Lib.hid (show _ ∧ _ ∧ _ from ⟨hgl1, hgl2, hgl3⟩)
  have HLL := Lib.hid hll1
  have HS1 := Lib.hid hsl1
  clear hc1 hc2 hc3 hdl hnd hnb hgl1 hgl2 hgl3 hsl1 hgAway hgBit hgOld hgOld1 hs1 hs2 hs3 hL1 hL2 hL3 hP1 hP2 hP3 hP20 hz00 hp2 hp3 hsm hse hIJ hll1 hll2 hll3
  go_enter Try.func5, Try.ntmps5
  go_wp2_with fail
  refine (awake_any w).mono ?_
  rintro e w0 ⟨rfl, hb⟩
  have k1 := (HLI.out.up hb).conv
  have k2 := (HLD.out.up hb).conv
  have HB := Lib.hid hb
  clear hb
  have hne : ((L' : Int) != (L' : Int)) = false := by simp
  go_wp2_with fail
  clear k1 k2 hq hd hne
  refine (HA1.out w0 (HLI.out.up HB.out)).mono ?_
  rintro e w1 ⟨A1, c1, rfl, hl1, hcc1, hb⟩
  have HL1 := Lib.hid hl1
  replace HB := Lib.hid (below_two HB.out hb)
  clear hb hl1 HA1
  go_wp2_with fail
  refine (HA2.out w1 (HLD.out.up HB.out)).mono ?_
  rintro e w2 ⟨A2, c2, rfl, hl2, hcc2, hb⟩
  have HL2 := Lib.hid hl2
  replace HL1 := Lib.hid (HL1.out.up hb)
  replace HB := Lib.hid (below_two HB.out hb)
  clear hb hl2 HA2
  go_wp2_with fail
  refine (HA3.out w2 (HLD.out.up HB.out)).mono ?_
  rintro e w3 ⟨A3, c3, rfl, hl3, hcc3, hb⟩
  have HL3 := Lib.hid hl3
  replace HL1 := Lib.hid (HL1.out.up hb)
  replace HL2 := Lib.hid (HL2.out.up hb)
  replace HB := Lib.hid (below_two HB.out hb)
  clear hb hl3 HA3
  obtain ⟨b1, o1, X1, m1, d1, rfl, hb1, hx1, hy1⟩ := HL1.out.at_ HP.out.1
  obtain ⟨b2, o2, X2, m2, d2, rfl, hb2, hx2, hy2⟩ := HL2.out.at_ HP.out.2.1
  obtain ⟨b3, o3, X3, m3, d3, rfl, hb3, hx3, hy3⟩ := HL3.out.at_ HP.out.2.2
  obtain rfl : m1 = 64 := by rw [← hy1.len, HS1.out]
  have HX1 := Lib.hid hx1
  have HX2 := Lib.hid hx2
  have HX3 := Lib.hid hx3
  have HY1 := Lib.hid hy1
  have HY2 := Lib.hid hy2
  have HY3 := Lib.hid hy3
  clear hx1 hx2 hx3 hy1 hy2 hy3
  have hb4 := below_new w3 (.cells #[] 22)
  have HR0 := Lib.hid (rw_lit w3)
  have HL1a := Lib.hid (HL1.out.up hb4)
  have HF1 := Lib.hid (far_old (v := .slice (some ⟨w3.heap.size, 0, none⟩) 0 0) HL1.out hb4 (fun k hk => Nat.le_of_eq (by simpa [Value.ownBlock] using hk)))
  have hsz := hb4.size
  have HB34 := Lib.hid hb4
  clear hb4
  have hC0 : ((C : Int) == 0) = false := by rw [beq_eq_false_iff_ne]; omega
  have hCp : (C : Int) ≠ 0 := by omega
  have hic : (i : Int) < (C : Int) := by omega
  obtain ⟨hi', hz0, hz1, hz2⟩ := HI.out
  go_wp2_with (at_builtin; refine wpList_append_rw rfl (.tmp 109) (.tmp 110) _ rfl w3.heap.size ib Try.underlying25 hi' hz0 hz1 hz2 (.slice (some ⟨w3.heap.size, 0, none⟩) 0 0) _ rfl HR0.out _ l1 C _ rfl HL1a.out HLL.out HF1.out (by simp; omega) hsz ?_; intro v4 w4 hR4 hg4 hat4; have hB4 := HB34.out.grown hg4 hsz (fun k hk => (HR0.out.lt k hk).1); rw [List.nil_append] at hR4; obtain ⟨g, cap, hv4, hg0, hg1, hfz, hcz⟩ := hR4.ready (by rw [HLL.out]; omega); rw [HLL.out] at hv4 hcz; subst hv4; have cx3 := (hB4.cell (p := ⟨b3, o3 + i, none⟩) hb3).trans HX3.out; obtain ⟨u, cg⟩ := hcz i hiC; have fg := hfz i; have HR5 := Lib.hid (hR4.put HLL.out hiC (HY3.out.up hB4) (far_lt HY3.out hg0)); have HB5 : Hid (Below w3.heap.size w3 (w4.setCell ⟨g, i, none⟩ (.slice X3 m3 d3))) := Lib.hid (hB4.setCell hg0 _); clear hR4 hg4 hat4 hfz hcz; generalize hW5 : w4.setCell ⟨g, i, none⟩ (.slice X3 m3 d3) = w5 at HR5 HB5)
  refine (HG3.out _ cap w5 HR5.out.ls).mono ?_
  rintro e w6 ⟨A6, n6, c6, rfl, hb⟩
  have HR6 := Lib.hid (HR5.out.below hb)
  have HB6 := Lib.hid (HB5.out.trans (hb.mono HB5.out.size))
  clear hb HR5 HB5 cx3 cg fg hW5 HG3 hi' hz0 hz1 hz2
  have hown0 : (w6.alloc (.cells #[] 5)).ownsRow w6.heap.size 5 1 (.slice (some ⟨w6.heap.size, 0, none⟩) 0 0) 0 [] := World.ownsRow_lit w6 #[] 0 (Nat.le_refl _) (by simp [maxLen]) rfl
  have hb0 : Below w6.heap.size w6 (w6.alloc (.cells #[] 5)) := below_new w6 _
  have HY6 := Lib.hid ((HY1.out.up HB6.out).up hb0)
  have cx1 : ∀ V, Below w6.heap.size w6 V → V.cell? ⟨b1, o1 + i, none⟩ = some (.slice X1 64 d1) := fun V hV => (hV.cell (p := ⟨b1, o1 + i, none⟩) (Nat.lt_of_lt_of_le hb1 HB6.out.size)).trans ((HB6.out.cell (p := ⟨b1, o1 + i, none⟩) hb1).trans HX1.out)
  have cx1a := cx1 _ hb0
  obtain ⟨x, hx⟩ : ∃ x, p1[I]? = some x := ⟨_, List.getElem?_eq_getElem (by rw [HS1.out]; exact hI)⟩
  have HXI := Lib.hid hx
  have hx255 : x.toNat < 256 := x.toNat_lt
  have HTN : Hid (p1[I]? ≠ some (turned x J)) := Lib.hid (fun e => by rw [hx] at e; injection e with e; exact turned_ne x J hJ e.symm)
  clear hx
  obtain ⟨hi', hz0, hz1, hz2⟩ := HU.out
  have hgw : g < w6.heap.size := (HR6.out.cell (by rw [List.length_set]; exact HLL.out) hiC).2.2.2
  go_wp2_with (at_builtin; refine wpList_append_rd rfl (.tmp 127) (.tmp 131) _ rfl w6.heap.size iu Try.underlying22 hi' hz0 hz1 hz2 (.slice (some ⟨w6.heap.size, 0, none⟩) 0 0) 0 [] rfl hown0 _ _ p1 64 _ rfl HY6.out.rd HY6.out.len (by omega) hb0.size ?_; intro v7 w7 hown7 hg7 hat7; obtain ⟨A7, c7, rfl, ho7, hb7⟩ := append_step' (l := []) hown0 hb0 hb0.size hown7 hg7; clear hown7 hg7 hat7; simp only [Nat.zero_add, List.nil_append] at ho7; obtain ⟨gs, rfl, hgs1, hgs2, hgc, hgf⟩ := ho7.at_ (by omega); have hc1 : w7.cell? ⟨gs, I, none⟩ = some (.int .u8 (x.toNat : Int)) := hgc I x HXI.out; have hf1 := hgf I; have htv := turned_val x J; have HO8 : Hid (Owns (w7.setCell ⟨gs, I, none⟩ (.int .u8 (bits .xor .u8 (x.toNat : Int) ((2 : Int) ^ J % 256)))) w6.heap.size (some ⟨gs, 0, none⟩) c7 64 (p1.set I (turned x J))) := Lib.hid (by rw [htv]; exact ho7.set_ I (turned x J) hI); have hB8 : Below w6.heap.size w6 (w7.setCell ⟨gs, I, none⟩ (.int .u8 (bits .xor .u8 (x.toNat : Int) ((2 : Int) ^ J % 256)))) := hb7.setCell hgs2 _; have HR8 := Lib.hid (HR6.out.below hB8); have HB8 := Lib.hid (HB6.out.trans (hB8.mono HB6.out.size)); clear htv hgc hgf ho7 hb7 hB8; generalize hW8 : w7.setCell ⟨gs, I, none⟩ (.int .u8 (bits .xor .u8 (x.toNat : Int) ((2 : Int) ^ J % 256))) = w8 at HO8 HR8 HB8; obtain ⟨⟨u8, cg8⟩, fg8, hg8, _⟩ := HR8.out.cell (by rw [List.length_set]; exact HLL.out) hiC; have HR9 := Lib.hid (HR8.out.put (by rw [List.length_set]; exact HLL.out) hiC HO8.out.lies (owns_far HO8.out hgw)); have HB9 : Hid (Below w3.heap.size w3 (w8.setCell ⟨g, i, none⟩ (.slice (some ⟨gs, 0, none⟩) 64 c7))) := Lib.hid (HB8.out.setCell hg8 _); rw [List.set_set] at HR9; generalize hW9 : w8.setCell ⟨g, i, none⟩ (.slice (some ⟨gs, 0, none⟩) 64 c7) = w9 at HR9 HB9)
  refine (HG4.out (turned x J) HTN.out _ cap w9 HR9.out.ls).mono ?_
  rintro e w10 ⟨A10, n10, c10, rfl, hb⟩
  have HR10 := Lib.hid (HR9.out.below hb)
  have HB10 := Lib.hid (HB9.out.trans (hb.mono HB9.out.size))
  clear hb HR9 HB9 HG4 cx1 cx1a hown0 hb0 hc1 hf1 cg8 fg8 hW8 hW9 hi' hz0 hz1 hz2
  have cx2 := (HB10.out.cell (p := ⟨b2, o2 + i, none⟩) hb2).trans HX2.out
  obtain ⟨⟨u10, cg10⟩, fg10, hg10, _⟩ := HR10.out.cell (by rw [List.length_set]; exact HLL.out) hiC
  have HR11 := Lib.hid (HR10.out.put (by rw [List.length_set]; exact HLL.out) hiC (HY2.out.up HB10.out) (far_lt HY2.out hg10))
  have HB11 : Hid (Below w3.heap.size w3 (w10.setCell ⟨g, i, none⟩ (.slice X2 m2 d2))) := Lib.hid (HB10.out.setCell hg10 _)
  rw [List.set_set] at HR11
  generalize hW11 : w10.setCell ⟨g, i, none⟩ (.slice X2 m2 d2) = w11 at HR11 HB11
  go_wp2_with fail
  clear cx2 cg10 fg10 hW11
  by_cases hone : C = 1
  · refine (HGZ.out hone _ cap w11 HR11.out.ls).mono ?_
    rw [(HGO1.out hone).2]
    rintro e w12 ⟨A12, n12, c12, rfl, hb⟩
    have HB12 := Lib.hid (below_two HB.out (HB11.out.trans (hb.mono HB11.out.size)))
    clear hb
    have ht1 : ((C : Int) == 1) = true := beq_iff_eq.2 (by omega)
    clear hone
    go_wp2_with fail
    go_ret
    exact ⟨rfl, HB12.out⟩
  · refine (HGO.out (by omega) _ cap w11 HR11.out.ls).mono ?_
    rintro e w12 ⟨A12, n12, c12, rfl, hb⟩
    have HB12 := Lib.hid (below_two HB.out (HB11.out.trans (hb.mono HB11.out.size)))
    clear hb
    have ht1 : ((C : Int) == 1) = false := by rw [beq_eq_false_iff_ne]; omega
    have ht2 : decide ((C : Int) > 1) = true := decide_eq_true (by omega)
    have ht3 : (1 : Int) < (C : Int) := by omega
    clear hone
    go_wp2_with fail
    go_ret
    exact ⟨rfl, HB12.out⟩

end Go.Proofs.Ytofekbipbndbbaa
