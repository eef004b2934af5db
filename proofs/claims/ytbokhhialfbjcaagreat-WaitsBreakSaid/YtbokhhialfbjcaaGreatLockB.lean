/-
  Whose locks are against one.
-/
import Derived.Test.YtbokhhialfbjcaaGreatLockA
import Derived.Test.YtbokhhialfbjcaaGreatTreeC
import Derived.Lib.MinMax
import Derived.RegionTactic
import Derived.OwnWalk
import Derived.Laws.CopyRow
import Derived.Maps.Own
import Derived.Maps.OwnSet
namespace Go.Proofs.YtbokhhialfbjcaaGreat
set_option maxRecDepth 100000
set_option linter.unusedVariables false
open Go.RowKit Go.Shelf Go.Sort

/-- does a mode exclude the other one? -/
def exc (md s : Int) : Bool := if md = 1 then s == 2 else !(s == 0)
theorem excl_any (md s : Int) (hm : md = 1 ∨ md = 2) (w : World) : Calls Tryz.prog 64 #[.int .i64 md, .int .i64 s] w fun e w' => e = .returned (.bool (exc md s)) ∧ w' = w := by
  rcases hm with rfl | rfl
  · exact excl_read s w
  · exact excl_write s w

/-- is a lock against one? -/
def hit (T : Tr) (tx b md : Int) (y : Lk) : Bool := decide (y.b = b) && exc md y.s && !T.stands tx y.x
/-- whose are -/
def agL (T : Tr) (tx b md : Int) (L : List Lk) : List Nat := (L.filter (hit T tx b md)).map fun y => y.x.toNat
theorem agL_append (T : Tr) (tx b md : Int) (L M : List Lk) : agL T tx b md (L ++ M) = agL T tx b md L ++ agL T tx b md M := by unfold agL; rw [List.filter_append, List.map_append]
theorem agL_none {T : Tr} {tx b md : Int} {L : List Lk} (h : ∀ y ∈ L, y.b ≠ b) : agL T tx b md L = [] := by
  unfold agL
  rw [List.map_eq_nil_iff, List.filter_eq_nil_iff]
  intro y hy
  unfold hit
  simp [h y hy]
theorem agL_len (T : Tr) (tx b md : Int) (L : List Lk) : (agL T tx b md L).length ≤ L.length := by unfold agL; rw [List.length_map]; exact List.length_filter_le _ _
theorem agL_mem {T : Tr} {tx b md : Int} {L : List Lk} {z : Nat} (h : z ∈ agL T tx b md L) : ∃ y ∈ L, y.x.toNat = z ∧ y.b = b ∧ exc md y.s = true ∧ T.stands tx y.x = false := by
  unfold agL at h
  obtain ⟨y, hy, rfl⟩ := List.mem_map.1 h
  obtain ⟨h1, h2⟩ := List.mem_filter.1 hy
  unfold hit at h2
  simp at h2
  exact ⟨y, h1, rfl, h2.1.1, h2.1.2, h2.2⟩
theorem agL_nil {T : Tr} {tx b md : Int} {L : List Lk} (h : agL T tx b md L = []) {y : Lk} (hy : y ∈ L) (hb : y.b = b) (he : exc md y.s = true) : T.stands tx y.x = true := by
  unfold agL at h
  rw [List.map_eq_nil_iff, List.filter_eq_nil_iff] at h
  have := h y hy
  unfold hit at this
  simp [hb, he] at this
  exact this

/-- those of one block are few, and stand together -/
theorem rise_far : ∀ (L : List Lk) (m : Int) (i : Nat) (y : Lk), (L.Pairwise fun y z => y.q < z.q) → (∀ z ∈ L, m ≤ z.q) → L[i]? = some y → m + i ≤ y.q
  | [], _, _, _, _, _, h => by simp at h
  | a :: L, m, 0, y, _, hm, h => by
    have : a = y := by simpa using h
    have := hm a (by simp)
    subst y; omega
  | a :: L, m, i + 1, y, hp, hm, h => by
    obtain ⟨h1, h2⟩ := List.pairwise_cons.1 hp
    have := rise_far L (m + 1) i y h2 (fun z hz => by have := h1 z hz; have := hm a (by simp); omega) (by simpa using h)
    omega
theorem agL_few (T : Tr) (tx b md : Int) {L1 L2 : List Lk} (hl : LG (L1 ++ L2)) (h1 : ∀ y ∈ L1, y.q < b * 64 + 0) (h2 : ∀ y ∈ L2, b * 64 + 0 ≤ y.q) (B : Nat) (hB : L2.length ≤ B ∨ 64 ≤ B) :
    agL T tx b md (L2.take B) = agL T tx b md (L1 ++ L2) := by
  rw [agL_append, agL_none (L := L1) fun y hy e => by
    have := h1 y hy
    have hm := (hl.may y (by simp [hy])).x
    unfold Lk.q at this
    omega]
  conv => rhs; rw [← List.take_append_drop B L2]
  rw [agL_append, agL_none (L := L2.drop B), List.nil_append, List.append_nil]
  intro y hy e
  obtain ⟨i, hi⟩ := List.getElem?_of_mem hy
  rw [List.getElem?_drop] at hi
  have hr := rise_far L2 (b * 64) (B + i) y (List.pairwise_append.1 hl.up).2.1 (fun z hz => by have := h2 z hz; omega) hi
  have hm := (hl.may y (by simp [List.mem_of_mem_drop hy])).x
  have hlt := (List.getElem?_eq_some_iff.1 hi).1
  unfold Lk.q at hr
  omega

theorem OwnId.le {w : World} {base b : Nat} {v : Value} {l : List Nat} (h : OwnId w base v l) (hb : b ≤ base) : OwnId w b v l := by
  refine ⟨h.1, ?_⟩
  rcases h.2 with h2 | ⟨g, c, cur, e, hg, rest⟩
  · exact .inl h2
  · exact .inr ⟨g, c, cur, e, Nat.le_trans hb hg, rest⟩

set_option maxHeartbeats 1000000 in
theorem against_any (A : Option Addr) (L : List Lk) (n k : Nat) (hN : L.length = n) (hnk : n ≤ k) (hl : LG L) (Ax : Option Addr) (T : Tr) (N cap : Nat) (c : Int) (hNx : T.l.length = N) (hG : Good T) (tx b md : Int) (hmd : md = 1 ∨ md = 2) (w : World) (hL : LkAt w A L) (hT : TxAt w Ax T.l) :
    Calls Tryz.prog 36 #[.agg #[.slice A n k], .agg #[.slice Ax N cap, .int .i64 c], .int .i64 tx, .int .i64 b, .int .i64 md] w fun e w' => ∃ v, e = .returned v ∧ OwnId w' w.heap.size v (agL T tx b md L) ∧ Below w.heap.size w w' := by
  have HN := Lib.hid hN
  have HLG := Lib.hid hl
  have hn16 : n ≤ 16384 := by rw [← hN]; exact hl.len
  obtain ⟨w0, hw0⟩ : ∃ w0, w0 = w.alloc (.cells #[.slice A n k] 34) := ⟨_, rfl⟩
  obtain ⟨w1, hw1⟩ : ∃ w1, w1 = w0.alloc (.cells #[.slice Ax N cap, .int .i64 c] 31) := ⟨_, rfl⟩
  have hs0 : w0.heap.size = w.heap.size + 1 := by rw [hw0]; simp
  have b0 : Below w.heap.size w w1 := by rw [hw1, hw0]; exact below_two (below_new _ _) (below_new _ _)
  have x0 : w1.cell? ⟨w.heap.size, 0, none⟩ = some (.slice A n k) := by rw [hw1, hw0]; exact cell_al _ ((cell_new w _ _ 0).trans rfl)
  have t0 : TB w1 (w.heap.size + 1) Ax N cap c := by have := TB.new w0 Ax N cap c; rw [hs0] at this; rw [hw1]; exact this
  have HB1 := Lib.hid b0
  have HX1 := Lib.hid x0
  have HT1 := Lib.hid t0
  have HL0 := Lib.hid hL
  have HTx := Lib.hid hT
  have HNX := Lib.hid hNx
  have HGT := Lib.hid hG
  have HP := Lib.hid (place_any A L n k 0 b ⟨Int.le_refl 0, by decide⟩ hl hN w1 (hL.below b0))
  clear hN hl b0 x0 t0 hL hT hNx hG
  go_enter Tryz.func36, Tryz.ntmps36
  go_upto_region 1 with fail
  rw [← hw0, ← hw1]
  clear hw0 hw1 hs0 w0
  have x0 := HX1.out
  go_upto_region 2 with (go_at_call 63; refine HP.out.mono ?_; rintro e w2 ⟨L1, L2, t, hl12, h1, h2, h3, h4, rfl, hb2⟩; have x2 := (hb2.cell (block_lt_of_cell (a := ⟨w.heap.size, 0, none⟩) x0)).trans x0; have HB2 := Lib.hid hb2; have H12 := Lib.hid hl12; have H1 := Lib.hid h1; have H2 := Lib.hid h2; clear hb2 hl12 h1 h2 h3 h4 x0)
  obtain ⟨m, hm⟩ : ∃ m, m = L1.length := ⟨_, rfl⟩
  rw [← hm]
  have hmn : m ≤ n := by rw [← HN.out, H12.out, List.length_append]; omega
  obtain ⟨B, hB⟩ : ∃ B : Nat, B = min (m + 64) n := ⟨_, rfl⟩
  have hmin : min ((m : Int) + 64) (n : Int) = (B : Int) := by omega
  have hmB : m ≤ B := by omega
  have hBn : B ≤ n := by omega
  have hBk : B ≤ k := by omega
  obtain ⟨M, hM⟩ : ∃ M : Nat, M = B - m := ⟨_, rfl⟩
  have HM := Lib.hid hm
  have HAG := Lib.hid (agL_few T tx b md (by rw [← H12.out]; exact HLG.out) H1.out H2.out M (by have : L1.length + L2.length = n := (by rw [← HN.out, H12.out, List.length_append]); omega))
  have hTw := (HT1.out.below HB2.out)
  have HTW := Lib.hid hTw
  have HX2 := Lib.hid x2
  have HBW := Lib.hid (HB1.out.trans (HB2.out.mono HB1.out.size))
  have hMB : M + m = B := by omega
  clear hm hB hTw
  rcases Nat.eq_zero_or_pos M with hM0 | hM0
  · obtain rfl : B = m := by omega
    have HA0 := Lib.hid (show agL T tx b md L = [] by have := HAG.out; rw [hM0, ← H12.out] at this; rw [← this]; rfl)
    clear hM hMB hM0 HAG
    go_wp2_with fail
    all_goals (go_loopw [14, 36] (fun lv iv wr => lv = .slice none 0 0 ∧ iv = .int .i64 0 ∧ wr = w2) (fun _ _ _ => 0))
    case atStart => exact ⟨rfl, rfl, rfl⟩
    case atStart => exact ⟨rfl, rfl, rfl⟩
    all_goals (obtain ⟨rfl, rfl, hwr⟩ := hrel)
    all_goals (replace hwr := hwr.symm; subst hwr)
    all_goals go_wp2
    all_goals go_ret
    all_goals (exact ⟨_, rfl, by rw [HA0.out]; exact OwnId.nil _ _, HBW.out⟩)
  · have hlm : m < L.length := by rw [HN.out]; omega
    obtain ⟨ab, ao, rfl, hab, hcm⟩ := HL0.out.get (List.getElem?_eq_getElem hlm)
    have hkm : ¬ k = m := by omega
    have HLM := Lib.hid (show LkAt w (some ⟨ab, ao + m * 4, none⟩) (L2.take M) from by
      have h := HL0.out
      rw [H12.out] at h
      have h := h.right HM.out.symm
      rw [← List.take_append_drop M L2] at h
      exact h.left)
    have HLL := Lib.hid (show (L2.take M).length = M from by
      have : L1.length + L2.length = n := (by rw [← HN.out, H12.out, List.length_append])
      rw [List.length_take]
      have := HM.out
      omega)
    have hbm : B - m = M := by omega
    have hM16 : M ≤ 16384 := by omega
    obtain ⟨S, hS⟩ : ∃ S, S = L2.take M := ⟨_, rfl⟩
    rw [← hS] at HLM HLL HAG
    have HSM := Lib.hid (show ∀ y ∈ S, May y from fun y hy => HLG.out.may y (by rw [H12.out]; rw [hS] at hy; exact List.mem_append_right _ (List.mem_of_mem_take hy)))
    clear hS hcm hlm hMB hM
    go_wp2_with fail
    clear x2 hmin hmB hBn hBk hkm hbm hmn hn16 hnk
    go_loopw [14, 36] (fun lv iv wr => ∃ j : Nat, iv = .int .i64 (j : Int) ∧ j ≤ M ∧ Hid (OwnId wr (w.heap.size + 2) lv (agL T tx b md (S.take j))) ∧ Hid (TB wr (w.heap.size + 1) Ax N cap c) ∧ Hid (Below w.heap.size w wr)) (fun _ iv _ => M - (intOf iv).toNat)
    case atStart => exact ⟨0, rfl, Nat.zero_le _, OwnId.nil _ _, HTW.out, HBW.out⟩
    case round =>
      obtain ⟨j, rfl, hj, HO, HT, HB⟩ := hrel
      clear HTW HBW
      rcases Nat.lt_or_ge j M with hlt | hge
      · obtain ⟨y, hy⟩ : ∃ y, S[j]? = some y := ⟨S[j]'(by rw [HLL.out]; exact hlt), List.getElem?_eq_getElem (by rw [HLL.out]; exact hlt)⟩
        have HMY := Lib.hid (HSM.out y (List.mem_of_getElem? hy))
        obtain ⟨b', o', e, hb', hc⟩ := (HLM.out.below HB.out).get hy
        injection e with e
        injection e with e1 e2
        subst e1
        subst e2
        have htk : agL T tx b md (S.take (j + 1)) = agL T tx b md (S.take j) ++ (if hit T tx b md y then [y.x.toNat] else []) := by
          rw [List.take_add_one, hy, agL_append]
          congr 1
          unfold agL
          cases hh : hit T tx b md y <;> simp [hh]
        have HTK := Lib.hid htk
        have HLJ := Lib.hid (show (agL T tx b md (S.take j)).length ≤ 16384 from Nat.le_trans (agL_len _ _ _ _ _) (by rw [List.length_take]; omega))
        have hc0 := hc.c0
        have hc1 := hc.c1
        have hc2 := hc.c2
        have hc3 := hc.c3
        obtain ⟨wz, hwz⟩ : ∃ wz, wz = wr.alloc (.cells #[.int .i64 y.b, .int .i64 y.x, .int .i64 y.h, .int .i64 y.k] 84) := ⟨_, rfl⟩
        have hbz : Below wr.heap.size wr wz := by rw [hwz]; exact below_new _ _
        have hy4 : LB wz wr.heap.size y := by rw [hwz]; exact LB.new wr y _
        have HBZ := Lib.hid (HB.out.trans (hbz.mono HB.out.size))
        have HTZ := Lib.hid (HT.out.below hbz)
        have HOZ := Lib.hid (HO.out.below hbz)
        have HSZ := Lib.hid (show w.heap.size + 2 ≤ wz.heap.size from by have h1 := HT.out.lt; have h2 := hbz.size; have h3 : wz.heap.size = wr.heap.size + 1 := (by rw [hwz]; simp); omega)
        have cz0 := hy4.b
        have cz1 := hy4.x
        have cz2 := hy4.h
        have cz3 := hy4.k
        clear hc htk hbz hy4 hy hb'
        go_upto_region 7 with fail
        rw [← hwz]
        clear hwz hc0 hc1 hc2 hc3
        obtain ⟨ex, hex⟩ : ∃ ex, exc md y.s = ex := ⟨_, rfl⟩
        obtain ⟨st, hst⟩ : ∃ st, T.stands tx y.x = st := ⟨_, rfl⟩
        by_cases hb : y.b = b
        · have hbb : (y.b == b) = true := by simpa using hb
          cases ex
          · have HH := Lib.hid (show hit T tx b md y = false by unfold hit; rw [hex]; simp)
            clear hb
            go_wp2_with (first | (go_at_call 65; refine (greater_any y _).mono ?_; rintro e w5 ⟨rfl, hgw⟩; have HG5 := Lib.hid hgw.below; have d1 := (hgw.cell cz1 (block_lt_of_cell (a := ⟨wr.heap.size, 1, none⟩) cz1)); have s0 := (HTZ.out.below hgw.below).c0; have s1 := (HTZ.out.below hgw.below).c1; clear hgw) | (go_at_call 64; refine (excl_any md y.s hmd _).mono ?_; rintro e w' ⟨rfl, hw'⟩; replace hw' := hw'.symm; subst hw'; rw [hex]) | (go_at_call 66; refine (within_any Ax T N cap c tx y.x HNX.out HGT.out w5 (HTx.out.below (HBZ.out.trans (HG5.out.mono HBZ.out.size)))).mono ?_; rintro e w6 ⟨rfl, hb6⟩; rw [hst]; have d2 := (hb6.cell (p := ⟨wr.heap.size, 1, none⟩) (block_lt_of_cell (a := ⟨wr.heap.size, 1, none⟩) d1)).trans d1; have HW6 := Lib.hid hb6; clear hb6) | fail)
            go_roundw
            case rel => exact ⟨j + 1, by simp, by omega, by rw [HTK.out, HH.out]; simp; exact HOZ.out.below HG5.out, HTZ.out.below HG5.out, HBZ.out.trans (HG5.out.mono HBZ.out.size)⟩
            case measure => simp [intOf]; omega
          · cases st
            · have HH := Lib.hid (show hit T tx b md y = true by unfold hit; rw [hex, hst]; simp [hb])
              clear hb
              go_wp2_with (first | (go_at_call 65; refine (greater_any y _).mono ?_; rintro e w5 ⟨rfl, hgw⟩; have HG5 := Lib.hid hgw.below; have d1 := (hgw.cell cz1 (block_lt_of_cell (a := ⟨wr.heap.size, 1, none⟩) cz1)); have s0 := (HTZ.out.below hgw.below).c0; have s1 := (HTZ.out.below hgw.below).c1; clear hgw) | (go_at_call 64; refine (excl_any md y.s hmd _).mono ?_; rintro e w' ⟨rfl, hw'⟩; replace hw' := hw'.symm; subst hw'; rw [hex]) | (go_at_call 66; refine (within_any Ax T N cap c tx y.x HNX.out HGT.out w5 (HTx.out.below (HBZ.out.trans (HG5.out.mono HBZ.out.size)))).mono ?_; rintro e w6 ⟨rfl, hb6⟩; rw [hst]; have d2 := (hb6.cell (p := ⟨wr.heap.size, 1, none⟩) (block_lt_of_cell (a := ⟨wr.heap.size, 1, none⟩) d1)).trans d1; have HW6 := Lib.hid hb6; have HO6 := Lib.hid ((HOZ.out.below HG5.out).below hb6); clear hb6) | (at_builtin; refine wpList_append_id rfl _ _ rfl (w.heap.size + 2) u14 (agL T tx b md (S.take j)) rfl ((HO6.out).below (below_new _ _)) _ y.x.toNat rfl (((cell_new w6 #[.int .i64 y.x] 3 0).trans rfl).trans (by rw [Int.toNat_of_nonneg HMY.out.x.1]; rfl)) (by have := HLJ.out; omega) (by have h1 := HSZ.out; have h2 := HG5.out.size; have h3 := HW6.out.size; simp; omega) ?_; intro v7 w7 hown7 hg7 hat7; have HO7 := Lib.hid hown7; have HG7 := Lib.hid hg7; clear hown7 hg7 hat7) | fail)
              have HT6 := Lib.hid ((HTZ.out.below HG5.out).below HW6.out)
              have HB6 := Lib.hid ((HBZ.out.trans (HG5.out.mono HBZ.out.size)).trans (HW6.out.mono (Nat.le_trans HBZ.out.size HG5.out.size)))
              have hb7 := below_new w6 (.cells #[.int .i64 y.x] 3)
              have HT7 := Lib.hid ((HT6.out.below hb7).far (r := u14.ownBlock) HG7.out (fun e => by have := (HO6.out.lt _ e.symm).1; omega))
              have HB7 := Lib.hid ((HB6.out.alloc HB6.out.size (.cells #[.int .i64 y.x] 3)).grown HG7.out (by have := HB6.out.size; simp; omega) (fun q eq => by have := (HO6.out.lt q eq).1; omega))
              clear hb7
              go_roundw
              case rel => exact ⟨j + 1, by simp, by omega, by rw [HTK.out, HH.out]; exact HO7.out, HT7.out, HB7.out⟩
              case measure => simp [intOf]; omega
            · have HH := Lib.hid (show hit T tx b md y = false by unfold hit; rw [hst]; simp)
              clear hb
              go_wp2_with (first | (go_at_call 65; refine (greater_any y _).mono ?_; rintro e w5 ⟨rfl, hgw⟩; have HG5 := Lib.hid hgw.below; have d1 := (hgw.cell cz1 (block_lt_of_cell (a := ⟨wr.heap.size, 1, none⟩) cz1)); have s0 := (HTZ.out.below hgw.below).c0; have s1 := (HTZ.out.below hgw.below).c1; clear hgw) | (go_at_call 64; refine (excl_any md y.s hmd _).mono ?_; rintro e w' ⟨rfl, hw'⟩; replace hw' := hw'.symm; subst hw'; rw [hex]) | (go_at_call 66; refine (within_any Ax T N cap c tx y.x HNX.out HGT.out w5 (HTx.out.below (HBZ.out.trans (HG5.out.mono HBZ.out.size)))).mono ?_; rintro e w6 ⟨rfl, hb6⟩; rw [hst]; have d2 := (hb6.cell (p := ⟨wr.heap.size, 1, none⟩) (block_lt_of_cell (a := ⟨wr.heap.size, 1, none⟩) d1)).trans d1; have HW6 := Lib.hid hb6; clear hb6) | fail)
              have HT6 := Lib.hid ((HTZ.out.below HG5.out).below HW6.out)
              have HB6 := Lib.hid ((HBZ.out.trans (HG5.out.mono HBZ.out.size)).trans (HW6.out.mono (Nat.le_trans HBZ.out.size HG5.out.size)))
              have HO6 := Lib.hid ((HOZ.out.below HG5.out).below HW6.out)
              go_roundw
              case rel => exact ⟨j + 1, by simp, by omega, by rw [HTK.out, HH.out]; simp; exact HO6.out, HT6.out, HB6.out⟩
              case measure => simp [intOf]; omega
        · have hbb : (y.b == b) = false := by simpa using hb
          have HH := Lib.hid (show hit T tx b md y = false by unfold hit; simp [hb])
          clear hb
          go_wp2
          go_roundw
          case rel => exact ⟨j + 1, by simp, by omega, by rw [HTK.out, HH.out]; simp; exact HOZ.out, HTZ.out, HBZ.out⟩
          case measure => simp [intOf]; omega
      · obtain rfl : j = M := by omega
        go_wp2
        go_ret
        have h := HO.out
        rw [List.take_of_length_le (by rw [HLL.out]; omega), HAG.out, ← H12.out] at h
        exact ⟨_, rfl, h.le (by omega), HB.out⟩
end Go.Proofs.YtbokhhialfbjcaaGreat

namespace Go.Proofs.YtbokhhialfbjcaaGreat
set_option maxRecDepth 100000
set_option linter.unusedVariables false
open Go.RowKit Go.Shelf Go.Sort

/-- a table lies in block g -/
def KB (W : World) (g : Nat) (A : Option Addr) (n k : Nat) : Prop := W.heap[g]? = some (.cells #[.slice A n k] 34 (0, 0))
/-- a lock lies in block g -/
def LH (W : World) (g : Nat) (y : Lk) : Prop := W.heap[g]? = some (.cells #[.int .i64 y.b, .int .i64 y.x, .int .i64 y.h, .int .i64 y.k] 84 (0, 0))
theorem setRow_grown (W : World) (g : Nat) (cs : Array Value) : W.grownBy (W.setRow g cs) (some g) := ⟨rfl, rfl, rfl, by rw [setRow_size]; exact Nat.le_refl _, fun j _ hj => setRow_other W g j _ (fun e => hj (by rw [e]))⟩
section
variable {W V : World} {g : Nat} {A A' : Option Addr} {n k n' k' : Nat} {y z : Lk}
theorem KB.c0 (h : KB W g A n k) : W.cell? ⟨g, 0, none⟩ = some (.slice A n k) := (cell_of_row _ _ _ _ _ _ h).trans rfl
theorem KB.fr (h : KB W g A n k) (j : Nat) : W.frozen? ⟨g, j, none⟩ = false := by
  have h' : W.heap[g]? = _ := h
  unfold World.frozen?
  simp only [h']
  simp
theorem KB.lt (h : KB W g A n k) : g < W.heap.size := lt_of_block h
theorem KB.below (h : KB W g A n k) (hb : Below W.heap.size W V) : KB V g A n k := (hb.block g h.lt).trans h
theorem KB.turn {S : Nat → Prop} (h : KB W g A n k) (ht : Turn S W V) (hS : ¬ S g) : KB V g A n k := (ht.block g h.lt hS).trans h
theorem KB.far {r : Option Nat} (h : KB W g A n k) (hg : W.grownBy V r) (hne : some g ≠ r) : KB V g A n k := (hg.block g h.lt hne).trans h
theorem KB.new (W : World) (A : Option Addr) (n k : Nat) : KB (W.alloc (.cells #[.slice A n k] 34)) W.heap.size A n k := heap_alloc_new W _
theorem table_info : (Tryz.prog.info? 34).map (·.size) = some (#[Value.slice none 0 0] : Array Value).size := by kernel_rfl
theorem table_under : ∃ fs, Tryz.prog.underlying 34 = some (.struct fs) := ⟨_, Tryz.underlying34⟩
theorem wp_store_table {o : Oper} {a : Act} {K : Act → World → Prop} {Q : Exit → Act → World → Prop} (x u : Operand) (ho : o.op = .store 34 x u) (hx : a.eval x = .pointer (some ⟨g, 0, none⟩)) (hy : a.eval u = .agg #[.slice A' n' k'])
    (hb : KB W g A n k) (h : ∀ w', KB w' g A' n' k' → W.grownBy w' (some g) → K (a.put o.dst undef) w') : o.wp Tryz.prog a W K Q :=
  wp_store_row 34 x u ho g _ hx hy 34 _ hb table_info rfl (by simp [Value.oneCell']) (h _ (setRow_heap _ _ _ _ _ _ hb) (setRow_grown _ _ _))
theorem wpList_store_table {ops : Array Oper} {rest : List Oper} {o : Oper} {a : Act} {Q : Exit → Act → World → Prop} (hgd : o.guard = none) (x u : Operand) (ho : o.op = .store 34 x u) (hx : a.eval x = .pointer (some ⟨g, 0, none⟩)) (hy : a.eval u = .agg #[.slice A' n' k'])
    (hb : KB W g A n k) (h : ∀ w', KB w' g A' n' k' → W.grownBy w' (some g) → wpList Tryz.prog ops Q rest (a.put o.dst undef) w') : wpList Tryz.prog ops Q (o :: rest) a W :=
  wpList_store_row hgd 34 x u ho g _ hx hy 34 _ hb table_info rfl (by simp [Value.oneCell']) (h _ (setRow_heap _ _ _ _ _ _ hb) (setRow_grown _ _ _))
theorem run_load_table (h : KB W g A n k) : (loadVar 34 ⟨g, 0, none⟩).run Tryz.prog W = .ok (.agg #[.slice A n k]) W := by
  obtain ⟨fs, hu⟩ := table_under
  exact run_loadVar_row W g _ _ _ (0, 0) _ h hu rfl table_info
theorem results_table {fn : Func} {p : Tmp} (hf : fn.results = #[.cell p 34]) (tmps : Array Value) (hp : tmps.getD p undef = .pointer (some ⟨g, 0, none⟩)) (h : KB W g A n k) : (results fn tmps).run Tryz.prog W = .ok (.agg #[.slice A n k]) W := by
  obtain ⟨fs, hu⟩ := table_under
  exact results_cell_row hf tmps W g _ _ (0, 0) _ hp h hu rfl table_info
theorem results_table2 {fn : Func} {p u : Tmp} (hf : fn.results = #[.cell p 34, .tmp u]) (tmps : Array Value) (hp : tmps.getD p undef = .pointer (some ⟨g, 0, none⟩)) (v : Value) (hv : tmps.getD u undef = v) (h : KB W g A n k) :
    (results fn tmps).run Tryz.prog W = .ok (.tuple #[.agg #[.slice A n k], v]) W := by
  have hp' : tmps[p]?.getD undef = .pointer (some ⟨g, 0, none⟩) := by simpa using hp
  have hv' : tmps[u]?.getD undef = v := by simpa using hv
  simp [results, hf, hp', hv', asAddr, run_load_table h]

theorem LH.c0 (h : LH W g y) : W.cell? ⟨g, 0, none⟩ = some (.int .i64 y.b) := (cell_of_row _ _ _ _ _ _ h).trans rfl
theorem LH.c1 (h : LH W g y) : W.cell? ⟨g, 1, none⟩ = some (.int .i64 y.x) := (cell_of_row _ _ _ _ _ _ h).trans rfl
theorem LH.c2 (h : LH W g y) : W.cell? ⟨g, 2, none⟩ = some (.int .i64 y.h) := (cell_of_row _ _ _ _ _ _ h).trans rfl
theorem LH.c3 (h : LH W g y) : W.cell? ⟨g, 3, none⟩ = some (.int .i64 y.k) := (cell_of_row _ _ _ _ _ _ h).trans rfl
theorem LH.fr (h : LH W g y) (j : Nat) : W.frozen? ⟨g, j, none⟩ = false := by
  have h' : W.heap[g]? = _ := h
  unfold World.frozen?
  simp only [h']
  simp
theorem LH.lt (h : LH W g y) : g < W.heap.size := lt_of_block h
theorem LH.below (h : LH W g y) (hb : Below W.heap.size W V) : LH V g y := (hb.block g h.lt).trans h
theorem LH.turn {S : Nat → Prop} (h : LH W g y) (ht : Turn S W V) (hS : ¬ S g) : LH V g y := (ht.block g h.lt hS).trans h
theorem LH.far {r : Option Nat} (h : LH W g y) (hg : W.grownBy V r) (hne : some g ≠ r) : LH V g y := (hg.block g h.lt hne).trans h
theorem LH.new (W : World) (y : Lk) : LH (W.alloc (.cells #[.int .i64 y.b, .int .i64 y.x, .int .i64 y.h, .int .i64 y.k] 84)) W.heap.size y := heap_alloc_new W _
theorem LH.setH (h : LH W g y) (x : Int) : LH (W.setCell ⟨g, 2, none⟩ (.int .i64 x)) g { y with h := x } := heap_setCell_same W g 2 _ _ _ h
theorem LH.setK (h : LH W g y) (x : Int) : LH (W.setCell ⟨g, 3, none⟩ (.int .i64 x)) g { y with k := x } := heap_setCell_same W g 3 _ _ _ h
theorem lock_info : (Tryz.prog.info? 84).map (·.size) = some (#[Value.int .i64 0, .int .i64 0, .int .i64 0, .int .i64 0] : Array Value).size := by kernel_rfl
theorem lock_under : ∃ fs, Tryz.prog.underlying 84 = some (.struct fs) := ⟨_, Tryz.underlying84⟩
theorem wpList_store_lock {ops : Array Oper} {rest : List Oper} {o : Oper} {a : Act} {Q : Exit → Act → World → Prop} (hgd : o.guard = none) (x u : Operand) (ho : o.op = .store 84 x u) (hx : a.eval x = .pointer (some ⟨g, 0, none⟩)) (hy : a.eval u = .agg #[.int .i64 z.b, .int .i64 z.x, .int .i64 z.h, .int .i64 z.k])
    (hb : LH W g y) (h : ∀ w', LH w' g z → W.grownBy w' (some g) → wpList Tryz.prog ops Q rest (a.put o.dst undef) w') : wpList Tryz.prog ops Q (o :: rest) a W :=
  wpList_store_row hgd 84 x u ho g _ hx hy 84 _ hb lock_info rfl (by simp [Value.oneCell']) (h _ (setRow_heap _ _ _ _ _ _ hb) (setRow_grown _ _ _))
theorem results_lock {fn : Func} {p : Tmp} (hf : fn.results = #[.cell p 84]) (tmps : Array Value) (hp : tmps.getD p undef = .pointer (some ⟨g, 0, none⟩)) (h : LH W g y) : (results fn tmps).run Tryz.prog W = .ok (.agg #[.int .i64 y.b, .int .i64 y.x, .int .i64 y.h, .int .i64 y.k]) W := by
  obtain ⟨fs, hu⟩ := lock_under
  exact results_cell_row hf tmps W g _ _ (0, 0) _ hp h hu rfl lock_info
end

/-- an address that no variable's name marks, or none -/
def Sp (A : Option Addr) : Prop := A = none ∨ ∃ b o, A = some ⟨b, o, none⟩
theorem LkAt.sp {W : World} {A : Option Addr} {l : List Lk} (h : LkAt W A l) (hne : l ≠ []) : Sp A := by
  rcases h with h | ⟨b, o, e, _⟩
  · exact absurd h hne
  · exact .inr ⟨b, o, e⟩

/-- 'l[:m]' -/
theorem wpList_slice_to {ops : Array Oper} {rest : List Oper} {o : Oper} {a : Act} {w : World} {Q : Exit → Act → World → Prop} (hgd : o.guard = none) (s x : Operand) (ho : o.op = .slice 32 s none (some x) none)
    (A : Option Addr) (n k m : Nat) (hs : a.eval s = .slice A n k) (hx : a.eval x = .int .i64 (m : Int)) (hA : Sp A) (hm : m ≤ k)
    (h : wpList Tryz.prog ops Q rest (a.put o.dst (.slice A m k)) w) : wpList Tryz.prog ops Q (o :: rest) a w := by
  refine wpList_plain hgd fun K hK => ?_
  have hrun : (Instr.slice 32 (.slice A n k) none (some (.int .i64 (m : Int))) none).run Tryz.prog w = .ok (.slice A m k) w := by
    rw [run_slice_h w 32 A n k Tryz.underlying32 .i64 (m : Int) (by omega) (by omega)]
    rw [show (Go.sizeOf (Tryz.prog.elem 32)).run Tryz.prog w = .ok 4 w from Tryz.sizeOf84 w]
    rcases hA with rfl | ⟨b, q, rfl⟩ <;> simp [Result.andThen, sliced, Addr.add]
  unfold Oper.wp execOp
  simp only [ho, Sem.run_bind, Sem.run_pure, Result.andThen_ok, hs, hx, Option.map_some, Option.map_none, run_sliceAt_slice _ _ _ _ _ _ Tryz.underlying32, hrun]
  exact hK _ _ h
/-- 'l[m:]' -/
theorem wpList_slice_from {ops : Array Oper} {rest : List Oper} {o : Oper} {a : Act} {w : World} {Q : Exit → Act → World → Prop} (hgd : o.guard = none) (s x : Operand) (ho : o.op = .slice 32 s (some x) none none)
    (A : Option Addr) (n k m : Nat) (hs : a.eval s = .slice A n k) (hx : a.eval x = .int .i64 (m : Int)) (hA : Sp A) (hm : m ≤ n) (hk : n ≤ k) {W : World} {l r : List Lk} (hl : LkAt W A (l ++ r)) (hlm : l.length = m) (hn : (l ++ r).length = n)
    (h : ∀ A' n' k', Sp A' → LkAt W A' r → r.length = n' → n' ≤ k' → wpList Tryz.prog ops Q rest (a.put o.dst (.slice A' n' k')) w) : wpList Tryz.prog ops Q (o :: rest) a w := by
  refine wpList_plain hgd fun K hK => ?_
  have hrn : r.length = n - m := by rw [← hn, List.length_append, hlm]; omega
  obtain ⟨A', hA', hL', hrun⟩ : ∃ A', Sp A' ∧ LkAt W A' r ∧ (Instr.slice 32 (.slice A n k) (some (.int .i64 (m : Int))) none none).run Tryz.prog w = .ok (.slice A' (n - m) (k - m)) w := by
    rw [run_slice_l w 32 A n k Tryz.underlying32 .i64 (m : Int) (by omega) (by omega)]
    rw [show (Go.sizeOf (Tryz.prog.elem 32)).run Tryz.prog w = .ok 4 w from Tryz.sizeOf84 w]
    by_cases e : k = m
    · have : r = [] := List.eq_nil_of_length_eq_zero (by omega)
      subst this
      exact ⟨A, hA, .inl rfl, by simp [Result.andThen, sliced, e]⟩
    · rcases hA with rfl | ⟨b, q, rfl⟩
      · refine ⟨none, .inl rfl, ?_, by simp [Result.andThen, sliced, e]⟩
        rcases hl with h | ⟨b, q, e, _⟩
        · exact .inl (List.append_eq_nil_iff.1 h).2
        · cases e
      · refine ⟨some ⟨b, q + m * 4, none⟩, .inr ⟨_, _, rfl⟩, hl.right hlm, ?_⟩
        simp [Result.andThen, sliced, e, addr_add]
  unfold Oper.wp execOp
  simp only [ho, Sem.run_bind, Sem.run_pure, Result.andThen_ok, hs, hx, Option.map_some, Option.map_none, run_sliceAt_slice _ _ _ _ _ _ Tryz.underlying32, hrun]
  exact hK _ _ (h A' (n - m) (k - m) hA' hL' hrn (by omega))
end Go.Proofs.YtbokhhialfbjcaaGreat

namespace Go.Proofs.YtbokhhialfbjcaaGreat
set_option maxRecDepth 100000
set_option linter.unusedVariables false
open Go.RowKit Go.Shelf Go.Sort

theorem lay_snoc (L more : List Lk) (z : Lk) : lay L (more ++ [z]) = ins (lay L more) z := by unfold lay; rw [List.foldl_append]; rfl
theorem CellsAt.of {W : World} {b o : Nat} {y : Lk} {i : Nat} (h : CellsAt W b (o + i * 4) y) (hi : i = 0) : CellsAt W b o y := by subst hi; simpa using h

set_option maxHeartbeats 2000000 in
theorem with_any (A : Option Addr) (L : List Lk) (n k : Nat) (hN : L.length = n) (hnk : n ≤ k) (hA : Sp A) (hl : LG L) (Am : Option Addr) (more : List Lk) (nm km : Nat) (hNm : more.length = nm) (hm : LG more) (w : World) (hL : LkAt w A L) (hM : LkAt w Am more) :
    Calls Tryz.prog 37 #[.agg #[.slice A n k], .slice Am nm km] w fun e w' => ∃ A' n' k', e = .returned (.agg #[.slice A' n' k']) ∧ OwnLk w' w.heap.size (.slice A' n' k') (lay L more) ∧ Below w.heap.size w w' := by
  have hn16 : n ≤ 16384 := by rw [← hN]; exact hl.len
  have hm16 : nm ≤ 16384 := by rw [← hNm]; exact hm.len
  obtain ⟨w0, hw0⟩ : ∃ w0, w0 = w.alloc (.cells #[.slice A n k] 34) := ⟨_, rfl⟩
  obtain ⟨w1, hw1⟩ : ∃ w1, w1 = w0.alloc (.cells #[.slice none 0 0] 34) := ⟨_, rfl⟩
  have hs0 : w0.heap.size = w.heap.size + 1 := by rw [hw0]; simp
  have hs1 : w1.heap.size = w.heap.size + 2 := by rw [hw1, World.size_alloc, hs0]
  have b0 : Below w.heap.size w w1 := by rw [hw1, hw0]; exact below_two (below_new _ _) (below_new _ _)
  have x0 : KB w1 w.heap.size A n k := by rw [hw1, hw0]; exact (KB.new w A n k).below (below_new _ _)
  have x1 : KB w1 (w.heap.size + 1) none 0 0 := by have := KB.new w0 none 0 0; rw [hs0] at this; rw [hw1]; exact this
  obtain ⟨i0, hi, hz0, hz1, hz2⟩ := parts_of lk_facts
  have HN := Lib.hid hN
  have HLG := Lib.hid hl
  have HNM := Lib.hid hNm
  have HMG := Lib.hid hm
  have HA := Lib.hid hA
  have HL0 := Lib.hid hL
  have HM0 := Lib.hid hM
  have HB1 := Lib.hid b0
  have HK1 := Lib.hid x1
  have HS1 := Lib.hid hs1
  have c0 := x0.c0
  clear hN hl hNm hm hA hL hM b0 x0 x1 hs1
  go_enter Tryz.func37, Tryz.ntmps37
  go_upto_region 1 with fail
  rw [← hw0, ← hw1]
  clear hw0 hw1 hs0 w0
  obtain ⟨nc, hnc⟩ : ∃ nc, nc = n + nm := ⟨_, rfl⟩
  have hsum : (n : Int) + (nm : Int) = (nc : Int) := by omega
  have hnc1 : nc ≤ 32768 := by omega
  clear hnc
  go_wp2_with (first | (refine wpList_make_own _ rfl _ _ _ rfl (w.heap.size + 2) 84 i0 _ 4 Tryz.underlying32 hi hz0 hz1 _ _ _ nc rfl rfl rfl (by rw [hz2]; omega) (by unfold maxLen; omega) (by have := HS1.out; omega) ?_; intro w2 hown2 hg2; have HO2 := Lib.hid hown2; have HG2 := Lib.hid hg2; clear hown2 hg2) | fail)
  have HB2 := Lib.hid (HB1.out.grown HG2.out HB1.out.size (by simp))
  have HK2 := Lib.hid (HK1.out.far HG2.out (by simp))
  have HO2b : Hid (OwnLk w2 (w.heap.size + 2) (.slice (some ⟨w1.heap.size, 0, none⟩) 0 nc) []) := HO2.out
  clear hi hz0 hz1 hz2 c0 hsum HO2 HG2
  go_loopw [5, 6, 21] (fun rv lv iv wr => ∃ (j : Nat) (acc R : List Lk) (A' : Option Addr) (n' k' : Nat), iv = .int .i64 (j : Int) ∧ rv = .slice A' n' k' ∧ j ≤ nm ∧ n' ≤ k' ∧ n' ≤ n ∧ Hid (R.length = n') ∧ Hid (Sp A') ∧ Hid (LkAt w A' R) ∧ Hid (OwnLk wr (w.heap.size + 2) lv acc) ∧ Hid (lay L (more.take j) = acc ++ R) ∧ Hid (LG R) ∧
    Hid (∀ z ∈ more.drop j, ∀ y ∈ acc, y.q < z.q) ∧ Hid (acc.length + n' ≤ n + j) ∧ Hid (KB wr (w.heap.size + 1) none 0 0) ∧ Hid (Below w.heap.size w wr)) (fun _ _ iv _ => nm - (intOf iv).toNat)
  case atStart => exact ⟨0, [], L, A, n, k, rfl, rfl, Nat.zero_le _, hnk, Nat.le_refl _, HN.out, HA.out, HL0.out, HO2b.out, rfl, HLG.out, (fun _ _ _ h => by cases h), (by simp : ([] : List Lk).length + n ≤ n + 0), HK2.out, HB2.out⟩
  case round =>
    obtain ⟨j, acc, R, A', n', k', rfl, rfl, hj, hnk', hnn, HR, HSP, HLR, HO, HLAY, HRG, HLT, HLEN, HK, HB⟩ := hrel
    clear HO2b HK2 HB2
    rcases Nat.lt_or_ge j nm with hlt | hge
    · obtain ⟨z, hz⟩ : ∃ z, more[j]? = some z := ⟨more[j]'(by rw [HNM.out]; exact hlt), List.getElem?_eq_getElem (by rw [HNM.out]; exact hlt)⟩
      have HMZ := Lib.hid (HMG.out.may z (List.mem_of_getElem? hz))
      obtain ⟨bm, om, rfl, hbm, hc⟩ := (HM0.out.below HB.out).get hz
      have HTK := Lib.hid (show more.take (j + 1) = more.take j ++ [z] by rw [List.take_add_one, hz]; rfl)
      have HDR := Lib.hid (show more.drop j = z :: more.drop (j + 1) by
        obtain ⟨h1, h2⟩ := List.getElem?_eq_some_iff.1 hz
        rw [← h2]; exact List.drop_eq_getElem_cons h1)
      have HUP := Lib.hid (show ∀ u ∈ more.drop (j + 1), z.q < u.q by
        have h := HMG.out.up
        rw [← List.take_append_drop j more, HDR.out] at h
        exact (List.pairwise_cons.1 (List.pairwise_append.1 h).2.1).1)
      have hc0 := hc.c0
      have hc1 := hc.c1
      have hc2 := hc.c2
      have hc3 := hc.c3
      obtain ⟨wz, hwz⟩ : ∃ wz, wz = wr.alloc (.cells #[.int .i64 z.b, .int .i64 z.x, .int .i64 z.h, .int .i64 z.k] 84) := ⟨_, rfl⟩
      have hbz : Below wr.heap.size wr wz := by rw [hwz]; exact below_new _ _
      obtain ⟨g, hg⟩ : ∃ g, g = wr.heap.size := ⟨_, rfl⟩
      have hy4 : LH wz g z := by rw [hwz, hg]; exact LH.new wr z
      have HBZ := Lib.hid (HB.out.trans (hbz.mono HB.out.size))
      have HKZ := Lib.hid (HK.out.below hbz)
      have HOZ := Lib.hid (HO.out.below hbz)
      have HGZ := Lib.hid (show ∀ q, u6.ownBlock = some q → q ≠ g from fun q e => by have := (HO.out.lt q e).2; omega)
      have HG2 := Lib.hid (show w.heap.size + 2 ≤ g by have h1 := HK.out.lt; omega)
      have cz0 := hy4.c0
      have cz1 := hy4.c1
      have HY4 := Lib.hid hy4
      clear hc hbz hy4 hz hbm
      go_upto_region 6 with fail
      rw [← hg, ← hwz]
      clear hwz hg hc0 hc1 hc2 hc3
      have HWB := Lib.hid HBZ.out
      go_upto_region 9 with (first
        | (go_at_call 63; refine (place_any A' R n' k' z.x z.b HMZ.out.x HRG.out HR.out wz (HLR.out.below HBZ.out)).mono ?_; rintro e w2 ⟨L1, L2, t, hl12, h1, h2, h3, h4, rfl, hb2⟩; obtain ⟨m, hm⟩ : ∃ m, m = L1.length := ⟨_, rfl⟩; rw [← hm]; have hmn : m ≤ n' := (by rw [← HR.out, hl12, List.length_append]; omega); have hmk : m ≤ k' := (by omega); have HM := Lib.hid hm; have H12 := Lib.hid hl12; have H1 := Lib.hid h1; have H3 := Lib.hid h3; have H4 := Lib.hid h4; have HB2 := Lib.hid hb2; have HO2 := Lib.hid (HOZ.out.below hb2); have HK2 := Lib.hid (HKZ.out.below hb2); have HY2 := Lib.hid (HY4.out.below hb2); have HBW := Lib.hid (HBZ.out.trans (hb2.mono HBZ.out.size)); clear hm hl12 h1 h2 h3 h4 hb2)
        | (refine wpList_slice_to rfl _ _ rfl A' n' k' m rfl rfl HSP.out hmk ?_)
        | (at_builtin; refine wpList_append_lks rfl _ _ rfl (w.heap.size + 2) u6 acc L1 rfl HO2.out A' m k' rfl (by have h := HLR.out; rw [H12.out] at h; exact (h.left).below HBW.out) HM.out.symm HSP.out (by have := HLEN.out; have := HM.out; omega) (by have h1 := HK2.out.lt; omega) ?_; intro v3 w3 hown3 hg3 hat3; have HO3 := Lib.hid hown3; have HG3 := Lib.hid hg3; have HK3 := Lib.hid (HK2.out.far hg3 (fun e => by have := (HO2.out.lt _ e.symm).1; omega)); have HY3 := Lib.hid (HY2.out.far hg3 (fun e => HGZ.out _ e.symm rfl)); have HB3 := Lib.hid (HBW.out.grown hg3 HBW.out.size (fun q e => by have := (HO2.out.lt q e).1; omega)); have HA3 := Lib.hid (show ∀ q, v3.ownBlock = some q → q ≠ g from fun q e => by
            rcases hat3 with h | h
            · exact HGZ.out q (by rw [← h]; exact e)
            · rw [e] at h; injection h with h; have := HY2.out.lt; omega); clear hown3 hg3 hat3)
        | (refine wpList_slice_from rfl _ _ rfl A' n' k' m rfl rfl HSP.out hmn hnk' (by have h := HLR.out; rw [H12.out] at h; exact h) HM.out.symm (by rw [← H12.out]; exact HR.out) ?_; intro A4 n4 k4 hsp4 hl4 hn4 hnk4; have HSP4 := Lib.hid hsp4; have HL4 := Lib.hid hl4; have HN4 := Lib.hid hn4; clear hsp4 hl4 hn4)
        | fail)
      have HLI := Lib.hid (show lay L (more.take (j + 1)) = acc ++ L1 ++ ins L2 z from by
        rw [HTK.out, lay_snoc, HLAY.out, ins_front (fun y hy => HLT.out z (by rw [HDR.out]; simp) y hy), H12.out, ins_front (l := L1) H1.out, List.append_assoc])
      have HG2R := Lib.hid (show LG L2 from by have h := HRG.out; rw [H12.out] at h; exact h.right)
      have HLR12 := Lib.hid (show L1.length + L2.length = n' from by rw [← HR.out, H12.out, List.length_append])
      have HLT2 := Lib.hid (show ∀ u ∈ more.drop (j + 1), ∀ y ∈ acc ++ L1, y.q < u.q from fun u hu y hy => by
        rcases List.mem_append.1 hy with h | h
        · exact HLT.out u (by rw [HDR.out]; exact List.mem_cons_of_mem _ hu) y h
        · have h1 := H1.out y h
          have h2 := HUP.out u hu
          have h3 : z.q = z.b * 64 + z.x := rfl
          omega)
      cases t
      · have HI := Lib.hid (show ins L2 z = z :: L2 from by
          cases L2 with
          | nil => rfl
          | cons y r => exact ins_new (by have := H4.out rfl y (by simp); exact this))
        have d0 := HY3.out.c0
        have d1 := HY3.out.c1
        have d2 := HY3.out.c2
        have d3 := HY3.out.c3
        go_wp2_with (first
            | (at_builtin; refine wpList_append_lks rfl _ _ rfl (w.heap.size + 2) v3 (acc ++ L1) [z] rfl (HO3.out.below (below_new _ _)) _ 1 1 rfl (LkAt.new _ z _) rfl (.inr ⟨_, _, rfl⟩) (by have h1 := HLEN.out; have h2 := HM.out; simp; omega) (by have h1 := HK3.out.lt; simp; omega) ?_; intro v5 w5 hown5 hg5 hat5; have HO5 := Lib.hid hown5; have HG5 := Lib.hid hg5; clear hown5 hg5 hat5)
            | fail)
        have hb5 := below_new w3 (.cells #[.int .i64 z.b, .int .i64 z.x, .int .i64 z.h, .int .i64 z.k] 84)
        have HK5 := Lib.hid ((HK3.out.below hb5).far HG5.out (fun e => by have := (HO3.out.lt _ e.symm).1; omega))
        have HB5 := Lib.hid ((HB3.out.alloc HB3.out.size (.cells #[.int .i64 z.b, .int .i64 z.x, .int .i64 z.h, .int .i64 z.k] 84)).grown HG5.out (by have := HB3.out.size; simp; omega) (fun q e => by have := (HO3.out.lt q e).1; omega))
        clear hb5
        go_roundw
        case rel => exact ⟨j + 1, acc ++ L1 ++ [z], L2, A4, n4, k4, by simp, rfl, by omega, hnk4, by have h1 := HLR12.out; have h2 := HN4.out; omega, HN4.out, HSP4.out, HL4.out, HO5.out, (show lay L (more.take (j + 1)) = acc ++ L1 ++ [z] ++ L2 by rw [HLI.out, HI.out]; simp), HG2R.out, (fun u hu y hy => by
            rcases List.mem_append.1 hy with h | h
            · exact HLT2.out u hu y h
            · have : y = z := by simpa using h
              rw [this]; exact HUP.out u hu), (show (acc ++ L1 ++ [z]).length + n4 ≤ n + (j + 1) by have h1 := HLEN.out; have h2 := HLR12.out; have h3 := HN4.out; simp only [List.length_append, List.length_cons, List.length_nil]; omega), HK5.out, HB5.out⟩
        case measure => simp [intOf]; omega
      · obtain ⟨y, r, hyr, hyq⟩ := H3.out rfl
        subst hyr
        have HQ := Lib.hid hyq
        have HMY := Lib.hid (HG2R.out.may y (by simp))
        obtain ⟨b4, o4, rfl, hb4, hc4⟩ := (HL4.out.below HB3.out).get (i := 0) (y := y) rfl
        have hc4 := hc4.of rfl
        obtain ⟨H, hH⟩ : ∃ H, max z.h y.h = H := ⟨_, rfl⟩
        obtain ⟨K, hK⟩ : ∃ K, max z.k y.k = K := ⟨_, rfl⟩
        have hn4 : 0 < n4 := by rw [← HN4.out]; simp
        have d2 := HY3.out.c2
        have e2 := hc4.c2
        have f2 := HY3.out.fr 2
        have HC4 := Lib.hid hc4
        have HB4 := Lib.hid hb4
        clear hyq hc4 hb4
        go_upto_region 10 with fail
        go_region
        obtain ⟨w10, hw10⟩ : ∃ w10, w10 = World.drew (w3.setCell ⟨g, 2, none⟩ (.int .i64 H)) := ⟨_, rfl⟩
        rw [← hw10]
        have hB10 : Below w.heap.size w w10 := by rw [hw10]; exact (HB3.out.setCell (p := ⟨g, 2, none⟩) (by have := HG2.out; show w.heap.size ≤ g; omega) _).drew
        have hT10 : Turn (fun k => k = g) w3 w10 := by rw [hw10]; exact ((Turn.refl (fun k => k = g) w3).setCell ⟨g, 2, none⟩ _ (.inl rfl)).drew
        have hY10 : LH w10 g ⟨z.b, z.x, H, z.k⟩ := by rw [hw10]; exact HY3.out.setH H
        have HB10 := Lib.hid hB10
        have HY10 := Lib.hid hY10
        have HO10 := Lib.hid (HO3.out.turn hT10 (fun q e h => HA3.out q e h))
        have HK10 := Lib.hid (HK3.out.turn hT10 (by have := HG2.out; omega))
        clear d2 e2 f2 hw10 hB10 hT10 hY10
        obtain ⟨b5, o5, e5, hb5, hc5⟩ := (HL4.out.below HB10.out).get (i := 0) (y := y) rfl
        injection e5 with e5
        injection e5 with e51 e52
        subst e51
        subst e52
        have d3 : w10.cell? ⟨g, 3, none⟩ = some (.int .i64 z.k) := HY10.out.c3
        have e3 := (hc5.of rfl).c3
        have f3 := HY10.out.fr 3
        clear hc5 hb5
        go_upto_region 11 with fail
        go_region
        obtain ⟨w11, hw11⟩ : ∃ w11, w11 = World.drew (w10.setCell ⟨g, 3, none⟩ (.int .i64 K)) := ⟨_, rfl⟩
        rw [← hw11]
        obtain ⟨zz, hzz⟩ : ∃ zz : Lk, zz = ⟨z.b, z.x, H, K⟩ := ⟨_, rfl⟩
        have hB11 : Below w.heap.size w w11 := by rw [hw11]; exact (HB10.out.setCell (p := ⟨g, 3, none⟩) (by have := HG2.out; show w.heap.size ≤ g; omega) _).drew
        have hT11 : Turn (fun k => k = g) w10 w11 := by rw [hw11]; exact ((Turn.refl (fun k => k = g) w10).setCell ⟨g, 3, none⟩ _ (.inl rfl)).drew
        have hY11 : LH w11 g zz := by rw [hw11, hzz]; exact HY10.out.setK K
        have HB11 := Lib.hid hB11
        have HY11 := Lib.hid hY11
        have HO11 := Lib.hid (HO10.out.turn hT11 (fun q e h => HA3.out q e h))
        have HK11 := Lib.hid (HK10.out.turn hT11 (by have := HG2.out; omega))
        have hmz : zz = mrg z y := by rw [hzz, ← hH, ← hK]; rfl
        have HI := Lib.hid (show ins (y :: r) z = zz :: r from by rw [hmz]; exact ins_there (by rw [HQ.out]; rfl))
        have HZQ := Lib.hid (show zz.q = z.q from by rw [hzz]; rfl)
        clear d3 e3 f3 hw11 hB11 hT11 hzz hmz hH hK
        have d0 := HY11.out.c0
        have d1 := HY11.out.c1
        have d2 := HY11.out.c2
        have d3 := HY11.out.c3
        go_wp2_with (first
            | (at_builtin; refine wpList_append_lks rfl _ _ rfl (w.heap.size + 2) v3 (acc ++ L1) [zz] rfl (HO11.out.below (below_new _ _)) _ 1 1 rfl (LkAt.new _ zz _) rfl (.inr ⟨_, _, rfl⟩) (by have h1 := HLEN.out; have h2 := HM.out; simp; omega) (by have h1 := HK11.out.lt; simp; omega) ?_; intro v5 w5 hown5 hg5 hat5; have HO5 := Lib.hid hown5; have HG5 := Lib.hid hg5; clear hown5 hg5 hat5)
            | (refine wpList_slice_from rfl _ _ rfl (some ⟨b4, o4, none⟩) n4 k4 1 rfl rfl HSP4.out (by omega) hnk4 (W := w) (l := [y]) (r := r) HL4.out rfl HN4.out ?_; intro A6 n6 k6 hsp6 hl6 hn6 hnk6; have HSP6 := Lib.hid hsp6; have HL6 := Lib.hid hl6; have HN6 := Lib.hid hn6; clear hsp6 hl6 hn6)
            | fail)
        have hb5 := below_new w11 (.cells #[.int .i64 zz.b, .int .i64 zz.x, .int .i64 zz.h, .int .i64 zz.k] 84)
        have HK5 := Lib.hid ((HK11.out.below hb5).far HG5.out (fun e => by have := (HO11.out.lt _ e.symm).1; omega))
        have HB5 := Lib.hid ((HB11.out.alloc HB11.out.size (.cells #[.int .i64 zz.b, .int .i64 zz.x, .int .i64 zz.h, .int .i64 zz.k] 84)).grown HG5.out (by have := HB11.out.size; simp; omega) (fun q e => by have := (HO11.out.lt q e).1; omega))
        clear hb5
        go_roundw
        case rel => exact ⟨j + 1, acc ++ L1 ++ [zz], r, A6, n6, k6, by simp, rfl, by omega, hnk6, by have h1 := HLR12.out; have h2 := HN6.out; simp only [List.length_cons] at h1; omega, HN6.out, HSP6.out, HL6.out, HO5.out, (show lay L (more.take (j + 1)) = acc ++ L1 ++ [zz] ++ r by rw [HLI.out, HI.out]; simp), HG2R.out.tail, (fun u hu x hx => by
            rcases List.mem_append.1 hx with h | h
            · exact HLT2.out u hu x h
            · have : x = zz := by simpa using h
              rw [this, HZQ.out]; exact HUP.out u hu), (show (acc ++ L1 ++ [zz]).length + n6 ≤ n + (j + 1) by have h1 := HLEN.out; have h2 := HLR12.out; have h3 := HN6.out; simp only [List.length_append, List.length_cons, List.length_nil] at *; omega), HK5.out, HB5.out⟩
        case measure => simp [intOf]; omega
    · obtain rfl : j = nm := by omega
      have hlen : acc.length ≤ 40000 := by have := HLEN.out; omega
      have HLAST := Lib.hid (show lay L more = acc ++ R by have h := HLAY.out; rw [List.take_of_length_le (by rw [HNM.out]; omega)] at h; exact h)
      have HAL := Lib.hid hlen
      have HLRB := Lib.hid (HLR.out.below HB.out)
      have HSZ := Lib.hid HK.out.lt
      clear hlen
      go_wp2_with (first
        | (at_builtin; refine wpList_append_lks rfl _ _ rfl (w.heap.size + 2) u6 acc R rfl HO.out A' n' k' rfl HLRB.out HR.out HSP.out (by have h1 := HAL.out; have h2 := HR.out; omega) (by have h1 := HSZ.out; omega) ?_; intro v5 w5 hown5 hg5 hat5; have HO5 := Lib.hid hown5; have HG5 := Lib.hid hg5; have HK5 := Lib.hid (HK.out.far hg5 (fun e => by have := (HO.out.lt _ e.symm).1; omega)); have HB5 := Lib.hid (HB.out.grown hg5 HB.out.size (fun q e => by have := (HO.out.lt q e).1; omega)); obtain ⟨A7, c7, e7, hc7, hl7, hs7⟩ := hown5.form; subst e7; clear hown5 hg5 hat5 hl7 hs7)
        | (refine wpList_store_table rfl _ _ rfl rfl rfl HK5.out ?_; intro w6 hk6 hg6; have HK6 := Lib.hid hk6; have HG6 := Lib.hid hg6; clear hk6 hg6)
        | fail)
      refine bodyPost_ret (results_table rfl _ rfl HK6.out) rfl ?_
      refine ⟨A7, _, c7, rfl, ?_, HB5.out.grown HG6.out HB5.out.size (fun q e => by injection e with e; omega)⟩
      rw [HLAST.out]
      have h7 := HO5.out.turn (S := fun q => q = w.heap.size + 1) ((Turn.refl _ w5).grown HG6.out (fun q e => by injection e with e; exact .inl e.symm)) (fun q e h => by have := (HO5.out.lt q e).1; omega)
      rw [List.length_append] at h7
      exact OwnLk.le (b := w.heap.size) h7 (Nat.le_add_right _ 2)
end Go.Proofs.YtbokhhialfbjcaaGreat

namespace Go.Proofs.YtbokhhialfbjcaaGreat
set_option maxRecDepth 100000
set_option linter.unusedVariables false
open Go.RowKit Go.Shelf Go.Sort

def lk4 (z : Lk) : List Value := [.int .i64 z.b, .int .i64 z.x, .int .i64 z.h, .int .i64 z.k]
theorem lkC_set : ∀ (C : List Lk) (i : Nat) (z : Lk), i < C.length → lkC (C.set i z) = (lkC C).take (i * 4) ++ lk4 z ++ (lkC C).drop (i * 4 + 4)
  | [], i, z, h => by simp at h
  | y :: C, 0, z, _ => rfl
  | y :: C, i + 1, z, h => by
    have ih := lkC_set C i z (by simpa using h)
    rw [show (i + 1) * 4 = i * 4 + 1 + 1 + 1 + 1 from by omega, show i * 4 + 1 + 1 + 1 + 1 + 4 = (i * 4 + 4) + 1 + 1 + 1 + 1 from by omega]
    show lkC (y :: C.set i z) = _
    simp only [lkC, List.take_succ_cons, List.drop_succ_cons, List.cons_append, ih]
theorem lkC_take : ∀ (C : List Lk) (i : Nat), lkC (C.take i) = (lkC C).take (i * 4)
  | [], i => by simp [lkC]
  | y :: C, 0 => rfl
  | y :: C, i + 1 => by
    rw [show (i + 1) * 4 = i * 4 + 1 + 1 + 1 + 1 from by omega]
    simp only [lkC, List.take_succ_cons, lkC_take C i]

/-- a part of a list's head put in another one's place -/
theorem take_put {α : Type} (X P vs : List α) (a m N : Nat) (hv : vs.length = m) (hP : X.take N = P) (hN : N ≤ X.length) (ha : a + m ≤ N) : (X.take a ++ vs ++ X.drop (a + m)).take N = P.take a ++ vs ++ P.drop (a + m) := by
  subst hP
  have hX := List.take_append_drop N X
  have h1 : X.drop (a + m) = (X.take N).drop (a + m) ++ X.drop N := by
    conv => lhs; rw [← hX]
    rw [List.drop_append_of_le_length (by rw [List.length_take]; omega)]
  have h2 : X.take a = (X.take N).take a := by rw [List.take_take, Nat.min_eq_left (by omega)]
  rw [h1, h2, ← List.append_assoc, List.take_left']
  simp only [List.length_append, List.length_take, List.length_drop]
  omega

theorem lock_sizeOf (W : World) : (Go.sizeOf 84).run Tryz.prog W = .ok 4 W := Tryz.sizeOf84 W

theorem own_put {W : World} {base g n cap i : Nat} {C : List Lk} (z : Lk) (h : OwnLk W base (.slice (some ⟨g, 0, none⟩) n cap) C) (hn : C.length = n) (hi : i < n) :
    ∃ W', (storeVar 84 ⟨g, i * 4, none⟩ (.agg #[.int .i64 z.b, .int .i64 z.x, .int .i64 z.h, .int .i64 z.k])).run Tryz.prog W = .ok () W' ∧ OwnLk W' base (.slice (some ⟨g, 0, none⟩) n cap) (C.set i z) ∧ W.grownBy W' (some g) := by
  subst hn
  rcases h.2 with ⟨e, _⟩ | ⟨g', cap', cur, e, hb, hh, hnc, hcm, hcs, ht⟩
  · cases e
  · injection e with e1 e2 e3
    injection e1 with e1
    injection e1 with e1
    subst e1
    subst e3
    have hst := run_storeCells_at Tryz.prog g (i * 4) 84 (lk4 z) 0 cur W hh (by show i * 4 + 0 + 4 ≤ cur.size; omega) (fun v hv => by simp [lk4] at hv; rcases hv with rfl | rfl | rfl | rfl <;> rfl)
    refine ⟨_, ?_, ⟨?_, .inr ⟨g, cap, (cur.toList.take (i * 4 + 0) ++ lk4 z ++ cur.toList.drop (i * 4 + 0 + (lk4 z).length)).toArray, ?_, hb, setRow_heap _ _ _ _ _ _ hh, by rw [List.length_set]; exact hnc, hcm, ?_, ?_⟩⟩, setRow_grown _ _ _⟩
    · simp only [storeVar, Value.cells, Sem.run_bind, lock_sizeOf, Result.andThen_ok]
      simp only [List.size_toArray, List.length_cons, List.length_nil, ne_eq, Nat.reduceAdd, not_true_eq_false, if_false]
      exact hst
    · rw [length_lkC, List.length_set]
    · rw [List.length_set]
    · rw [List.size_toArray]
      simp only [List.length_append, List.length_take, List.length_drop, Array.length_toList]
      show min (i * 4 + 0) cur.size + 4 + (cur.size - (i * 4 + 0 + 4)) = cap * 4
      omega
    · rw [List.length_set, lkC_set C i z hi]
      have := take_put cur.toList (lkC C) (lk4 z) (i * 4) 4 (C.length * 4) rfl ht (by have h9 : cur.toList.length = cap * 4 := (by rw [Array.length_toList]; exact hcs); omega) (by omega)
      exact this

theorem zeroCells_one (n : Nat) : ∀ v ∈ (Builtin.zeroCells (Value.agg #[.int .i64 0, .int .i64 0, .int .i64 0, .int .i64 0]).cells n).toList, v.oneCell' = true := by
  intro v hv
  simp only [Builtin.zeroCells, Value.cells, Array.toList_map, List.mem_map] at hv
  obtain ⟨i, _, rfl⟩ := hv
  have h4 : i % 4 = 0 ∨ i % 4 = 1 ∨ i % 4 = 2 ∨ i % 4 = 3 := by omega
  show ((#[Value.int .i64 0, .int .i64 0, .int .i64 0, .int .i64 0] : Array Value)[i % 4]!).oneCell' = true
  rcases h4 with h | h | h | h <;> rw [h] <;> rfl
theorem zeroCells_len (n : Nat) : (Builtin.zeroCells (Value.agg #[.int .i64 0, .int .i64 0, .int .i64 0, .int .i64 0]).cells n).toList.length = n * 4 := by
  simp [Builtin.zeroCells, Value.cells]

theorem own_clear {W : World} {base g n cap i : Nat} {C : List Lk} (h : OwnLk W base (.slice (some ⟨g, 0, none⟩) n cap) C) (hn : C.length = n) (hi : i < n) (c2 : Nat) :
    ∃ W', (∀ ty, (Builtin.clear_ #[32] ty #[.slice (some ⟨g, i * 4, none⟩) (n - i) c2]).run Tryz.prog W = .ok (.tuple #[]) W') ∧ OwnLk W' base (.slice (some ⟨g, 0, none⟩) i cap) (C.take i) ∧ W.grownBy W' (some g) := by
  subst hn
  rcases h.2 with ⟨e, _⟩ | ⟨g', cap', cur, e, hb, hh, hnc, hcm, hcs, ht⟩
  · cases e
  · injection e with e1 e2 e3
    injection e1 with e1
    injection e1 with e1
    subst e1
    subst e3
    obtain ⟨vs, hvs⟩ : ∃ vs, vs = (Builtin.zeroCells (Value.agg #[.int .i64 0, .int .i64 0, .int .i64 0, .int .i64 0]).cells (C.length - i)).toList := ⟨_, rfl⟩
    have hvl : vs.length = (C.length - i) * 4 := by rw [hvs]; exact zeroCells_len _
    have hv1 : ∀ v ∈ vs, v.oneCell' = true := by rw [hvs]; exact zeroCells_one _
    have hst := run_storeCells_at Tryz.prog g (i * 4) 84 vs 0 cur W hh (by rw [hvl]; omega) hv1
    have hlen : (C.take i).length = i := by rw [List.length_take]; omega
    refine ⟨W.setRow g (cur.toList.take (i * 4 + 0) ++ vs ++ cur.toList.drop (i * 4 + 0 + vs.length)).toArray, fun ty => ?_, ⟨?_, .inr ⟨g, cap, (cur.toList.take (i * 4 + 0) ++ vs ++ cur.toList.drop (i * 4 + 0 + vs.length)).toArray, ?_, hb, setRow_heap _ _ _ _ _ _ hh, by rw [hlen]; omega, hcm, ?_, ?_⟩⟩, setRow_grown _ _ _⟩
    · obtain ⟨m, hm⟩ : ∃ m, C.length - i = m + 1 := ⟨C.length - i - 1, by omega⟩
      rw [hm] at hvs ⊢
      have hz : ∀ W, (zeroValue 84).run Tryz.prog W = .ok (.agg #[.int .i64 0, .int .i64 0, .int .i64 0, .int .i64 0]) W := fun W => Tryz.zeroValue84 W
      simp only [Builtin.clear_, Sem.run_bind, run_underlying Tryz.underlying32, Result.andThen_ok, hz, List.getElem?_toArray, List.getElem?_cons_zero]
      rw [← hvs, hst]
      rfl
    · rw [length_lkC]
    · rw [hlen]
    · rw [List.size_toArray]
      simp only [List.length_append, List.length_take, List.length_drop, Array.length_toList]
      omega
    · rw [hlen, lkC_take, ← ht, List.take_take, Nat.min_eq_left (by omega)]
      rw [List.append_assoc, List.take_left' (by rw [List.length_take, Array.length_toList]; omega)]
      rfl

/-- 'l[i] = z', into a row of the call's own -/
theorem wpList_store_elem {ops : Array Oper} {rest : List Oper} {o : Oper} {a : Act} {W : World} {Q : Exit → Act → World → Prop} (hgd : o.guard = none) (x u : Operand) (ho : o.op = .store 84 x u) {base g n cap i : Nat} {C : List Lk} (z : Lk)
    (hx : a.eval x = .pointer (some ⟨g, i * 4, none⟩)) (hy : a.eval u = .agg #[.int .i64 z.b, .int .i64 z.x, .int .i64 z.h, .int .i64 z.k]) (hown : OwnLk W base (.slice (some ⟨g, 0, none⟩) n cap) C) (hn : C.length = n) (hi : i < n)
    (h : ∀ w', OwnLk w' base (.slice (some ⟨g, 0, none⟩) n cap) (C.set i z) → W.grownBy w' (some g) → wpList Tryz.prog ops Q rest (a.put o.dst undef) w') : wpList Tryz.prog ops Q (o :: rest) a W := by
  refine wpList_plain hgd fun K hK => ?_
  obtain ⟨w', hrun, h1, h2⟩ := own_put z hown hn hi
  unfold Oper.wp execOp
  simp only [ho, hx, hy, Instr.storeAt, Instr.sureAddr, Sem.run_bind, Sem.run_pure, Result.andThen_ok, hrun]
  exact hK _ _ (h w' h1 h2)
theorem wp_store_elem {o : Oper} {a : Act} {W : World} {K : Act → World → Prop} {Q : Exit → Act → World → Prop} (x u : Operand) (ho : o.op = .store 84 x u) {base g n cap i : Nat} {C : List Lk} (z : Lk)
    (hx : a.eval x = .pointer (some ⟨g, i * 4, none⟩)) (hy : a.eval u = .agg #[.int .i64 z.b, .int .i64 z.x, .int .i64 z.h, .int .i64 z.k]) (hown : OwnLk W base (.slice (some ⟨g, 0, none⟩) n cap) C) (hn : C.length = n) (hi : i < n)
    (h : ∀ w', OwnLk w' base (.slice (some ⟨g, 0, none⟩) n cap) (C.set i z) → W.grownBy w' (some g) → K (a.put o.dst undef) w') : o.wp Tryz.prog a W K Q := by
  obtain ⟨w', hrun, h1, h2⟩ := own_put z hown hn hi
  unfold Oper.wp execOp
  simp only [ho, hx, hy, Instr.storeAt, Instr.sureAddr, Sem.run_bind, Sem.run_pure, Result.andThen_ok, hrun]
  exact h w' h1 h2
end Go.Proofs.YtbokhhialfbjcaaGreat

namespace Go.Proofs.YtbokhhialfbjcaaGreat
set_option maxRecDepth 100000
set_option linter.unusedVariables false
open Go.RowKit Go.Shelf Go.Sort Go.Maps

/-- the map of those whose locks go, in its variable -/
structure Gone (W : World) (g bm : Nat) (G : Int → Bool) : Prop where
  box : W.heap[g]? = some (.cells #[.map (some bm)] 91 (0, 0))
  map : ∃ nn D, W.ownsMap (H := Unit) Tryz.prog 3 unitElem bm nn D ∧ ∀ x : Int, 0 ≤ x ∧ x ≤ 63 → Maps.has D (.int .i64 x) = G x
theorem Gone.turn {S : Nat → Prop} {W V : World} {g bm : Nat} {G : Int → Bool} (h : Gone W g bm G) (ht : Turn S W V) (h1 : ¬ S g) (h2 : ¬ S bm) : Gone V g bm G := by
  obtain ⟨nn, D, ⟨es, cl, hh, r⟩, hD⟩ := h.map
  exact ⟨(ht.block g (lt_of_block h.box) h1).trans h.box, nn, D, ⟨es, cl, (ht.block bm (lt_of_block hh) h2).trans hh, r⟩, hD⟩
theorem Gone.below {W V : World} {g bm : Nat} {G : Int → Bool} (h : Gone W g bm G) (hb : Below W.heap.size W V) : Gone V g bm G := h.turn (S := fun _ => False) (Turn.ofBelow hb) (fun h => h) (fun h => h)
theorem Gone.lt {W : World} {g bm : Nat} {G : Int → Bool} (h : Gone W g bm G) : g < W.heap.size ∧ bm < W.heap.size := by
  obtain ⟨nn, D, ⟨es, cl, hh, r⟩, hD⟩ := h.map
  exact ⟨lt_of_block h.box, lt_of_block hh⟩

theorem int_keyL (x : Int) (h : 0 ≤ x ∧ x ≤ 63) : keyOf Tryz.prog 3 (.int .i64 x) = some (.int .i64 x) := keyOf_int_mk Tryz.underlying3 (by simp [Lit.wf, IntKind.bits, IntKind.signed, IntKind.min, IntKind.max]; omega)

theorem free1_any (g bm : Nat) (G : Int → Bool) (y : Lk) (hx : 0 ≤ y.x ∧ y.x ≤ 63) (W : World) (hG : Gone W g bm G) :
    Calls Tryz.prog 55 #[.agg #[.int .i64 y.b, .int .i64 y.x, .int .i64 y.h, .int .i64 y.k], .pointer (some ⟨g, 0, none⟩)] W fun e w' => e = .returned (.bool (G y.x)) ∧ Below W.heap.size W w' := by
  obtain ⟨W1, hW1⟩ : ∃ W1, W1 = W.alloc (.cells #[.int .i64 y.b, .int .i64 y.x, .int .i64 y.h, .int .i64 y.k] 84) := ⟨_, rfl⟩
  have hb1 : Below W.heap.size W W1 := by rw [hW1]; exact below_new _ _
  have hG1 := hG.below hb1
  obtain ⟨nn, D, hM, hD⟩ := hG1.map
  have hc : W1.cell? ⟨g, 0, none⟩ = some (.map (some bm)) := (cell_of_row _ _ _ _ _ _ hG1.box).trans rfl
  have hy : LH W1 W.heap.size y := by rw [hW1]; exact LH.new W y
  have hyc := hy.c1
  have hkey := int_keyL y.x hx
  have hd := hD y.x hx
  obtain ⟨q, hq⟩ : ∃ q, G y.x = q := ⟨_, rfl⟩
  rw [hq] at hd
  have HB := Lib.hid (show Below W.heap.size W (W1.alloc (.cells #[] 104)) from hb1.alloc hb1.size _)
  have HM := Lib.hid hM
  clear hG hG1 hD hM hy hx hb1
  rw [hq]
  clear hq
  go_enter Tryz.func55, Tryz.ntmps55
  go_upto_region 1 with fail
  rw [← hW1]
  clear hW1
  have hown1 := HM.out
  go_wp2_with (first | (at_lookup; refine wpList_lookup_own_unit _ rfl _ _ 91 rfl 3 104 (int_keyed Tryz.underlying3) Tryz.underlying91 (Tryz.zeroValue104 _) bm nn D rfl hown1 _ _ rfl hkey ?_; rw [hd]; clear hown1) | fail)
  go_ret
  exact ⟨rfl, HB.out⟩

set_option maxHeartbeats 1000000 in
theorem index_any (g bm : Nat) (G : Int → Bool) (A : Option Addr) (L : List Lk) (n k : Nat) (hN : L.length = n) (hn : n ≤ 16384) (hm : ∀ y ∈ L, 0 ≤ y.x ∧ y.x ≤ 63) (W : World) (hL : LkAt W A L) (hG : Gone W g bm G) :
    Calls Tryz.prog 88 #[.slice A n k, .func (.func 55) #[] #[.pointer (some ⟨g, 0, none⟩)]] W fun e w' =>
      ((e = .returned (.int .i64 (-1)) ∧ ∀ y ∈ L, G y.x = false) ∨ ∃ (i : Nat) (y : Lk), e = .returned (.int .i64 (i : Int)) ∧ L[i]? = some y ∧ G y.x = true ∧ ∀ u ∈ L.take i, G u.x = false) ∧ Below W.heap.size W w' := by
  have HN := Lib.hid hN
  have HM := Lib.hid hm
  have HL := Lib.hid hL
  have HG := Lib.hid hG
  have eg : ∀ args w, (callFunc 55 args).run Tryz.prog w = .ok (.enter 55 args) w := enters_of Tryz.func55 (by kernel_rfl) rfl
  clear hN hm hL hG
  go_enter Tryz.func88, Tryz.ntmps88
  go_wp2_with fail
  go_loopw [8] (fun iv wr => ∃ j : Nat, iv = .int .i64 (j : Int) ∧ j ≤ n ∧ Hid (∀ u ∈ L.take j, G u.x = false) ∧ Hid (Below W.heap.size W wr)) (fun iv _ => n - (intOf iv).toNat)
  case atStart => exact ⟨0, rfl, Nat.zero_le _, (fun u hu => by simp at hu), Below.refl _ _⟩
  case round =>
    obtain ⟨j, rfl, hj, HF, HB⟩ := hrel
    rcases Nat.lt_or_ge j n with hlt | hge
    · obtain ⟨y, hy⟩ : ∃ y, L[j]? = some y := ⟨L[j]'(by rw [HN.out]; exact hlt), List.getElem?_eq_getElem (by rw [HN.out]; exact hlt)⟩
      obtain ⟨b, o, rfl, hb, hc⟩ := (HL.out.below HB.out).get hy
      have hc0 := hc.c0
      have hc1 := hc.c1
      have hc2 := hc.c2
      have hc3 := hc.c3
      have HY := Lib.hid hy
      have hcall := free1_any g bm G y (HM.out y (List.mem_of_getElem? hy)) wr (HG.out.below HB.out)
      obtain ⟨q, hq⟩ : ∃ q, G y.x = q := ⟨_, rfl⟩
      rw [hq] at hcall
      have HC := Lib.hid hcall
      have HQ := Lib.hid hq
      clear hc hy hcall hq hb
      cases q
      · go_wp2_with (go_at_fn 55; refine HC.out.mono ?_; rintro e w2 ⟨rfl, hb2⟩; have HB2 := Lib.hid (HB.out.trans (hb2.mono HB.out.size)); clear hb2)
        go_roundw
        case rel => exact ⟨j + 1, by simp, by omega, (fun u hu => by
          rw [List.take_add_one, HY.out] at hu
          rcases List.mem_append.1 hu with h | h
          · exact HF.out u h
          · have : u = y := by simpa using h
            rw [this]; exact HQ.out), HB2.out⟩
        case measure => simp [intOf]; omega
      · go_wp2_with (go_at_fn 55; refine HC.out.mono ?_; rintro e w2 ⟨rfl, hb2⟩; have HB2 := Lib.hid (HB.out.trans (hb2.mono HB.out.size)); clear hb2)
        go_ret
        exact ⟨.inr ⟨j, y, rfl, HY.out, HQ.out, HF.out⟩, HB2.out⟩
    · obtain rfl : j = n := by omega
      go_wp2
      go_ret
      refine ⟨.inl ⟨rfl, fun u hu => HF.out u ?_⟩, HB.out⟩
      rw [List.take_of_length_le (by rw [HN.out]; omega)]; exact hu

theorem drop_eq_get {α : Type} {A B : List α} {j : Nat} (h : A.drop j = B.drop j) : A[j]? = B[j]? := by
  have h1 := congrArg (fun l : List α => l[0]?) h
  simpa [List.getElem?_drop] using h1

set_option maxHeartbeats 2000000 in
theorem delete_any (g5 bm : Nat) (G : Int → Bool) (L : List Lk) (A : Option Addr) (n k base : Nat) (hN : L.length = n) (hn : n ≤ 16384) (hm : ∀ y ∈ L, 0 ≤ y.x ∧ y.x ≤ 63) (W : World) (hO : OwnLk W base (.slice A n k) L) (hG : Gone W g5 bm G) (h5 : g5 < base) (hbm : bm < base) (hbase : base ≤ W.heap.size) :
    Calls Tryz.prog 53 #[.slice A n k, .func (.func 55) #[] #[.pointer (some ⟨g5, 0, none⟩)]] W fun e w' =>
      ∃ A' n' k', e = .returned (.slice A' n' k') ∧ OwnLk w' base (.slice A' n' k') (freeL L G) ∧ Below base W w' := by
  obtain ⟨A0, c0, he, hnk, hL, hs⟩ := hO.form
  injection he with e1 e2 e3
  subst e1
  subst e3
  have HN := Lib.hid hN
  have HM := Lib.hid hm
  have HO := Lib.hid hO
  have HG := Lib.hid hG
  have HL := Lib.hid hL
  have HIX := Lib.hid (index_any g5 bm G A L n k hN hn hm W hL hG)
  have H5 := Lib.hid h5
  have HBM := Lib.hid hbm
  have HBA := Lib.hid hbase
  have hnk : n ≤ k := by omega
  have eg : ∀ args w, (callFunc 55 args).run Tryz.prog w = .ok (.enter 55 args) w := enters_of Tryz.func55 (by kernel_rfl) rfl
  have HIX0 := HIX.out
  clear HIX
  by_cases hall : ∀ y ∈ L, G y.x = false
  · have HIX := Lib.hid (HIX0.mono (R' := fun e w' => e = .returned (.int .i64 (-1)) ∧ Below W.heap.size W w') (fun e w' h => by
      rcases h with ⟨⟨he, _⟩ | ⟨i, y, _, hy, hg, _⟩, hb⟩
      · exact ⟨he, hb⟩
      · rw [hall y (List.mem_of_getElem? hy)] at hg; cases hg))
    have HF := Lib.hid (show freeL L G = L by
      unfold freeL
      rw [List.filter_eq_self]
      intro y hy
      rw [hall y hy]; rfl)
    clear HIX0 hN hm hO hG hL h5 hbm hbase e2 hall hs
    go_enter Tryz.func53, Tryz.ntmps53
    go_wp2_with (go_at_call 88; refine HIX.out.mono ?_; rintro e w1 ⟨rfl, hb1⟩)
    go_ret
    have h0 := HO.out.below hb1
    rw [HF.out]
    exact ⟨A, n, k, rfl, h0, hb1.mono HBA.out⟩
  · have HIX := Lib.hid (HIX0.mono (R' := fun e w' => (∃ (i : Nat) (y : Lk), e = .returned (.int .i64 (i : Int)) ∧ L[i]? = some y ∧ G y.x = true ∧ ∀ u ∈ L.take i, G u.x = false) ∧ Below W.heap.size W w') (fun e w' h => by
      rcases h with ⟨⟨_, h⟩ | h, hb⟩
      · exact absurd h hall
      · exact ⟨h, hb⟩))
    rcases hs with rfl | ⟨g, rfl, hbg, hgs⟩
    · exfalso
      refine hall fun y hy => ?_
      rcases hL with h | ⟨b, o, e, _⟩
      · rw [h] at hy; cases hy
      · cases e
    have HBG := Lib.hid hbg
    have HGS := Lib.hid hgs
    clear HIX0 hN hm hO hG hL h5 hbm hbase e2 hbg hgs hall
    go_enter Tryz.func53, Tryz.ntmps53
    go_upto_region 4 with (go_at_call 88; refine HIX.out.mono ?_; rintro e w1 ⟨⟨i0, y0, rfl, hy0, hg0, hf0⟩, hb1⟩; have hi0 : i0 < n := (by rw [← HN.out]; exact (List.getElem?_eq_some_iff.1 hy0).1); have hne : ((i0 : Int) == -1) = false := beq_eq_false_iff_ne.2 (by omega); have HY0 := Lib.hid hy0; have HG0 := Lib.hid hg0; have HF0 := Lib.hid hf0; have HB1 := Lib.hid hb1; clear hy0 hg0 hf0 hb1)
    go_wp2_with fail
    go_loopw [5, 6] (fun iv jv wr => ∃ (i j : Nat) (C : List Lk), iv = .int .i64 (i : Int) ∧ jv = .int .i64 (j : Int) ∧ i < j ∧ j ≤ n ∧ Hid (C.length = n) ∧ Hid (OwnLk wr base (.slice (some ⟨g, 0, none⟩) n k) C) ∧ Hid (C.take i = freeL (L.take j) G) ∧ Hid (C.drop j = L.drop j) ∧ Hid (Turn (fun q => q = g) W wr)) (fun _ jv _ => n - (intOf jv).toNat)
    case atStart =>
      refine ⟨i0, i0 + 1, L, rfl, by simp, by omega, by omega, HN.out, HO.out.below HB1.out, ?_, rfl, Turn.ofBelow HB1.out⟩
      show L.take i0 = freeL (L.take (i0 + 1)) G
      rw [List.take_add_one, HY0.out]
      unfold freeL
      rw [List.filter_append]
      have h1 : (L.take i0).filter (fun y => !G y.x) = L.take i0 := by
        rw [List.filter_eq_self]
        intro u hu
        rw [HF0.out u hu]; rfl
      rw [h1]
      simp [HG0.out]
    case round =>
      obtain ⟨i, j, C, rfl, rfl, hij, hj, HC, HOC, HTK, HDR, HT⟩ := hrel
      clear HB1 HY0 HG0 HF0 hne hi0
      have HGG := Lib.hid (HG.out.turn HT.out (by have h1 := H5.out; have h2 := HBG.out; omega) (by have h1 := HBM.out; have h2 := HBG.out; omega))
      rcases Nat.lt_or_ge j n with hlt | hge
      · obtain ⟨y, hy⟩ : ∃ y, L[j]? = some y := ⟨L[j]'(by rw [HN.out]; exact hlt), List.getElem?_eq_getElem (by rw [HN.out]; exact hlt)⟩
        have hyC : C[j]? = some y := by rw [drop_eq_get HDR.out]; exact hy
        obtain ⟨A1, c1, he1, _, hLC, _⟩ := HOC.out.form
        injection he1 with he2 he3 he4
        subst he2
        obtain ⟨b, o, e, hb, hc⟩ := hLC.get hyC
        injection e with e
        injection e with e1 e2
        subst e1
        subst e2
        have hc0 := hc.c0
        have hc1 := hc.c1
        have hc2 := hc.c2
        have hc3 := hc.c3
        rw [Nat.zero_add] at hc0 hc1 hc2 hc3
        have HDRS := Lib.hid (show C.drop (j + 1) = L.drop (j + 1) by
          have h1 := congrArg (List.drop 1) HDR.out
          rwa [List.drop_drop, List.drop_drop] at h1)
        have HTKS := Lib.hid (show freeL (L.take (j + 1)) G = C.take i ++ (if G y.x then [] else [y]) by
          rw [HTK.out, List.take_add_one, hy]
          unfold freeL
          rw [List.filter_append]
          congr 1
          cases hh : G y.x <;> simp [hh])
        obtain ⟨wz, hwz⟩ : ∃ wz, wz = wr.alloc (.cells #[.int .i64 y.b, .int .i64 y.x, .int .i64 y.h, .int .i64 y.k] 84) := ⟨_, rfl⟩
        have hbz : Below wr.heap.size wr wz := by rw [hwz]; exact below_new _ _
        obtain ⟨gy, hgy⟩ : ∃ gy, gy = wr.heap.size := ⟨_, rfl⟩
        have hy4 : LH wz gy y := by rw [hwz, hgy]; exact LH.new wr y
        have HYZ := Lib.hid hy4
        have HOZ := Lib.hid (HOC.out.below hbz)
        have HTZ := Lib.hid (HT.out.trans (Turn.ofBelow hbz))
        have hcall := free1_any g5 bm G y (HM.out y (List.mem_of_getElem? hy)) wz (HGG.out.below hbz)
        obtain ⟨q, hq⟩ : ∃ q, G y.x = q := ⟨_, rfl⟩
        rw [hq] at hcall HTKS
        have HCC := Lib.hid hcall
        have cz0 := hy4.c0
        have cz1 := hy4.c1
        have cz2 := hy4.c2
        have cz3 := hy4.c3
        clear hc hy hyC hcall hq hb hbz hy4 hLC he4 he3
        go_upto_region 8 with fail
        rw [← hgy, ← hwz]
        clear hwz hgy hc0 hc1 hc2 hc3
        cases q
        · go_wp2_with (first
            | (go_at_fn 55; refine HCC.out.mono ?_; rintro e w2 ⟨rfl, hb2⟩; have HB2 := Lib.hid hb2; have HO2 := Lib.hid (HOZ.out.below hb2); have HY2 := HYZ.out.below hb2; have HT2 := Lib.hid (HTZ.out.trans (Turn.ofBelow hb2)); have d0 := HY2.c0; have d1 := HY2.c1; have d2 := HY2.c2; have d3 := HY2.c3; clear hb2 HY2)
            | (refine wpList_store_elem rfl _ _ rfl (i := i) y rfl rfl HO2.out HC.out (by omega) ?_; intro w3 hown3 hg3; have HO3 := Lib.hid hown3; have HG3 := Lib.hid hg3; clear hown3 hg3)
            | fail)
          go_roundw
          case rel => exact ⟨i + 1, j + 1, C.set i y, by simp, by simp, by omega, by omega, (show (C.set i y).length = n by rw [List.length_set]; exact HC.out), HO3.out, (show (C.set i y).take (i + 1) = freeL (L.take (j + 1)) G by
              rw [HTKS.out, List.take_add_one, List.getElem?_set_self (by rw [HC.out]; omega), List.take_set_of_le (Nat.le_refl i)]; rfl), (show (C.set i y).drop (j + 1) = L.drop (j + 1) by rw [List.drop_set_of_lt (by omega)]; exact HDRS.out), HT2.out.grown HG3.out (fun q e => by injection e with e; exact .inl e.symm)⟩
          case measure => simp [intOf]; omega
        · go_wp2_with (first
            | (go_at_fn 55; refine HCC.out.mono ?_; rintro e w2 ⟨rfl, hb2⟩; have HB2 := Lib.hid hb2; have HO2 := Lib.hid (HOZ.out.below hb2); have HT2 := Lib.hid (HTZ.out.trans (Turn.ofBelow hb2)); clear hb2)
            | fail)
          go_roundw
          case rel => exact ⟨i, j + 1, C, by simp, by simp, by omega, by omega, HC.out, HO2.out, (show C.take i = freeL (L.take (j + 1)) G by rw [HTKS.out]; simp), HDRS.out, HT2.out⟩
          case measure => simp [intOf]; omega
      · obtain rfl : j = n := by omega
        have hik : ¬ k = i := by omega
        obtain ⟨w3, hcl, hown3, hg3⟩ := own_clear HOC.out HC.out hij (k - i)
        have HO3 := Lib.hid hown3
        have HG3 := Lib.hid hg3
        have hik2 : i ≤ k := by omega
        clear hown3 hg3
        go_wp2
        go_ret
        refine ⟨some ⟨g, 0, none⟩, i, k, rfl, ?_, ?_⟩
        · have h := HO3.out
          rw [HTK.out, List.take_of_length_le (by rw [HN.out]; omega)] at h
          exact h
        · exact (HT.out.grown HG3.out (fun q e => by injection e with e; exact .inl e.symm)).below (fun q e => by have h1 := HBG.out; omega) HBA.out

theorem OwnLk.parts {w : World} {base : Nat} {A : Option Addr} {n k : Nat} {l : List Lk} (h : OwnLk w base (.slice A n k) l) : l.length = n ∧ n ≤ k ∧ Sp A ∧ LkAt w A l := by
  obtain ⟨A0, c0, he, hnk, hL, hs⟩ := h.form
  injection he with e1 e2 e3
  subst e1
  subst e2
  subst e3
  refine ⟨rfl, hnk, ?_, hL⟩
  rcases hs with rfl | ⟨g, rfl, _⟩
  · exact .inl rfl
  · exact .inr ⟨_, _, rfl⟩

/-- is one in a list? -/
def inL (l : List Nat) (x : Int) : Bool := l.any fun i => decide ((i : Int) = x)
theorem inL_snoc (l : List Nat) (i : Nat) (x : Int) : inL (l ++ [i]) x = (inL l x || decide ((i : Int) = x)) := by unfold inL; simp

set_option maxHeartbeats 2000000 in
theorem free_any (A : Option Addr) (L : List Lk) (n k : Nat) (hN : L.length = n) (hA : Sp A) (hl : LG L) (Ai : Option Addr) (l : List Nat) (ni ki : Nat) (hNi : l.length = ni) (hni : ni ≤ 1000) (hi : ∀ i ∈ l, i ≤ 63) (w : World) (hL : LkAt w A L) (hI : IdAt w Ai l) :
    Calls Tryz.prog 29 #[.agg #[.slice A n k], .slice Ai ni ki] w fun e w' => ∃ A' n' k', e = .returned (.agg #[.slice A' n' k']) ∧ OwnLk w' w.heap.size (.slice A' n' k') (freeL L (inL l)) ∧ Below w.heap.size w w' := by
  have hn16 : n ≤ 16384 := by rw [← hN]; exact hl.len
  obtain ⟨w0, hw0⟩ : ∃ w0, w0 = w.alloc (.cells #[.slice A n k] 34) := ⟨_, rfl⟩
  obtain ⟨w1, hw1⟩ : ∃ w1, w1 = w0.alloc (.cells #[.slice none 0 0] 34) := ⟨_, rfl⟩
  have hs0 : w0.heap.size = w.heap.size + 1 := by rw [hw0]; simp
  have hs1 : w1.heap.size = w.heap.size + 2 := by rw [hw1, World.size_alloc, hs0]
  have b0 : Below w.heap.size w w1 := by rw [hw1, hw0]; exact below_two (below_new _ _) (below_new _ _)
  have x0 : KB w1 w.heap.size A n k := by rw [hw1, hw0]; exact (KB.new w A n k).below (below_new _ _)
  have x1 : KB w1 (w.heap.size + 1) none 0 0 := by have := KB.new w0 none 0 0; rw [hs0] at this; rw [hw1]; exact this
  -- the map, and its variable
  obtain ⟨w2, hw2⟩ : ∃ w2, w2 = w1.alloc (.map #[] 0) := ⟨_, rfl⟩
  obtain ⟨w3, hw3⟩ : ∃ w3, w3 = w2.alloc (.cells #[.map (some (w.heap.size + 2))] 91) := ⟨_, rfl⟩
  have hs2 : w2.heap.size = w.heap.size + 2 + 1 := by rw [hw2, World.size_alloc, hs1]
  have b2 : Below w.heap.size w w3 := by rw [hw3, hw2]; exact (b0.alloc b0.size _).alloc (by simp; exact Nat.le_succ_of_le b0.size) _
  have m2 : w3.ownsMap (H := Unit) Tryz.prog 3 unitElem (w.heap.size + 2) 0 (.map []) := by
    have h := (World.ownsMap_made w1 Tryz.prog 3 (unitElem (H := Unit)))
    rw [hs1] at h
    rw [hw3, hw2]; exact h.alloc _
  have v2 : w3.heap[w.heap.size + 2 + 1]? = some (.cells #[.map (some (w.heap.size + 2))] 91 (0, 0)) := by
    rw [hw3, ← hs2]; exact heap_alloc_new w2 _
  have k3 : KB w3 w.heap.size A n k := by rw [hw3, hw2]; exact (x0.below (below_new _ _)).below (below_new _ _)
  have r3 : KB w3 (w.heap.size + 1) none 0 0 := by rw [hw3, hw2]; exact (x1.below (below_new _ _)).below (below_new _ _)
  have hs3 : w3.heap.size = w.heap.size + 2 + 1 + 1 := by rw [hw3, World.size_alloc, hs2]
  have HN := Lib.hid hN
  have HA := Lib.hid hA
  have HLG := Lib.hid hl
  have HNI := Lib.hid hNi
  have HI := Lib.hid hi
  have HL := Lib.hid hL
  have HIA := Lib.hid hI
  have HB := Lib.hid b2
  have HMP := Lib.hid m2
  have HV := Lib.hid v2
  have HK := Lib.hid k3
  have HR := Lib.hid r3
  have HS3 := Lib.hid hs3
  have hmm := @run_makeMap Tryz.prog
  have c0 := x0.c0
  clear hN hA hl hNi hi hL hI b0 x0 x1 b2 m2 v2 k3 r3 hs3 hs2 hs0
  go_enter Tryz.func29, Tryz.ntmps29
  go_upto_region 1 with fail
  rw [← hw0, ← hw1]
  clear hw0 hw1 w0
  go_upto_region 2 with fail
  rw [← hw2, ← hw3]
  obtain ⟨g5, hg5⟩ : ∃ g5, g5 = w.heap.size + 2 + 1 := ⟨_, rfl⟩
  obtain ⟨g4, hg4⟩ : ∃ g4, g4 = w.heap.size + 2 := ⟨_, rfl⟩
  rw [← hg5] at HV HS3 ⊢
  rw [← hg4] at HMP HV ⊢
  have HG5 := Lib.hid hg5
  have HG4 := Lib.hid hg4
  clear hw2 hw3 hs1 hg5 hg4 w2 c0 hmm
  go_wp2_with fail
  go_loopw [11] (fun iv wr => ∃ (j : Nat) (D : DataW Unit), iv = .int .i64 (j : Int) ∧ j ≤ ni ∧ Hid (wr.ownsMap Tryz.prog 3 unitElem g4 j D) ∧ Hid (∀ x : Int, 0 ≤ x ∧ x ≤ 63 → Maps.has D (.int .i64 x) = inL (l.take j) x) ∧ Hid (Turn (fun q => q = g4) w3 wr)) (fun iv _ => ni - (intOf iv).toNat)
  case atStart => exact ⟨0, .map [], rfl, Nat.zero_le _, HMP.out, (fun x _ => rfl), Turn.refl _ _⟩
  case round =>
    obtain ⟨j, D, rfl, hj, HM, HD, HT⟩ := hrel
    have HBR := Lib.hid (HB.out.trans ((HT.out).below (B := w.heap.size) (fun q e => by have := HG4.out; omega) HB.out.size))
    have HVR := Lib.hid (HT.out.block g5 (lt_of_block HV.out) (by have h1 := HG4.out; have h2 := HG5.out; show ¬ g5 = g4; omega) |>.trans HV.out)
    have HKR := Lib.hid (HK.out.turn HT.out (by have := HG4.out; omega))
    have HRR := Lib.hid (HR.out.turn HT.out (by have := HG4.out; omega))
    rcases Nat.lt_or_ge j ni with hlt | hge
    · obtain ⟨i, hy⟩ : ∃ i, l[j]? = some i := ⟨l[j]'(by rw [HNI.out]; exact hlt), List.getElem?_eq_getElem (by rw [HNI.out]; exact hlt)⟩
      obtain ⟨b, rfl, hb, hc⟩ := (HIA.out.below HBR.out).get2 hy
      have hi63 := HI.out i (List.mem_of_getElem? hy)
      have hkey := int_keyL (i : Int) (by omega)
      have HTKS := Lib.hid (show l.take (j + 1) = l.take j ++ [i] by rw [List.take_add_one, hy]; rfl)
      have HI63 := Lib.hid hi63
      have hvc : wr.cell? ⟨g5, 0, none⟩ = some (.map (some g4)) := (cell_of_row _ _ _ _ _ _ HVR.out).trans rfl
      have hown1 := HM.out
      clear hy hb hi63
      go_wp2_with (first | (at_mapUpdate; refine wpList_mapUpdate_own _ rfl _ _ _ 91 rfl 3 104 (int_keyed Tryz.underlying3) Tryz.underlying91 unitElem g4 j D rfl hown1 (by unfold maxLen; omega) _ _ _ rfl rfl hkey _ [] unitElem_mk ?_; intro w4 hown4 hg4'; have HO4 := Lib.hid hown4; have HGB := Lib.hid hg4'; clear hown4 hg4' hown1 hvc) | fail)
      refine ⟨⟨j + 1, _, by simp, by omega, HO4.out, (show ∀ x : Int, 0 ≤ x ∧ x ≤ 63 → _ from fun x hx => ?_), HT.out.grown HGB.out (fun q e => by injection e with e; exact .inl e.symm)⟩, by simp [intOf]; omega⟩
      rw [HTKS.out, inL_snoc]
      by_cases e : (i : Int) = x
      · subst e
        rw [has_put_same HM.out.isMap (show WideAt.IsKeyLit (.int .i64 (i : Int)) from trivial)]
        simp
      · rw [has_put_other (by intro e2; injection e2 with _ e2; exact e e2.symm), HD.out x hx, decide_eq_false e, Bool.or_false]
    · obtain rfl : j = ni := by omega
      have HDA := Lib.hid (show ∀ x : Int, 0 ≤ x ∧ x ≤ 63 → Maps.has D (.int .i64 x) = inL l x by have h := HD.out; rw [List.take_of_length_le (by rw [HNI.out]; omega)] at h; exact h)
      have HCL := Lib.hid (cloneK_any A L n k wr HN.out (by omega) HA.out (HL.out.below HBR.out))
      have kc := HKR.out.c0
      have HZ := Lib.hid (show wr.heap.size ≥ g5 + 1 by have h1 := HT.out.size; have h2 := HS3.out; omega)
      go_wp2_with (first
        | (go_at_call 54; refine HCL.out.mono ?_; rintro e w5 ⟨A5, k5, rfl, ho5, hb5⟩; have HO5 := Lib.hid ho5; have HB5 := Lib.hid hb5; have HG := Lib.hid (show Gone w5 g5 g4 (inL l) from (show Gone wr g5 g4 (inL l) from ⟨HVR.out, j, D, HM.out, HDA.out⟩).below hb5); clear ho5 hb5)
        | (go_at_call 53; refine (delete_any g5 g4 (inL l) L A5 n k5 wr.heap.size HN.out hn16 (fun y hy => (HLG.out.may y hy).x) w5 HO5.out HG.out (by have := HZ.out; omega) (by have h1 := HZ.out; have h2 := HG4.out; have h3 := HG5.out; omega) HB5.out.size).mono ?_; rintro e w6 ⟨A6, n6, k6, rfl, ho6, hb6⟩; have HO6 := Lib.hid ho6; have HB6 := Lib.hid (HB5.out.trans hb6); have HR6 := Lib.hid (show KB w6 (w.heap.size + 1) none 0 0 from HRR.out.below (HB5.out.trans hb6)); clear ho6 hb6)
        | (refine wpList_store_table rfl _ _ rfl rfl rfl HR6.out ?_; intro w7 hk7 hg7; have HK7 := Lib.hid hk7; have HG7 := Lib.hid hg7; clear hk7 hg7)
        | fail)
      refine bodyPost_ret (results_table rfl _ rfl HK7.out) rfl ?_
      have h8 := HO6.out.turn (S := fun q => q = w.heap.size + 1) ((Turn.refl _ w6).grown HG7.out (fun q e => by injection e with e; exact .inl e.symm)) (fun q e h => by have h1 := (HO6.out.lt q e).1; have h2 := HZ.out; have h3 := HG5.out; omega)
      have h9 : Below w.heap.size w w6 := HBR.out.trans (HB6.out.mono HBR.out.size)
      exact ⟨A6, n6, k6, rfl, OwnLk.le (b := w.heap.size) h8 HBR.out.size, h9.grown HG7.out h9.size (fun q e => by injection e with e; omega)⟩
end Go.Proofs.YtbokhhialfbjcaaGreat

namespace Go.Proofs.YtbokhhialfbjcaaGreat
set_option maxRecDepth 100000
set_option linter.unusedVariables false
set_option linter.unusedSimpArgs false
open Go.RowKit Go.Shelf Go.Sort

theorem free_one (L : List Lk) (x : Nat) : freeL L (inL [x]) = freeL L fun z => decide (z = (x : Int)) := by
  unfold freeL
  congr 1
  funext y
  unfold inL
  simp only [List.any_cons, List.any_nil, Bool.or_false]
  by_cases e : y.x = (x : Int)
  · rw [decide_eq_true e, decide_eq_true e.symm]
  · rw [decide_eq_false e, decide_eq_false (fun h => e h.symm)]

def upOne (p : Int) (y : Lk) : Lk := ⟨y.b, p, 0, y.s⟩

theorem mix_get (f : Lk → Lk) {O : List Lk} {j : Nat} {y : Lk} (hy : O[j]? = some y) : ((O.take j).map f ++ O.drop j)[j]? = some y := by
  have hj := (List.getElem?_eq_some_iff.1 hy).1
  have hm : min j O.length = j := by omega
  rw [List.getElem?_append_right (by rw [List.length_map, List.length_take]; omega), List.length_map, List.length_take, hm, List.getElem?_drop, Nat.sub_self]
  exact hy
theorem mix_set (f : Lk → Lk) {O : List Lk} {j : Nat} {y : Lk} (hy : O[j]? = some y) : ((O.take j).map f ++ O.drop j).set j (f y) = (O.take (j + 1)).map f ++ O.drop (j + 1) := by
  obtain ⟨h1, h2⟩ := List.getElem?_eq_some_iff.1 hy
  have hm : min j O.length = j := by omega
  rw [List.set_append_right _ _ (by rw [List.length_map, List.length_take]; omega), List.length_map, List.length_take, hm, Nat.sub_self, List.drop_eq_getElem_cons h1, List.set_cons_zero, List.take_add_one, hy, List.map_append]
  simp

set_option maxHeartbeats 2000000 in
theorem pass_any (A : Option Addr) (L : List Lk) (n k : Nat) (hN : L.length = n) (hA : Sp A) (hl : LG L) (x : Nat) (p : Int) (hx : x ≤ 63) (hp : p ≤ 63) (w : World) (hL : LkAt w A L) :
    Calls Tryz.prog 40 #[.agg #[.slice A n k], .int .i64 (x : Int), .int .i64 p] w fun e w' => ∃ A' n' k', e = .returned (.agg #[.slice A' n' k']) ∧ OwnLk w' w.heap.size (.slice A' n' k') (passL L x p) ∧ Below w.heap.size w w' := by
  have hn16 : n ≤ 16384 := by rw [← hN]; exact hl.len
  obtain ⟨wa, hwa⟩ : ∃ wa, wa = w.alloc (.cells #[.slice A n k] 34) := ⟨_, rfl⟩
  obtain ⟨wb, hwb⟩ : ∃ wb, wb = wa.alloc (.cells #[.slice none 0 0] 34) := ⟨_, rfl⟩
  obtain ⟨w1, hw1⟩ : ∃ w1, w1 = wb.alloc (.cells #[.int .i64 (x : Int)] 3) := ⟨_, rfl⟩
  have sa : wa.heap.size = w.heap.size + 1 := by rw [hwa]; simp
  have sb : wb.heap.size = w.heap.size + 2 := by rw [hwb, World.size_alloc, sa]
  have s1 : w1.heap.size = w.heap.size + 3 := by rw [hw1, World.size_alloc, sb]
  have b1 : Below w.heap.size w w1 := by rw [hw1, hwb, hwa]; exact below_two (below_two (below_new _ _) (below_new _ _)) (below_new _ _)
  have kb0 : KB wb w.heap.size A n k := by rw [hwb, hwa]; exact (KB.new w A n k).below (below_new _ _)
  have k1 : KB w1 w.heap.size A n k := by rw [hw1]; exact kb0.below (below_new _ _)
  have r1 : KB w1 (w.heap.size + 1) none 0 0 := by
    have h := KB.new wa none 0 0
    rw [sa, ← hwb] at h
    rw [hw1]; exact h.below (below_new _ _)
  have i1 : IdAt w1 (some ⟨w.heap.size + 2, 0, none⟩) [x] := by
    rw [← sb, hw1]
    refine .inr ⟨wb.heap.size, rfl, by simp, fun j z hz => ?_⟩
    match j, hz with
    | 0, hz =>
      injection hz with hz
      subst hz
      exact (cell_new wb #[.int .i64 (x : Int)] 3 0).trans rfl
    | j + 1, hz => simp at hz
  have HN := Lib.hid hN
  have HA := Lib.hid hA
  have HLG := Lib.hid hl
  have HX := Lib.hid hx
  have HPP := Lib.hid hp
  have HL := Lib.hid hL
  have HB1 := Lib.hid b1
  have HK1 := Lib.hid k1
  have HR1 := Lib.hid r1
  have HS1 := Lib.hid s1
  have HF := Lib.hid (free_any A L n k hN hA hl (some ⟨w.heap.size + 2, 0, none⟩) [x] 1 1 rfl (by omega) (fun i hi => by rw [List.mem_singleton.1 hi]; exact hx) w1 (hL.below b1) i1)
  have c0 := kb0.c0
  clear hN hA hl hx hp hL b1 k1 r1 i1 s1 kb0
  go_enter Tryz.func40, Tryz.ntmps40
  go_upto_region 1 with fail
  rw [← hwa, ← hwb]
  clear hwa sa hwb wa
  go_upto_region 2 with (first
    | (go_at_call 29; rw [← hw1]; refine HF.out.mono ?_; rintro e w2 ⟨A2, n2, k2, rfl, ho2, hb2⟩; rw [free_one] at ho2; have HO2 := Lib.hid ho2; have HB2 := Lib.hid hb2; have HK2 := Lib.hid (HK1.out.below hb2); have HR2 := Lib.hid (HR1.out.below hb2); have HBW := Lib.hid (HB1.out.trans (hb2.mono HB1.out.size)); have HS2 := Lib.hid (show w.heap.size + 3 ≤ w2.heap.size by have h1 := HS1.out; have h2 := hb2.size; omega); clear ho2 hb2 c0)
    | (refine wpList_store_table rfl (.tmp 7) (.tmp 14) rfl rfl rfl (KB.new w2 none 0 0) ?_; intro w3 hk3 hg3; have HK3 := Lib.hid hk3; have HG3 := Lib.hid hg3; clear hk3 hg3)
    | fail)
  clear hw1 sb
  have hs3 : w2.heap.size < w3.heap.size := by have h1 := HG3.out.size; simp at h1; omega
  have HS3 := Lib.hid hs3
  have t3 : Below w2.heap.size w2 w3 := (below_new w2 _).grown HG3.out (by simp) (fun q e => by injection e with e; omega)
  have HBT := Lib.hid (HBW.out.trans (t3.mono HBW.out.size))
  have HKT := Lib.hid (HK2.out.below t3)
  have HRT := Lib.hid (HR2.out.below t3)
  have HOT := Lib.hid (HO2.out.below t3)
  have HLT := Lib.hid (show ∀ q, (Value.slice A2 n2 k2).ownBlock = some q → q < w2.heap.size from fun q e => (HO2.out.lt q e).2)
  have HG2 := Lib.hid (HLG.out.freeL fun z => decide (z = (x : Int)))
  clear hs3 t3
  have c3 := HK3.out.c0
  have f3 := HKT.out.c0
  by_cases hp0 : p < 0
  · have hpb : decide (p < 0) = true := decide_eq_true hp0
    have HPN := Lib.hid hp0
    clear hp0
    go_wp2_with (first
      | (refine wpList_store_table rfl (.tmp 6) (.tmp 17) rfl rfl rfl HRT.out ?_; intro w7 hk7 hg7; have HK7 := Lib.hid hk7; have HG7 := Lib.hid hg7; clear hk7 hg7)
      | fail)
    refine bodyPost_ret (results_table rfl _ rfl HK7.out) rfl ?_
    have h8 := HOT.out.turn (S := fun q => q = w.heap.size + 1) ((Turn.refl _ w3).grown HG7.out (fun q e => by injection e with e; exact .inl e.symm)) (fun q e h => by have h1 := (HOT.out.lt q e).1; have h2 := HS1.out; omega)
    refine ⟨A2, n2, k2, rfl, ?_, HBT.out.grown HG7.out HBT.out.size (fun q e => by injection e with e; omega)⟩
    unfold passL
    rw [if_pos HPN.out]
    exact OwnLk.le (b := w.heap.size) h8 HB1.out.size
  · have hpb : decide (p < 0) = false := decide_eq_false hp0
    have HP0 := Lib.hid (show 0 ≤ p ∧ p ≤ 63 from ⟨by omega, HPP.out⟩)
    have HOF := Lib.hid (of_any A L n k (x : Int) HN.out HLG.out w3 (HL.out.below HBT.out))
    clear hp0
    go_wp2_with (first
      | (go_at_call 67; refine HOF.out.mono ?_; rintro e w4 ⟨v4, rfl, ho4, hb4⟩; obtain ⟨A4, k4, rfl, hnk4, hl4, hs4⟩ := ho4.form; have HO4 := Lib.hid ho4; have HB4 := Lib.hid hb4; have HL4 := Lib.hid hl4; have HS4 := Lib.hid hs4; clear ho4 hb4 hl4 hs4)
      | fail)
    obtain ⟨O, hO⟩ : ∃ O, O = ofL L (x : Int) := ⟨_, rfl⟩
    obtain ⟨n4, hn4⟩ : ∃ n4, n4 = O.length := ⟨_, rfl⟩
    rw [← hO, ← hn4] at hnk4 HO4 ⊢
    rw [← hO] at HL4
    have HOE := Lib.hid hO
    have HN4 := Lib.hid hn4
    have HMO := Lib.hid (show ∀ y ∈ O, May y from fun y hy => HLG.out.may y (by rw [hO] at hy; exact (ofL_mem.1 hy).1))
    have hn4b : n4 ≤ 16384 := by rw [hn4, hO]; exact (HLG.out.ofL _).len
    clear hO hn4
    go_loopw [23] (fun iv wr => ∃ (j : Nat) (C : List Lk), iv = .int .i64 (j : Int) ∧ j ≤ n4 ∧ Hid (C.length = n4) ∧ Hid (OwnLk wr w3.heap.size (.slice A4 n4 k4) C) ∧ Hid (C = (O.take j).map (upOne p) ++ O.drop j) ∧ Hid (Below w3.heap.size w3 wr)) (fun iv _ => n4 - (intOf iv).toNat)
    case atStart => exact ⟨0, O, rfl, Nat.zero_le _, HN4.out.symm, HO4.out, rfl, HB4.out⟩
    case round =>
      obtain ⟨j, C, rfl, hj, HC, HO, HCE, HB⟩ := hrel
      clear HO4 HB4 HL4
      rcases Nat.lt_or_ge j n4 with hlt | hge
      · obtain ⟨y, hy⟩ : ∃ y, O[j]? = some y := ⟨O[j]'(by rw [← HN4.out]; exact hlt), List.getElem?_eq_getElem (by rw [← HN4.out]; exact hlt)⟩
        have hyC : C[j]? = some y := by rw [HCE.out]; exact mix_get _ hy
        obtain ⟨_, _, _, hLC⟩ := HO.out.parts
        obtain ⟨b, o, rfl, hb, hc⟩ := hLC.get hyC
        obtain ⟨g, hg, hgb, hgs⟩ : ∃ g, (some ⟨b, o, none⟩ : Option Addr) = some ⟨g, 0, none⟩ ∧ w3.heap.size ≤ g ∧ g < wr.heap.size := by
          obtain ⟨A5, c5, e5, _, _, hs5⟩ := HO.out.form
          injection e5 with e51 e52 e53
          subst e51
          rcases hs5 with h | h
          · cases h
          · exact h
        injection hg with hg
        injection hg with hg1 hg2
        subst hg1
        subst hg2
        have HCS := Lib.hid (show C.set j (upOne p y) = (O.take (j + 1)).map (upOne p) ++ O.drop (j + 1) by rw [HCE.out]; exact mix_set _ hy)
        have hc0 := hc.c0
        have hc1 := hc.c1
        have hc2 := hc.c2
        have hc3 := hc.c3
        rw [Nat.zero_add] at hc0 hc1 hc2 hc3
        obtain ⟨wz, hwz⟩ : ∃ wz, wz = wr.alloc (.cells #[.int .i64 y.b, .int .i64 y.x, .int .i64 y.h, .int .i64 y.k] 84) := ⟨_, rfl⟩
        have hbz : Below wr.heap.size wr wz := by rw [hwz]; exact below_new _ _
        obtain ⟨gy, hgy⟩ : ∃ gy, gy = wr.heap.size := ⟨_, rfl⟩
        have hy4 : LH wz gy y := by rw [hwz, hgy]; exact LH.new wr y
        have hne : ¬ gy = b := by omega
        have HOZ := Lib.hid (HO.out.below hbz)
        have HBZ := Lib.hid (HB.out.trans (hbz.mono HB.out.size))
        have HGB := Lib.hid hgb
        obtain ⟨g, hgg⟩ : ∃ g, g = b := ⟨_, rfl⟩
        rw [← hgg] at HOZ HGB hne hc0 hc1 hc2 hc3 ⊢
        have j0 : ∀ V, Turn (fun q => q = g) wz V → V.cell? ⟨gy, 0, none⟩ = some (.int .i64 y.b) := fun V hV => (hy4.turn hV hne).c0
        have j1 : ∀ V, Turn (fun q => q = g) wz V → V.cell? ⟨gy, 1, none⟩ = some (.int .i64 y.x) := fun V hV => (hy4.turn hV hne).c1
        have j2 : ∀ V, Turn (fun q => q = g) wz V → V.cell? ⟨gy, 2, none⟩ = some (.int .i64 y.h) := fun V hV => (hy4.turn hV hne).c2
        have j3 : ∀ V, Turn (fun q => q = g) wz V → V.cell? ⟨gy, 3, none⟩ = some (.int .i64 y.k) := fun V hV => (hy4.turn hV hne).c3
        clear hc hb hbz hy hyC hLC hgs hgb hgg
        go_upto_region 8 with fail
        rw [← hgy, ← hwz]
        clear hwz hgy hc0 hc1 hc2 hc3
        refine wp_region_turn (X := (fun q => q = g)) (by kernel_rfl) ?_
        have hS : Turn (fun q => q = g) wz (World.drew wz) := (Turn.refl _ _).drew
        refine wpAnyH_take (i := 0) (oi := ⟨some 28, _, _, _, _, _⟩) (v := ?_) rfl (by kernel_rfl) (by kernel_rfl) (by kernel_rfl) (fun _ _ _ h => h) (Or.inl ⟨by rfl, ?_⟩) hS ?_
        rotate_left
        · intro W hW; go_simp; with_reducible rfl
        try simp only [Act.put, List.setIfInBounds_toArray, List.set_cons_zero, List.set_cons_succ]
        refine wpAnyH_take (i := 1) (oi := ⟨some 29, _, _, _, _, _⟩) (v := ?_) rfl (by kernel_rfl) (by kernel_rfl) (by kernel_rfl) (fun _ _ _ h => h) (Or.inl ⟨by rfl, ?_⟩) hS ?_
        rotate_left
        · intro W hW; go_simp; with_reducible rfl
        try simp only [Act.put, List.setIfInBounds_toArray, List.set_cons_zero, List.set_cons_succ]
        refine wpAnyH_take (i := 2) (oi := ⟨some 30, _, _, _, _, _⟩) (v := ?_) rfl (by kernel_rfl) (by kernel_rfl) (by kernel_rfl) (fun _ _ _ h => h) (Or.inl ⟨by rfl, ?_⟩) hS ?_
        rotate_left
        · intro W hW; go_simp; with_reducible rfl
        try simp only [Act.put, List.setIfInBounds_toArray, List.set_cons_zero, List.set_cons_succ]
        refine wpAnyH_take (i := 3) (oi := ⟨some 31, _, _, _, _, _⟩) (v := ?_) rfl (by kernel_rfl) (by kernel_rfl) (by kernel_rfl) (fun _ _ _ h => h) (Or.inl ⟨by rfl, ?_⟩) hS ?_
        rotate_left
        · intro W hW; go_simp; with_reducible rfl
        try simp only [Act.put, List.setIfInBounds_toArray, List.set_cons_zero, List.set_cons_succ]
        refine wpAnyH_take (i := 4) (oi := ⟨some 32, _, _, _, _, _⟩) (v := ?_) rfl (by kernel_rfl) (by kernel_rfl) (by kernel_rfl) (fun _ _ _ h => h) (Or.inl ⟨by rfl, ?_⟩) hS ?_
        rotate_left
        · intro W hW; go_simp; with_reducible rfl
        try simp only [Act.put, List.setIfInBounds_toArray, List.set_cons_zero, List.set_cons_succ]
        refine wpAnyH_take (i := 5) (oi := ⟨some 33, _, _, _, _, _⟩) (v := ?_) rfl (by kernel_rfl) (by kernel_rfl) (by kernel_rfl) (fun _ _ _ h => h) (Or.inl ⟨by rfl, ?_⟩) hS ?_
        rotate_left
        · intro W hW; go_simp; with_reducible rfl
        try simp only [Act.put, List.setIfInBounds_toArray, List.set_cons_zero, List.set_cons_succ]
        refine wpAnyH_ready (rs := [6]) (by kernel_rfl) (by simp) ?_
        refine AllReadyH.cons (o := ⟨some 34, _, _, _, _, _⟩) rfl (fun Kr hKr => ?_) AllReadyH.nil
        -- operation 6: a call
        go_simp
        refine (greater_any y _).mono ?_
        rintro e V0 ⟨rfl, hv⟩
        show Kr _ _
        refine hKr.out _ _ ?_ (fun _ => ?_)
        · exact hS.trans (Turn.ofBelow hv.below)
        clear hKr Kr
        replace hS : Turn (fun q => q = g) wz V0 := hS.trans (Turn.ofBelow hv.below)
        try simp only [Act.put, List.setIfInBounds_toArray, List.set_cons_zero, List.set_cons_succ]
        refine wpAnyH_take (i := 7) (oi := ⟨some 35, _, _, _, _, _⟩) (v := ?_) rfl (by kernel_rfl) (by kernel_rfl) (by kernel_rfl) (fun _ _ _ h => h) (Or.inl ⟨by rfl, ?_⟩) hS ?_
        rotate_left
        · intro W hW; go_simp; with_reducible rfl
        try simp only [Act.put, List.setIfInBounds_toArray, List.set_cons_zero, List.set_cons_succ]
        refine wpAnyH_take (i := 8) (oi := ⟨some 36, _, _, _, _, _⟩) (v := ?_) rfl (by kernel_rfl) (by kernel_rfl) (by kernel_rfl) (fun _ _ _ h => h) (Or.inl ⟨by rfl, ?_⟩) hS ?_
        rotate_left
        · intro W hW; go_simp; with_reducible rfl
        try simp only [Act.put, List.setIfInBounds_toArray, List.set_cons_zero, List.set_cons_succ]
        refine wpAnyH_ready (rs := [9]) (by kernel_rfl) (by simp) ?_
        refine AllReadyH.cons (o := ⟨none, _, _, _, _, _⟩) rfl (fun Kr hKr => ?_) AllReadyH.nil
        -- operation 9: a step
        refine wp_store_elem _ _ rfl (i := j) ⟨y.b, p, 0, y.s⟩ rfl rfl ((show OwnLk (World.drew wz) w3.heap.size (.slice (some ⟨g, 0, none⟩) n4 k4) C from HOZ.out).below hv.below) HC.out hlt ?_
        intro w5 ho5 hg5
        show Kr _ _
        refine hKr.out _ _ ?_ (fun _ => ?_)
        · exact hS.grown hg5 (fun q e => by injection e with e; exact .inl e.symm)
        clear hKr Kr
        replace hS : Turn (fun q => q = g) wz w5 := hS.grown hg5 (fun q e => by injection e with e; exact .inl e.symm)
        try simp only [Act.put, List.setIfInBounds_toArray, List.set_cons_zero, List.set_cons_succ]
        refine wpAnyH_done (by kernel_rfl) ?_ _
        have HS := Lib.hid hS
        have HO5 := Lib.hid ho5
        have HG5 := Lib.hid hg5
        clear ho5 hg5 j0 j1 j2 j3
        go_wp2
        go_roundw
        case rel => exact ⟨j + 1, C.set j (upOne p y), by simp, by omega, (show (C.set j (upOne p y)).length = n4 by rw [List.length_set]; exact HC.out), HO5.out, HCS.out, (Turn.trans ((Turn.ofBelow (S := fun q => q = g) ((Below.refl _ _).mono (Nat.le_refl _)))) HS.out |>.below (B := w3.heap.size) (fun q e => by have := HGB.out; omega) HBZ.out.size |> fun h => HBZ.out.trans h)⟩
        case measure => simp [intOf]; omega
      · obtain rfl : j = n4 := by omega
        have hCU : C = upL L (x : Int) p := by
          rw [HCE.out, List.take_of_length_le (by rw [← HN4.out]; omega), List.drop_of_length_le (by rw [← HN4.out]; omega), List.append_nil, HOE.out]
          rfl
        have HCU := Lib.hid hCU
        have HOP := HOT.out.below (HB.out.mono (Nat.le_refl _))
        have hw := with_any A2 (freeL L fun z => decide (z = (x : Int))) n2 k2 HOT.out.parts.1 HOT.out.parts.2.1 HOT.out.parts.2.2.1 HG2.out A4 C j k4 HC.out (by rw [hCU]; exact HLG.out.upL _ HP0.out) wr (HOT.out.parts.2.2.2.below HB.out) HO.out.parts.2.2.2
        have HWA := Lib.hid hw
        have HRE := Lib.hid (HRT.out.below HB.out)
        have HBE := Lib.hid (HBT.out.trans (HB.out.mono HBT.out.size))
        have cE := (HK3.out.below HB.out).c0
        clear hw hCU HOP
        go_wp2_with (first
          | (go_at_call 37; refine HWA.out.mono ?_; rintro e w6 ⟨A6, n6, k6, rfl, ho6, hb6⟩; have HO6 := Lib.hid ho6; have HB6 := Lib.hid hb6; have HR6 := Lib.hid (HRE.out.below hb6); clear ho6 hb6)
          | (refine wpList_store_table rfl (.tmp 6) (.tmp 40) rfl rfl rfl HR6.out ?_; intro w7 hk7 hg7; have HK7 := Lib.hid hk7; have HG7 := Lib.hid hg7; clear hk7 hg7)
          | fail)
        refine bodyPost_ret (results_table rfl _ rfl HK7.out) rfl ?_
        have h9 : Below w.heap.size w w6 := HBE.out.trans (HB6.out.mono HBE.out.size)
        have h8 := HO6.out.turn (S := fun q => q = w.heap.size + 1) ((Turn.refl _ w6).grown HG7.out (fun q e => by injection e with e; exact .inl e.symm)) (fun q e h => by have h1 := (HO6.out.lt q e).1; have h2 := HRE.out.lt; omega)
        refine ⟨A6, n6, k6, rfl, ?_, h9.grown HG7.out h9.size (fun q e => by injection e with e; omega)⟩
        unfold passL
        rw [if_neg (by have := HP0.out; omega), ← HCU.out]
        exact OwnLk.le (b := w.heap.size) h8 HBE.out.size
end Go.Proofs.YtbokhhialfbjcaaGreat

namespace Go.Proofs.YtbokhhialfbjcaaGreat
set_option maxRecDepth 100000
set_option linter.unusedVariables false
open Go.RowKit Go.Shelf Go.Sort

theorem among_high (a b : Int) (h : b ≤ a) (w : World) : Calls Tryz.prog 35 #[.int .i64 a, .int .i64 b] w fun e w' => e = .returned (.bool false) ∧ w' = w := by
  rcases Int.lt_or_le a 0 with h0 | h0
  · exact among_low a b h0 w
  have h1 : decide (a < b) = false := decide_eq_false (by omega)
  have h2 : decide (0 ≤ a) = true := decide_eq_true h0
  have h3 : decide (a ≥ 0) = true := decide_eq_true h0
  go_enter Tryz.func35, Tryz.ntmps35
  go_wp2
  go_ret
  exact ⟨rfl, rfl⟩

/-- what Ask tells -/
def askE (T : Tr) (L : List Lk) (tx b md : Int) : Int :=
  if 0 ≤ tx ∧ tx < (T.l.length : Int) then (if (T.tx tx.toNat).s = 1 then (if agL T tx b md L = [] then 0 else 9) else 7) else 6
/-- .. and makes -/
def askL (T : Tr) (L : List Lk) (tx b md : Int) : List Lk := if askE T L tx b md = 0 then ins L ⟨b, tx, md, 0⟩ else []

def AskOut (T : Tr) (L : List Lk) (tx b md : Int) (w : World) (e : Ending) (w' : World) : Prop :=
  ∃ A' n' k', e = .returned (.tuple #[.agg #[.slice A' n' k'], .int .i64 (askE T L tx b md)]) ∧ OwnLk w' w.heap.size (.slice A' n' k') (askL T L tx b md) ∧ Below w.heap.size w w'

set_option maxHeartbeats 2000000 in
theorem ask_any (A : Option Addr) (L : List Lk) (n k : Nat) (hN : L.length = n) (hnk : n ≤ k) (hA : Sp A) (hl : LG L) (Ax : Option Addr) (T : Tr) (N cap : Nat) (c : Int) (hNx : T.l.length = N) (hG : Good T) (tx b md : Int) (hb : 0 ≤ b ∧ b ≤ 255) (hmd : md = 1 ∨ md = 2) (w : World) (hL : LkAt w A L) (hT : TxAt w Ax T.l) :
    Calls Tryz.prog 14 #[.agg #[.slice A n k], .agg #[.slice Ax N cap, .int .i64 c], .int .i64 tx, .int .i64 b, .int .i64 md] w (AskOut T L tx b md w) := by
  have hn16 : n ≤ 16384 := by rw [← hN]; exact hl.len
  have hN64 : N ≤ 64 := by have := hG.n; omega
  obtain ⟨wa, hwa⟩ : ∃ wa, wa = w.alloc (.cells #[.slice A n k] 34) := ⟨_, rfl⟩
  obtain ⟨wb, hwb⟩ : ∃ wb, wb = wa.alloc (.cells #[.slice Ax N cap, .int .i64 c] 31) := ⟨_, rfl⟩
  obtain ⟨w1, hw1⟩ : ∃ w1, w1 = wb.alloc (.cells #[.slice none 0 0] 34) := ⟨_, rfl⟩
  have sa : wa.heap.size = w.heap.size + 1 := by rw [hwa]; simp
  have sb : wb.heap.size = w.heap.size + 1 + 1 := by rw [hwb, World.size_alloc, sa]
  have s1 : w1.heap.size = w.heap.size + 1 + 1 + 1 := by rw [hw1, World.size_alloc, sb]
  have b1 : Below w.heap.size w w1 := by rw [hw1, hwb, hwa]; exact below_two (below_two (below_new _ _) (below_new _ _)) (below_new _ _)
  have k1 : KB w1 w.heap.size A n k := by rw [hw1, hwb, hwa]; exact ((KB.new w A n k).below (below_new _ _)).below (below_new _ _)
  have t1 : TB w1 (w.heap.size + 1) Ax N cap c := by
    have h := TB.new wa Ax N cap c
    rw [sa] at h
    rw [hw1, hwb]; exact h.below (below_new _ _)
  have r1 : KB w1 (w.heap.size + 1 + 1) none 0 0 := by
    have h := KB.new wb none 0 0
    rw [sb] at h
    rw [hw1]; exact h
  have HN := Lib.hid hN
  have HNK := Lib.hid hnk
  have HA := Lib.hid hA
  have HLG := Lib.hid hl
  have HNX := Lib.hid hNx
  have HGT := Lib.hid hG
  have HBB := Lib.hid hb
  have HMD := Lib.hid hmd
  have HL := Lib.hid hL
  have HT := Lib.hid hT
  have HB1 := Lib.hid b1
  have HK1 := Lib.hid k1
  have HT1 := Lib.hid t1
  have HR1 := Lib.hid r1
  have HSN := Lib.hid (sane_any A L n k hN hl w1 (hL.below b1))
  have hmin : min (N : Int) 64 = (N : Int) := by omega
  have hm1 : (md != 1) = !(md == 1) := rfl
  obtain ⟨q1, hq1⟩ : ∃ q1, (md != 1) = q1 := ⟨_, rfl⟩
  obtain ⟨q2, hq2⟩ : ∃ q2, (md != 2) = q2 := ⟨_, rfl⟩
  have HQ := Lib.hid (show q1 = false ∨ (q1 = true ∧ q2 = false) by
    rcases hmd with rfl | rfl
    · left; rw [← hq1]; rfl
    · right; rw [← hq1, ← hq2]; exact ⟨rfl, rfl⟩)
  clear hN hnk hA hl hNx hG hb hmd hL hT b1 k1 t1 r1 hm1 s1
  go_enter Tryz.func14, Tryz.ntmps14
  go_upto_region 1 with fail
  rw [← hwa, ← hwb, ← hw1]
  clear hw1 hwb hwa sb sa wb wa
  have c0 := HK1.out.c0
  rcases HQ.out with hf | ⟨hf, hf2⟩
  · subst hf
    go_upto_region 3 with (first
      | (go_at_call 34; refine HSN.out.mono ?_; rintro e w2 ⟨rfl, hb2⟩; have HB2 := Lib.hid hb2; have HBW := Lib.hid (HB1.out.trans (hb2.mono HB1.out.size)); have HK2 := Lib.hid (HK1.out.below hb2); have HT2 := Lib.hid (HT1.out.below hb2); have HR2 := Lib.hid (HR1.out.below hb2); clear hb2 c0)
      | (go_at_call 35; refine (among_yes _ _ (by have := HBB.out; omega) _).mono ?_; rintro e w' ⟨rfl, hw'⟩; replace hw' := hw'.symm; subst hw')
      | fail)
    have t0 := HT2.out.c0
    have NE := Lib.hid (show ∀ E : Int, askE T L tx b md = E → E ≠ 0 → askL T L tx b md = [] from fun E h1 h2 => by unfold askL; rw [if_neg (by rw [h1]; exact h2)])
    rcases Int.lt_or_le tx 0 with hlo | hlo
    · have HE := Lib.hid (show askE T L tx b md = 6 by unfold askE; rw [if_neg (by omega)])
      have HEL := Lib.hid (NE.out 6 HE.out (by decide))
      have HRX := HR2
      have HBX := HBW
      have HLO := Lib.hid hlo
      clear hlo
      go_wp2_with (first
        | (go_at_call 35; refine (among_low _ _ HLO.out _).mono ?_; rintro e w' ⟨rfl, hw'⟩; replace hw' := hw'.symm; subst hw')
        | (refine wpList_store_table rfl (.tmp 10) (.tmp 36) rfl rfl rfl HRX.out ?_; intro w7 hk7 hg7; have HK7 := Lib.hid hk7; have HG7 := Lib.hid hg7; clear hk7 hg7)
        | fail)
      refine bodyPost_ret (results_table2 rfl _ rfl _ rfl HK7.out) rfl ?_
      exact ⟨none, 0, 0, by rw [HE.out]; rfl, by rw [HEL.out]; exact OwnLk.nil _ _, HBX.out.grown HG7.out HBX.out.size (fun q e => by injection e with e; omega)⟩
    obtain ⟨i, hi⟩ : ∃ i : Nat, tx = i := ⟨tx.toNat, by omega⟩
    subst hi
    rcases Nat.lt_or_ge i N with hiN | hiN
    · have HIN := Lib.hid hiN
      obtain ⟨bx, hAe, hbx, _, p1, _, _⟩ := (HT.out.below HBW.out).get (i := i) (by rw [HNX.out]; exact hiN)
      subst hAe
      obtain ⟨s, hs⟩ : ∃ s, (T.tx i).s = s := ⟨_, rfl⟩
      rw [hs] at p1
      have HAE := Lib.hid (show askE T L i b md = (if s = 1 then (if agL T i b md L = [] then 0 else 9) else 7) by unfold askE; rw [if_pos (by rw [HNX.out]; omega)]; simp [hs])
      clear hs hbx hlo
      by_cases hs1 : s = 1
      · have hsb : (s != 1) = false := by subst hs1; rfl
        have HS1 := Lib.hid hs1
        clear hs1
        have k0 := HK2.out.c0
        have t1 := HT2.out.c1
        have HAG := Lib.hid (against_any A L n k HN.out HNK.out HLG.out (some ⟨bx, 0, none⟩) T N cap c HNX.out HGT.out i b md HMD.out w2 (HL.out.below HBW.out) (HT.out.below HBW.out))
        rcases List.eq_nil_or_concat (agL T i b md L) with hag | ⟨l0, z0, hag⟩
        · have HE := Lib.hid (show askE T L i b md = 0 by rw [HAE.out, if_pos HS1.out, if_pos hag])
          have HEL := Lib.hid (show askL T L i b md = ins L ⟨b, i, md, 0⟩ by unfold askL; rw [if_pos HE.out])
          rw [hag] at HAG
          clear hag
          have HMZ := Lib.hid (show May ⟨b, i, md, 0⟩ from ⟨HBB.out, by have h1 := HIN.out; show 0 ≤ (i : Int) ∧ (i : Int) ≤ 63; omega, by have := HMD.out; show 0 ≤ md ∧ md ≤ 2; omega, ⟨Int.le_refl 0, show (0 : Int) ≤ 2 by decide⟩, by have := HMD.out; unfold Lk.s; show 0 < max md 0; omega⟩)
          go_wp2_with (first
            | (go_at_call 35; refine (among_yes _ _ (by have := HIN.out; omega) _).mono ?_; rintro e w' ⟨rfl, hw'⟩; replace hw' := hw'.symm; subst hw')
            | (go_at_call 36; refine HAG.out.mono ?_; rintro e w3 ⟨v3, rfl, ho3, hb3⟩; obtain ⟨A3, c3, rfl, _, _⟩ := ho3.form; have HB3 := Lib.hid hb3; have HBX := Lib.hid (HBW.out.trans (hb3.mono HBW.out.size)); have k3 := (HK2.out.below hb3).c0; have HR3 := Lib.hid (HR2.out.below hb3); clear ho3 hb3)
            | (go_at_call 37; refine (with_any A L n k HN.out HNK.out HA.out HLG.out (some ⟨w3.heap.size, 0, none⟩) [⟨b, i, md, 0⟩] 1 1 rfl (LG.cons HMZ.out lg_nil (by simp)) _ ((HL.out.below HBX.out).below (below_new _ _)) (LkAt.new w3 ⟨b, i, md, 0⟩ _)).mono ?_; rintro e w4 ⟨A4, n4, k4, rfl, ho4, hb4⟩; have HO4 := Lib.hid ho4; have HB4 := Lib.hid hb4; have HRX := Lib.hid ((HR3.out.below (below_new w3 _)).below hb4); clear ho4 hb4)
            | (refine wpList_store_table rfl (.tmp 10) (.tmp 60) rfl rfl rfl HRX.out ?_; intro w7 hk7 hg7; have HK7 := Lib.hid hk7; have HG7 := Lib.hid hg7; clear hk7 hg7)
            | fail)
          have h5 : Below w.heap.size w w4 := (HBX.out.alloc HBX.out.size (.cells #[.int .i64 b, .int .i64 (i : Int), .int .i64 md, .int .i64 0] 84)).trans (HB4.out.mono (by have := HBX.out.size; simp; omega))
          refine bodyPost_ret (results_table2 rfl _ rfl _ rfl HK7.out) rfl ?_
          refine ⟨A4, n4, k4, by rw [HE.out]; rfl, ?_, h5.grown HG7.out h5.size (fun q e => by injection e with e; omega)⟩
          rw [HEL.out]
          have h8 := HO4.out.turn (S := fun q => q = w.heap.size + 1 + 1) ((Turn.refl _ w4).grown HG7.out (fun q e => by injection e with e; exact .inl e.symm)) (fun q e h => by have h1 := (HO4.out.lt q e).1; have h2 := HR3.out.lt; simp at h1; omega)
          exact OwnLk.le (b := w.heap.size) h8 (by have := HBX.out.size; simp; omega)
        · have hne : agL T i b md L ≠ [] := by rw [hag]; simp
          have HE := Lib.hid (show askE T L i b md = 9 by rw [HAE.out, if_pos HS1.out, if_neg hne])
          have HEL := Lib.hid (NE.out 9 HE.out (by decide))
          obtain ⟨na, hna⟩ : ∃ na, (agL T i b md L).length = na := ⟨_, rfl⟩
          have hnp : decide (0 < na) = true := decide_eq_true (by rw [← hna, hag]; simp)
          have HNA := Lib.hid hna
          clear hag hne hna
          go_wp2_with (first
            | (go_at_call 35; refine (among_yes _ _ (by have := HIN.out; omega) _).mono ?_; rintro e w' ⟨rfl, hw'⟩; replace hw' := hw'.symm; subst hw')
            | (go_at_call 36; refine HAG.out.mono ?_; rintro e w3 ⟨v3, rfl, ho3, hb3⟩; obtain ⟨A3, c3, rfl, _, _⟩ := ho3.form; rw [HNA.out]; have HBX := Lib.hid (HBW.out.trans (hb3.mono HBW.out.size)); have HRX := Lib.hid (HR2.out.below hb3); clear ho3 hb3)
            | (refine wpList_store_table rfl (.tmp 10) (.tmp 53) rfl rfl rfl HRX.out ?_; intro w7 hk7 hg7; have HK7 := Lib.hid hk7; have HG7 := Lib.hid hg7; clear hk7 hg7)
            | fail)
          refine bodyPost_ret (results_table2 rfl _ rfl _ rfl HK7.out) rfl ?_
          exact ⟨none, 0, 0, by rw [HE.out]; rfl, by rw [HEL.out]; exact OwnLk.nil _ _, HBX.out.grown HG7.out HBX.out.size (fun q e => by injection e with e; omega)⟩
      · have hsb : (s != 1) = true := by simpa using hs1
        have HE := Lib.hid (show askE T L i b md = 7 by rw [HAE.out, if_neg hs1])
        have HEL := Lib.hid (NE.out 7 HE.out (by decide))
        have HRX := HR2
        have HBX := HBW
        clear hs1
        go_wp2_with (first
          | (go_at_call 35; refine (among_yes _ _ (by have := HIN.out; omega) _).mono ?_; rintro e w' ⟨rfl, hw'⟩; replace hw' := hw'.symm; subst hw')
          | (refine wpList_store_table rfl (.tmp 10) (.tmp 44) rfl rfl rfl HRX.out ?_; intro w7 hk7 hg7; have HK7 := Lib.hid hk7; have HG7 := Lib.hid hg7; clear hk7 hg7)
          | fail)
        refine bodyPost_ret (results_table2 rfl _ rfl _ rfl HK7.out) rfl ?_
        exact ⟨none, 0, 0, by rw [HE.out]; rfl, by rw [HEL.out]; exact OwnLk.nil _ _, HBX.out.grown HG7.out HBX.out.size (fun q e => by injection e with e; omega)⟩
    · have HE := Lib.hid (show askE T L i b md = 6 by unfold askE; rw [if_neg (by rw [HNX.out]; omega)])
      have HEL := Lib.hid (NE.out 6 HE.out (by decide))
      have HRX := HR2
      have HBX := HBW
      have HLO := Lib.hid (show (N : Int) ≤ (i : Int) by omega)
      clear hlo hiN
      go_wp2_with (first
        | (go_at_call 35; refine (among_high _ _ HLO.out _).mono ?_; rintro e w' ⟨rfl, hw'⟩; replace hw' := hw'.symm; subst hw')
        | (refine wpList_store_table rfl (.tmp 10) (.tmp 36) rfl rfl rfl HRX.out ?_; intro w7 hk7 hg7; have HK7 := Lib.hid hk7; have HG7 := Lib.hid hg7; clear hk7 hg7)
        | fail)
      refine bodyPost_ret (results_table2 rfl _ rfl _ rfl HK7.out) rfl ?_
      exact ⟨none, 0, 0, by rw [HE.out]; rfl, by rw [HEL.out]; exact OwnLk.nil _ _, HBX.out.grown HG7.out HBX.out.size (fun q e => by injection e with e; omega)⟩
  · subst hf
    subst hf2
    go_upto_region 3 with (first
      | (go_at_call 34; refine HSN.out.mono ?_; rintro e w2 ⟨rfl, hb2⟩; have HB2 := Lib.hid hb2; have HBW := Lib.hid (HB1.out.trans (hb2.mono HB1.out.size)); have HK2 := Lib.hid (HK1.out.below hb2); have HT2 := Lib.hid (HT1.out.below hb2); have HR2 := Lib.hid (HR1.out.below hb2); clear hb2 c0)
      | (go_at_call 35; refine (among_yes _ _ (by have := HBB.out; omega) _).mono ?_; rintro e w' ⟨rfl, hw'⟩; replace hw' := hw'.symm; subst hw')
      | fail)
    have t0 := HT2.out.c0
    have NE := Lib.hid (show ∀ E : Int, askE T L tx b md = E → E ≠ 0 → askL T L tx b md = [] from fun E h1 h2 => by unfold askL; rw [if_neg (by rw [h1]; exact h2)])
    rcases Int.lt_or_le tx 0 with hlo | hlo
    · have HE := Lib.hid (show askE T L tx b md = 6 by unfold askE; rw [if_neg (by omega)])
      have HEL := Lib.hid (NE.out 6 HE.out (by decide))
      have HRX := HR2
      have HBX := HBW
      have HLO := Lib.hid hlo
      clear hlo
      go_wp2_with (first
        | (go_at_call 35; refine (among_low _ _ HLO.out _).mono ?_; rintro e w' ⟨rfl, hw'⟩; replace hw' := hw'.symm; subst hw')
        | (refine wpList_store_table rfl (.tmp 10) (.tmp 36) rfl rfl rfl HRX.out ?_; intro w7 hk7 hg7; have HK7 := Lib.hid hk7; have HG7 := Lib.hid hg7; clear hk7 hg7)
        | fail)
      refine bodyPost_ret (results_table2 rfl _ rfl _ rfl HK7.out) rfl ?_
      exact ⟨none, 0, 0, by rw [HE.out]; rfl, by rw [HEL.out]; exact OwnLk.nil _ _, HBX.out.grown HG7.out HBX.out.size (fun q e => by injection e with e; omega)⟩
    obtain ⟨i, hi⟩ : ∃ i : Nat, tx = i := ⟨tx.toNat, by omega⟩
    subst hi
    rcases Nat.lt_or_ge i N with hiN | hiN
    · have HIN := Lib.hid hiN
      obtain ⟨bx, hAe, hbx, _, p1, _, _⟩ := (HT.out.below HBW.out).get (i := i) (by rw [HNX.out]; exact hiN)
      subst hAe
      obtain ⟨s, hs⟩ : ∃ s, (T.tx i).s = s := ⟨_, rfl⟩
      rw [hs] at p1
      have HAE := Lib.hid (show askE T L i b md = (if s = 1 then (if agL T i b md L = [] then 0 else 9) else 7) by unfold askE; rw [if_pos (by rw [HNX.out]; omega)]; simp [hs])
      clear hs hbx hlo
      by_cases hs1 : s = 1
      · have hsb : (s != 1) = false := by subst hs1; rfl
        have HS1 := Lib.hid hs1
        clear hs1
        have k0 := HK2.out.c0
        have t1 := HT2.out.c1
        have HAG := Lib.hid (against_any A L n k HN.out HNK.out HLG.out (some ⟨bx, 0, none⟩) T N cap c HNX.out HGT.out i b md HMD.out w2 (HL.out.below HBW.out) (HT.out.below HBW.out))
        rcases List.eq_nil_or_concat (agL T i b md L) with hag | ⟨l0, z0, hag⟩
        · have HE := Lib.hid (show askE T L i b md = 0 by rw [HAE.out, if_pos HS1.out, if_pos hag])
          have HEL := Lib.hid (show askL T L i b md = ins L ⟨b, i, md, 0⟩ by unfold askL; rw [if_pos HE.out])
          rw [hag] at HAG
          clear hag
          have HMZ := Lib.hid (show May ⟨b, i, md, 0⟩ from ⟨HBB.out, by have h1 := HIN.out; show 0 ≤ (i : Int) ∧ (i : Int) ≤ 63; omega, by have := HMD.out; show 0 ≤ md ∧ md ≤ 2; omega, ⟨Int.le_refl 0, show (0 : Int) ≤ 2 by decide⟩, by have := HMD.out; unfold Lk.s; show 0 < max md 0; omega⟩)
          go_wp2_with (first
            | (go_at_call 35; refine (among_yes _ _ (by have := HIN.out; omega) _).mono ?_; rintro e w' ⟨rfl, hw'⟩; replace hw' := hw'.symm; subst hw')
            | (go_at_call 36; refine HAG.out.mono ?_; rintro e w3 ⟨v3, rfl, ho3, hb3⟩; obtain ⟨A3, c3, rfl, _, _⟩ := ho3.form; have HB3 := Lib.hid hb3; have HBX := Lib.hid (HBW.out.trans (hb3.mono HBW.out.size)); have k3 := (HK2.out.below hb3).c0; have HR3 := Lib.hid (HR2.out.below hb3); clear ho3 hb3)
            | (go_at_call 37; refine (with_any A L n k HN.out HNK.out HA.out HLG.out (some ⟨w3.heap.size, 0, none⟩) [⟨b, i, md, 0⟩] 1 1 rfl (LG.cons HMZ.out lg_nil (by simp)) _ ((HL.out.below HBX.out).below (below_new _ _)) (LkAt.new w3 ⟨b, i, md, 0⟩ _)).mono ?_; rintro e w4 ⟨A4, n4, k4, rfl, ho4, hb4⟩; have HO4 := Lib.hid ho4; have HB4 := Lib.hid hb4; have HRX := Lib.hid ((HR3.out.below (below_new w3 _)).below hb4); clear ho4 hb4)
            | (refine wpList_store_table rfl (.tmp 10) (.tmp 60) rfl rfl rfl HRX.out ?_; intro w7 hk7 hg7; have HK7 := Lib.hid hk7; have HG7 := Lib.hid hg7; clear hk7 hg7)
            | fail)
          have h5 : Below w.heap.size w w4 := (HBX.out.alloc HBX.out.size (.cells #[.int .i64 b, .int .i64 (i : Int), .int .i64 md, .int .i64 0] 84)).trans (HB4.out.mono (by have := HBX.out.size; simp; omega))
          refine bodyPost_ret (results_table2 rfl _ rfl _ rfl HK7.out) rfl ?_
          refine ⟨A4, n4, k4, by rw [HE.out]; rfl, ?_, h5.grown HG7.out h5.size (fun q e => by injection e with e; omega)⟩
          rw [HEL.out]
          have h8 := HO4.out.turn (S := fun q => q = w.heap.size + 1 + 1) ((Turn.refl _ w4).grown HG7.out (fun q e => by injection e with e; exact .inl e.symm)) (fun q e h => by have h1 := (HO4.out.lt q e).1; have h2 := HR3.out.lt; simp at h1; omega)
          exact OwnLk.le (b := w.heap.size) h8 (by have := HBX.out.size; simp; omega)
        · have hne : agL T i b md L ≠ [] := by rw [hag]; simp
          have HE := Lib.hid (show askE T L i b md = 9 by rw [HAE.out, if_pos HS1.out, if_neg hne])
          have HEL := Lib.hid (NE.out 9 HE.out (by decide))
          obtain ⟨na, hna⟩ : ∃ na, (agL T i b md L).length = na := ⟨_, rfl⟩
          have hnp : decide (0 < na) = true := decide_eq_true (by rw [← hna, hag]; simp)
          have HNA := Lib.hid hna
          clear hag hne hna
          go_wp2_with (first
            | (go_at_call 35; refine (among_yes _ _ (by have := HIN.out; omega) _).mono ?_; rintro e w' ⟨rfl, hw'⟩; replace hw' := hw'.symm; subst hw')
            | (go_at_call 36; refine HAG.out.mono ?_; rintro e w3 ⟨v3, rfl, ho3, hb3⟩; obtain ⟨A3, c3, rfl, _, _⟩ := ho3.form; rw [HNA.out]; have HBX := Lib.hid (HBW.out.trans (hb3.mono HBW.out.size)); have HRX := Lib.hid (HR2.out.below hb3); clear ho3 hb3)
            | (refine wpList_store_table rfl (.tmp 10) (.tmp 53) rfl rfl rfl HRX.out ?_; intro w7 hk7 hg7; have HK7 := Lib.hid hk7; have HG7 := Lib.hid hg7; clear hk7 hg7)
            | fail)
          refine bodyPost_ret (results_table2 rfl _ rfl _ rfl HK7.out) rfl ?_
          exact ⟨none, 0, 0, by rw [HE.out]; rfl, by rw [HEL.out]; exact OwnLk.nil _ _, HBX.out.grown HG7.out HBX.out.size (fun q e => by injection e with e; omega)⟩
      · have hsb : (s != 1) = true := by simpa using hs1
        have HE := Lib.hid (show askE T L i b md = 7 by rw [HAE.out, if_neg hs1])
        have HEL := Lib.hid (NE.out 7 HE.out (by decide))
        have HRX := HR2
        have HBX := HBW
        clear hs1
        go_wp2_with (first
          | (go_at_call 35; refine (among_yes _ _ (by have := HIN.out; omega) _).mono ?_; rintro e w' ⟨rfl, hw'⟩; replace hw' := hw'.symm; subst hw')
          | (refine wpList_store_table rfl (.tmp 10) (.tmp 44) rfl rfl rfl HRX.out ?_; intro w7 hk7 hg7; have HK7 := Lib.hid hk7; have HG7 := Lib.hid hg7; clear hk7 hg7)
          | fail)
        refine bodyPost_ret (results_table2 rfl _ rfl _ rfl HK7.out) rfl ?_
        exact ⟨none, 0, 0, by rw [HE.out]; rfl, by rw [HEL.out]; exact OwnLk.nil _ _, HBX.out.grown HG7.out HBX.out.size (fun q e => by injection e with e; omega)⟩
    · have HE := Lib.hid (show askE T L i b md = 6 by unfold askE; rw [if_neg (by rw [HNX.out]; omega)])
      have HEL := Lib.hid (NE.out 6 HE.out (by decide))
      have HRX := HR2
      have HBX := HBW
      have HLO := Lib.hid (show (N : Int) ≤ (i : Int) by omega)
      clear hlo hiN
      go_wp2_with (first
        | (go_at_call 35; refine (among_high _ _ HLO.out _).mono ?_; rintro e w' ⟨rfl, hw'⟩; replace hw' := hw'.symm; subst hw')
        | (refine wpList_store_table rfl (.tmp 10) (.tmp 36) rfl rfl rfl HRX.out ?_; intro w7 hk7 hg7; have HK7 := Lib.hid hk7; have HG7 := Lib.hid hg7; clear hk7 hg7)
        | fail)
      refine bodyPost_ret (results_table2 rfl _ rfl _ rfl HK7.out) rfl ?_
      exact ⟨none, 0, 0, by rw [HE.out]; rfl, by rw [HEL.out]; exact OwnLk.nil _ _, HBX.out.grown HG7.out HBX.out.size (fun q e => by injection e with e; omega)⟩
end Go.Proofs.YtbokhhialfbjcaaGreat
