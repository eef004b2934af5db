/-
  Whose locks are against one.
-/
import Derived.Test.YtohnfjneghbceaaSane
import Derived.Test.YtohnfjneghbceaaEq
import Derived.Lib.MinMax
namespace Go.Proofs.Ytohnfjneghbceaa
set_option maxRecDepth 100000
set_option linter.unusedVariables false
open Go.RowKit Go.Shelf Go.Sort

/-- does a mode exclude the other one? -/
def exc (md s : Int) : Bool := if md = 1 then s == 2 else !(s == 0)
theorem excl_any (md s : Int) (hm : md = 1 ∨ md = 2) (w : World) : Calls Try.prog 57 #[.int .i64 md, .int .i64 s] w fun e w' => e = .returned (.bool (exc md s)) ∧ w' = w := by
  rcases hm with rfl | rfl
  · exact excl_read s w
  · exact excl_write s w

/-- is a lock against one? -/
def hit (T : Tr) (tx b md : Int) (y : Lk) : Bool := decide (y.b = b) && exc md y.s && !T.stands tx y.x
/-- whose are -/
def agL (T : Tr) (tx b md : Int) (L : List Lk) : List Nat := (L.filter (hit T tx b md)).map fun y => y.x.toNat
theorem agL_append (T : Tr) (tx b md : Int) (L M : List Lk) : agL T tx b md (L ++ M) = agL T tx b md L ++ agL T tx b md M := by unfold agL; rw [List.filter_append, List.map_append]
theorem agL_none {T : Tr} {tx b md : Int} {L : List Lk} (h : ∀ y ∈ L, y.b ≠ b) : agL T tx b md L = [] := by
  unfold agL
  rw [List.map_eq_nil_iff, List.filter_eq_nil_iff]
  intro y hy
  unfold hit
  simp [h y hy]
theorem agL_len (T : Tr) (tx b md : Int) (L : List Lk) : (agL T tx b md L).length ≤ L.length := by unfold agL; rw [List.length_map]; exact List.length_filter_le _ _
theorem agL_mem {T : Tr} {tx b md : Int} {L : List Lk} {z : Nat} (h : z ∈ agL T tx b md L) : ∃ y ∈ L, y.x.toNat = z ∧ y.b = b ∧ exc md y.s = true ∧ T.stands tx y.x = false := by
  unfold agL at h
  obtain ⟨y, hy, rfl⟩ := List.mem_map.1 h
  obtain ⟨h1, h2⟩ := List.mem_filter.1 hy
  unfold hit at h2
  simp at h2
  exact ⟨y, h1, rfl, h2.1.1, h2.1.2, h2.2⟩
theorem agL_nil {T : Tr} {tx b md : Int} {L : List Lk} (h : agL T tx b md L = []) {y : Lk} (hy : y ∈ L) (hb : y.b = b) (he : exc md y.s = true) : T.stands tx y.x = true := by
  unfold agL at h
  rw [List.map_eq_nil_iff, List.filter_eq_nil_iff] at h
  have := h y hy
  unfold hit at this
  simp [hb, he] at this
  exact this

/-- those of one block are few, and stand together -/
theorem rise_far : ∀ (L : List Lk) (m : Int) (i : Nat) (y : Lk), (L.Pairwise fun y z => y.q < z.q) → (∀ z ∈ L, m ≤ z.q) → L[i]? = some y → m + i ≤ y.q
  | [], _, _, _, _, _, h => by simp at h
  | a :: L, m, 0, y, _, hm, h => by
    have : a = y := by simpa using h
    have := hm a (by simp)
    subst y; omega
  | a :: L, m, i + 1, y, hp, hm, h => by
    obtain ⟨h1, h2⟩ := List.pairwise_cons.1 hp
    have := rise_far L (m + 1) i y h2 (fun z hz => by have := h1 z hz; have := hm a (by simp); omega) (by simpa using h)
    omega
theorem agL_few (T : Tr) (tx b md : Int) {L1 L2 : List Lk} (hl : LG (L1 ++ L2)) (h1 : ∀ y ∈ L1, y.q < b * 64 + 0) (h2 : ∀ y ∈ L2, b * 64 + 0 ≤ y.q) (B : Nat) (hB : L2.length ≤ B ∨ 64 ≤ B) :
    agL T tx b md (L2.take B) = agL T tx b md (L1 ++ L2) := by
  rw [agL_append, agL_none (L := L1) fun y hy e => by
    have := h1 y hy
    have hm := (hl.may y (by simp [hy])).x
    unfold Lk.q at this
    omega]
  conv => rhs; rw [← List.take_append_drop B L2]
  rw [agL_append, agL_none (L := L2.drop B), List.nil_append, List.append_nil]
  intro y hy e
  obtain ⟨i, hi⟩ := List.getElem?_of_mem hy
  rw [List.getElem?_drop] at hi
  have hr := rise_far L2 (b * 64) (B + i) y (List.pairwise_append.1 hl.up).2.1 (fun z hz => by have := h2 z hz; omega) hi
  have hm := (hl.may y (by simp [List.mem_of_mem_drop hy])).x
  have hlt := (List.getElem?_eq_some_iff.1 hi).1
  unfold Lk.q at hr
  omega

theorem OwnId.le {w : World} {base b : Nat} {v : Value} {l : List Nat} (h : OwnId w base v l) (hb : b ≤ base) : OwnId w b v l := by
  refine ⟨h.1, ?_⟩
  rcases h.2 with h2 | ⟨g, c, cur, e, hg, rest⟩
  · exact .inl h2
  · exact .inr ⟨g, c, cur, e, Nat.le_trans hb hg, rest⟩

set_option maxHeartbeats 1000000 in
theorem against_any (A : Option Addr) (L : List Lk) (n k : Nat) (hN : L.length = n) (hnk : n ≤ k) (hl : LG L) (Ax : Option Addr) (T : Tr) (N cap : Nat) (c : Int) (hNx : T.l.length = N) (hG : Good T) (tx b md : Int) (hmd : md = 1 ∨ md = 2) (w : World) (hL : LkAt w A L) (hT : TxAt w Ax T.l) :
    Calls Try.prog 33 #[.agg #[.slice A n k], .agg #[.slice Ax N cap, .int .i64 c], .int .i64 tx, .int .i64 b, .int .i64 md] w fun e w' => ∃ v, e = .returned v ∧ OwnId w' w.heap.size v (agL T tx b md L) ∧ Below w.heap.size w w' := by
  have HN := Lib.hid hN
  have HLG := Lib.hid hl
  have hn16 : n ≤ 16384 := by rw [← hN]; exact hl.len
  obtain ⟨w0, hw0⟩ : ∃ w0, w0 = w.alloc (.cells #[.slice A n k] 49) := ⟨_, rfl⟩
  obtain ⟨w1, hw1⟩ : ∃ w1, w1 = w0.alloc (.cells #[.slice Ax N cap, .int .i64 c] 26) := ⟨_, rfl⟩
  have hs0 : w0.heap.size = w.heap.size + 1 := by rw [hw0]; simp
  have b0 : Below w.heap.size w w1 := by rw [hw1, hw0]; exact below_two (below_new _ _) (below_new _ _)
  have x0 : w1.cell? ⟨w.heap.size, 0, none⟩ = some (.slice A n k) := by rw [hw1, hw0]; exact cell_al _ ((cell_new w _ _ 0).trans rfl)
  have t0 : TB w1 (w.heap.size + 1) Ax N cap c := by have := TB.new w0 Ax N cap c; rw [hs0] at this; rw [hw1]; exact this
  have HB1 := Lib.hid b0
  have HX1 := Lib.hid x0
  have HT1 := Lib.hid t0
  have HL0 := Lib.hid hL
  have HTx := Lib.hid hT
  have HNX := Lib.hid hNx
  have HGT := Lib.hid hG
  have HP := Lib.hid (place_any A L n k 0 b ⟨Int.le_refl 0, by decide⟩ hl hN w1 (hL.below b0))
  clear hN hl b0 x0 t0 hL hT hNx hG
  go_enter Try.func33, Try.ntmps33
  go_upto_region 1 with fail
  rw [← hw0, ← hw1]
  clear hw0 hw1 hs0 w0
  have x0 := HX1.out
  go_upto_region 2 with (go_at_call 50; refine HP.out.mono ?_; rintro e w2 ⟨L1, L2, t, hl12, h1, h2, h3, h4, rfl, hb2⟩; have x2 := (hb2.cell (block_lt_of_cell (a := ⟨w.heap.size, 0, none⟩) x0)).trans x0; have HB2 := Lib.hid hb2; have H12 := Lib.hid hl12; have H1 := Lib.hid h1; have H2 := Lib.hid h2; clear hb2 hl12 h1 h2 h3 h4 x0)
  obtain ⟨m, hm⟩ : ∃ m, m = L1.length := ⟨_, rfl⟩
  rw [← hm]
  have hmn : m ≤ n := by rw [← HN.out, H12.out, List.length_append]; omega
  obtain ⟨B, hB⟩ : ∃ B : Nat, B = min (m + 64) n := ⟨_, rfl⟩
  have hmin : min ((m : Int) + 64) (n : Int) = (B : Int) := by omega
  have hmB : m ≤ B := by omega
  have hBn : B ≤ n := by omega
  have hBk : B ≤ k := by omega
  obtain ⟨M, hM⟩ : ∃ M : Nat, M = B - m := ⟨_, rfl⟩
  have HM := Lib.hid hm
  have HAG := Lib.hid (agL_few T tx b md (by rw [← H12.out]; exact HLG.out) H1.out H2.out M (by have : L1.length + L2.length = n := (by rw [← HN.out, H12.out, List.length_append]); omega))
  have hTw := (HT1.out.below HB2.out)
  have HTW := Lib.hid hTw
  have HX2 := Lib.hid x2
  have HBW := Lib.hid (HB1.out.trans (HB2.out.mono HB1.out.size))
  have hMB : M + m = B := by omega
  clear hm hB hTw
  rcases Nat.eq_zero_or_pos M with hM0 | hM0
  · obtain rfl : B = m := by omega
    have HA0 := Lib.hid (show agL T tx b md L = [] by have := HAG.out; rw [hM0, ← H12.out] at this; rw [← this]; rfl)
    clear hM hMB hM0 HAG
    go_wp2_with fail
    all_goals (go_loopw [14, 36] (fun lv iv wr => lv = .slice none 0 0 ∧ iv = .int .i64 0 ∧ wr = w2) (fun _ _ _ => 0))
    case atStart => exact ⟨rfl, rfl, rfl⟩
    case atStart => exact ⟨rfl, rfl, rfl⟩
    all_goals (obtain ⟨rfl, rfl, hwr⟩ := hrel)
    all_goals (replace hwr := hwr.symm; subst hwr)
    all_goals go_wp2
    all_goals go_ret
    all_goals (exact ⟨_, rfl, by rw [HA0.out]; exact OwnId.nil _ _, HBW.out⟩)
  · have hlm : m < L.length := by rw [HN.out]; omega
    obtain ⟨ab, ao, rfl, hab, hcm⟩ := HL0.out.get (List.getElem?_eq_getElem hlm)
    have hkm : ¬ k = m := by omega
    have HLM := Lib.hid (show LkAt w (some ⟨ab, ao + m * 4, none⟩) (L2.take M) from by
      have h := HL0.out
      rw [H12.out] at h
      have h := h.right HM.out.symm
      rw [← List.take_append_drop M L2] at h
      exact h.left)
    have HLL := Lib.hid (show (L2.take M).length = M from by
      have : L1.length + L2.length = n := (by rw [← HN.out, H12.out, List.length_append])
      rw [List.length_take]
      have := HM.out
      omega)
    have hbm : B - m = M := by omega
    have hM16 : M ≤ 16384 := by omega
    obtain ⟨S, hS⟩ : ∃ S, S = L2.take M := ⟨_, rfl⟩
    rw [← hS] at HLM HLL HAG
    have HSM := Lib.hid (show ∀ y ∈ S, May y from fun y hy => HLG.out.may y (by rw [H12.out]; rw [hS] at hy; exact List.mem_append_right _ (List.mem_of_mem_take hy)))
    clear hS hcm hlm hMB hM
    go_wp2_with fail
    clear x2 hmin hmB hBn hBk hkm hbm hmn hn16 hnk
    go_loopw [14, 36] (fun lv iv wr => ∃ j : Nat, iv = .int .i64 (j : Int) ∧ j ≤ M ∧ Hid (OwnId wr (w.heap.size + 2) lv (agL T tx b md (S.take j))) ∧ Hid (TB wr (w.heap.size + 1) Ax N cap c) ∧ Hid (Below w.heap.size w wr)) (fun _ iv _ => M - (intOf iv).toNat)
    case atStart => exact ⟨0, rfl, Nat.zero_le _, OwnId.nil _ _, HTW.out, HBW.out⟩
    case round =>
      obtain ⟨j, rfl, hj, HO, HT, HB⟩ := hrel
      clear HTW HBW
      rcases Nat.lt_or_ge j M with hlt | hge
      · obtain ⟨y, hy⟩ : ∃ y, S[j]? = some y := ⟨S[j]'(by rw [HLL.out]; exact hlt), List.getElem?_eq_getElem (by rw [HLL.out]; exact hlt)⟩
        have HMY := Lib.hid (HSM.out y (List.mem_of_getElem? hy))
        obtain ⟨b', o', e, hb', hc⟩ := (HLM.out.below HB.out).get hy
        injection e with e
        injection e with e1 e2
        subst e1
        subst e2
        have htk : agL T tx b md (S.take (j + 1)) = agL T tx b md (S.take j) ++ (if hit T tx b md y then [y.x.toNat] else []) := by
          rw [List.take_add_one, hy, agL_append]
          congr 1
          unfold agL
          cases hh : hit T tx b md y <;> simp [hh]
        have HTK := Lib.hid htk
        have HLJ := Lib.hid (show (agL T tx b md (S.take j)).length ≤ 16384 from Nat.le_trans (agL_len _ _ _ _ _) (by rw [List.length_take]; omega))
        have hc0 := hc.c0
        have hc1 := hc.c1
        have hc2 := hc.c2
        have hc3 := hc.c3
        obtain ⟨wz, hwz⟩ : ∃ wz, wz = wr.alloc (.cells #[.int .i64 y.b, .int .i64 y.x, .int .i64 y.h, .int .i64 y.k] 53) := ⟨_, rfl⟩
        have hbz : Below wr.heap.size wr wz := by rw [hwz]; exact below_new _ _
        have hy4 : LB wz wr.heap.size y := by rw [hwz]; exact LB.new wr y _
        have HBZ := Lib.hid (HB.out.trans (hbz.mono HB.out.size))
        have HTZ := Lib.hid (HT.out.below hbz)
        have HOZ := Lib.hid (HO.out.below hbz)
        have HSZ := Lib.hid (show w.heap.size + 2 ≤ wz.heap.size from by have h1 := HT.out.lt; have h2 := hbz.size; have h3 : wz.heap.size = wr.heap.size + 1 := (by rw [hwz]; simp); omega)
        have cz0 := hy4.b
        have cz1 := hy4.x
        have cz2 := hy4.h
        have cz3 := hy4.k
        clear hc htk hbz hy4 hy hb'
        go_upto_region 7 with fail
        rw [← hwz]
        clear hwz hc0 hc1 hc2 hc3
        obtain ⟨ex, hex⟩ : ∃ ex, exc md y.s = ex := ⟨_, rfl⟩
        obtain ⟨st, hst⟩ : ∃ st, T.stands tx y.x = st := ⟨_, rfl⟩
        by_cases hb : y.b = b
        · have hbb : (y.b == b) = true := by simpa using hb
          cases ex
          · have HH := Lib.hid (show hit T tx b md y = false by unfold hit; rw [hex]; simp)
            clear hb
            go_wp2_with (first | (go_at_call 48; refine (greater_any y _).mono ?_; rintro e w5 ⟨rfl, hgw⟩; have HG5 := Lib.hid hgw.below; have d1 := (hgw.cell cz1 (block_lt_of_cell (a := ⟨wr.heap.size, 1, none⟩) cz1)); have s0 := (HTZ.out.below hgw.below).c0; have s1 := (HTZ.out.below hgw.below).c1; clear hgw) | (go_at_call 57; refine (excl_any md y.s hmd _).mono ?_; rintro e w' ⟨rfl, hw'⟩; replace hw' := hw'.symm; subst hw'; rw [hex]) | (go_at_call 23; refine (within_any Ax T N cap c tx y.x HNX.out HGT.out w5 (HTx.out.below (HBZ.out.trans (HG5.out.mono HBZ.out.size)))).mono ?_; rintro e w6 ⟨rfl, hb6⟩; rw [hst]; have d2 := (hb6.cell (p := ⟨wr.heap.size, 1, none⟩) (block_lt_of_cell (a := ⟨wr.heap.size, 1, none⟩) d1)).trans d1; have HW6 := Lib.hid hb6; clear hb6) | fail)
            go_roundw
            case rel => exact ⟨j + 1, by simp, by omega, by rw [HTK.out, HH.out]; simp; exact HOZ.out.below HG5.out, HTZ.out.below HG5.out, HBZ.out.trans (HG5.out.mono HBZ.out.size)⟩
            case measure => simp [intOf]; omega
          · cases st
            · have HH := Lib.hid (show hit T tx b md y = true by unfold hit; rw [hex, hst]; simp [hb])
              clear hb
              go_wp2_with (first | (go_at_call 48; refine (greater_any y _).mono ?_; rintro e w5 ⟨rfl, hgw⟩; have HG5 := Lib.hid hgw.below; have d1 := (hgw.cell cz1 (block_lt_of_cell (a := ⟨wr.heap.size, 1, none⟩) cz1)); have s0 := (HTZ.out.below hgw.below).c0; have s1 := (HTZ.out.below hgw.below).c1; clear hgw) | (go_at_call 57; refine (excl_any md y.s hmd _).mono ?_; rintro e w' ⟨rfl, hw'⟩; replace hw' := hw'.symm; subst hw'; rw [hex]) | (go_at_call 23; refine (within_any Ax T N cap c tx y.x HNX.out HGT.out w5 (HTx.out.below (HBZ.out.trans (HG5.out.mono HBZ.out.size)))).mono ?_; rintro e w6 ⟨rfl, hb6⟩; rw [hst]; have d2 := (hb6.cell (p := ⟨wr.heap.size, 1, none⟩) (block_lt_of_cell (a := ⟨wr.heap.size, 1, none⟩) d1)).trans d1; have HW6 := Lib.hid hb6; have HO6 := Lib.hid ((HOZ.out.below HG5.out).below hb6); clear hb6) | (at_builtin; refine wpList_append_id rfl _ _ rfl (w.heap.size + 2) u14 (agL T tx b md (S.take j)) rfl ((HO6.out).below (below_new _ _)) _ y.x.toNat rfl (((cell_new w6 #[.int .i64 y.x] 3 0).trans rfl).trans (by rw [Int.toNat_of_nonneg HMY.out.x.1]; rfl)) (by have := HLJ.out; omega) (by have h1 := HSZ.out; have h2 := HG5.out.size; have h3 := HW6.out.size; simp; omega) ?_; intro v7 w7 hown7 hg7 hat7; have HO7 := Lib.hid hown7; have HG7 := Lib.hid hg7; clear hown7 hg7 hat7) | fail)
              have HT6 := Lib.hid ((HTZ.out.below HG5.out).below HW6.out)
              have HB6 := Lib.hid ((HBZ.out.trans (HG5.out.mono HBZ.out.size)).trans (HW6.out.mono (Nat.le_trans HBZ.out.size HG5.out.size)))
              have hb7 := below_new w6 (.cells #[.int .i64 y.x] 3)
              have HT7 := Lib.hid ((HT6.out.below hb7).far (r := u14.ownBlock) HG7.out (fun e => by have := (HO6.out.lt _ e.symm).1; omega))
              have HB7 := Lib.hid ((HB6.out.alloc HB6.out.size (.cells #[.int .i64 y.x] 3)).grown HG7.out (by have := HB6.out.size; simp; omega) (fun q eq => by have := (HO6.out.lt q eq).1; omega))
              clear hb7
              go_roundw
              case rel => exact ⟨j + 1, by simp, by omega, by rw [HTK.out, HH.out]; exact HO7.out, HT7.out, HB7.out⟩
              case measure => simp [intOf]; omega
            · have HH := Lib.hid (show hit T tx b md y = false by unfold hit; rw [hst]; simp)
              clear hb
              go_wp2_with (first | (go_at_call 48; refine (greater_any y _).mono ?_; rintro e w5 ⟨rfl, hgw⟩; have HG5 := Lib.hid hgw.below; have d1 := (hgw.cell cz1 (block_lt_of_cell (a := ⟨wr.heap.size, 1, none⟩) cz1)); have s0 := (HTZ.out.below hgw.below).c0; have s1 := (HTZ.out.below hgw.below).c1; clear hgw) | (go_at_call 57; refine (excl_any md y.s hmd _).mono ?_; rintro e w' ⟨rfl, hw'⟩; replace hw' := hw'.symm; subst hw'; rw [hex]) | (go_at_call 23; refine (within_any Ax T N cap c tx y.x HNX.out HGT.out w5 (HTx.out.below (HBZ.out.trans (HG5.out.mono HBZ.out.size)))).mono ?_; rintro e w6 ⟨rfl, hb6⟩; rw [hst]; have d2 := (hb6.cell (p := ⟨wr.heap.size, 1, none⟩) (block_lt_of_cell (a := ⟨wr.heap.size, 1, none⟩) d1)).trans d1; have HW6 := Lib.hid hb6; clear hb6) | fail)
              have HT6 := Lib.hid ((HTZ.out.below HG5.out).below HW6.out)
              have HB6 := Lib.hid ((HBZ.out.trans (HG5.out.mono HBZ.out.size)).trans (HW6.out.mono (Nat.le_trans HBZ.out.size HG5.out.size)))
              have HO6 := Lib.hid ((HOZ.out.below HG5.out).below HW6.out)
              go_roundw
              case rel => exact ⟨j + 1, by simp, by omega, by rw [HTK.out, HH.out]; simp; exact HO6.out, HT6.out, HB6.out⟩
              case measure => simp [intOf]; omega
        · have hbb : (y.b == b) = false := by simpa using hb
          have HH := Lib.hid (show hit T tx b md y = false by unfold hit; simp [hb])
          clear hb
          go_wp2
          go_roundw
          case rel => exact ⟨j + 1, by simp, by omega, by rw [HTK.out, HH.out]; simp; exact HOZ.out, HTZ.out, HBZ.out⟩
          case measure => simp [intOf]; omega
      · obtain rfl : j = M := by omega
        go_wp2
        go_ret
        have h := HO.out
        rw [List.take_of_length_le (by rw [HLL.out]; omega), HAG.out, ← H12.out] at h
        exact ⟨_, rfl, h.le (by omega), HB.out⟩
end Go.Proofs.Ytohnfjneghbceaa
