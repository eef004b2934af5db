/-
  What a sector's bytes tell: the program's answer.
-/
import Derived.Test.YtojidejlohpeaaaEnc8
import Derived.Test.YtojidejlohpeaaaBox8
namespace Go.Proofs.Ytojidejlohpeaaa
set_option maxRecDepth 100000
open Go.RowKit Crc Wm Sup

/-- the first j numbers are told, the others are 0 -/
def partS (l : List UInt8) (j : Nat) : Sup :=
  ⟨if 0 < j then numAt l 0 else 0, if 1 < j then numAt l 1 else 0, if 2 < j then numAt l 2 else 0, if 3 < j then numAt l 3 else 0, if 4 < j then numAt l 4 else 0, if 5 < j then numAt l 5 else 0, if 6 < j then numAt l 6 else 0⟩
theorem part_zero (l : List UInt8) : partS l 0 = Sup.zero := by simp [partS, Sup.zero]
theorem part_all (l : List UInt8) : partS l 7 = tell l := by simp [partS, tell]
theorem part_succ (l : List UInt8) (j : Nat) (h : j < 7) : (supC (partS l j)).setIfInBounds j (.int .i64 (numAt l j)) = supC (partS l (j + 1)) := by
  generalize hx : numAt l = f
  unfold supC partS
  rw [hx]
  rcases j with _ | _ | _ | _ | _ | _ | _ | j
  · simp
  · simp
  · simp
  · simp
  · simp
  · simp
  · simp
  · omega

/-- the reader in another world -/
theorem Cur.again {w W V : World} {r t cap n k : Nat} {A : Option Addr} {l : List UInt8} (h : Cur W r t A cap n k l) (hb : V.heap[r]? = W.heap[r]?) (hr : Rd w w.heap.size A l) (hbel : Below w.heap.size w V) (hle : w.heap.size ≤ r) : Cur V r t A cap n k l :=
  ⟨hb.trans h.blk, h.le, h.len, h.cap_, h.nm, (hr.below hbel).more hle⟩

/-- the result, the super that is filled, the reader over its bytes, the list of the numbers -/
structure Tl (w W : World) (r q : Nat) (A : Option Addr) (c k : Nat) (l8 : List UInt8) (s : Sup) : Prop where
  rd : Rd w w.heap.size A l8
  res : SupAt W w.heap.size 29 Sup.zero
  own : SupAt W (w.heap.size + 1) 29 s
  cur : Cur W r 112 A c 56 k l8
  fld : Flds W q (w.heap.size + 1)
  bel : Below w.heap.size w W
  lo : w.heap.size + 1 < r
  mid : r < q
section
variable {w W V : World} {r q c k k' : Nat} {A : Option Addr} {l8 : List UInt8} {s s' : Sup}
theorem Tl.below (h : Tl w W r q A c k l8 s) (hb : Below W.heap.size W V) : Tl w V r q A c k l8 s :=
  ⟨h.rd, h.res.below hb, h.own.below hb, h.cur.below hb, h.fld.below hb, h.bel.trans (hb.mono h.bel.size), h.lo, h.mid⟩
theorem Tl.read (h : Tl w W r q A c k l8 s) (hc : Cur V r 112 A c 56 k' l8) (hg : W.grownBy V (some r)) : Tl w V r q A c k' l8 s := by
  have h1 := h.lo
  have h2 := h.mid
  refine ⟨h.rd, ?_, ?_, hc, ?_, h.bel.grown hg h.bel.size (fun k hk => by injection hk with hk; omega), h.lo, h.mid⟩
  · exact (hg.block _ (lt_of_block h.res) (fun e => by injection e with e; omega)).trans h.res
  · exact (hg.block _ (lt_of_block h.own) (fun e => by injection e with e; omega)).trans h.own
  · exact (hg.block _ (lt_of_block h.fld) (fun e => by injection e with e; omega)).trans h.fld
theorem Tl.put (h : Tl w W r q A c k l8 s) (j : Nat) (v : Int) (he : (supC s).setIfInBounds j (.int .i64 v) = supC s') : Tl w (W.setCell ⟨w.heap.size + 1, j, none⟩ (.int .i64 v)) r q A c k l8 s' := by
  have h1 := h.lo
  have h2 := h.mid
  have hg := setCell_grown W (w.heap.size + 1) j (.int .i64 v)
  have hbel := h.bel.grown hg h.bel.size (fun k hk => by injection hk with hk; omega)
  refine ⟨h.rd, ?_, ?_, h.cur.again (hg.block r h.cur.lt (fun e => by injection e with e; omega)) h.rd hbel (by omega), ?_, hbel, h.lo, h.mid⟩
  · exact (hg.block _ (lt_of_block h.res) (fun e => by injection e with e; omega)).trans h.res
  · show (W.setCell ⟨w.heap.size + 1, j, none⟩ (.int .i64 v)).heap[w.heap.size + 1]? = _
    rw [heap_setCell_same _ _ _ _ _ _ h.own, he]
  · exact (hg.block _ (lt_of_block h.fld) (fun e => by injection e with e; omega)).trans h.fld
end

set_option maxHeartbeats 1000000 in
theorem told_any (b o c : Nat) (l : List UInt8) (HL : Hid (l.length = 64)) (hc : 64 ≤ c) (w : World) (hr : Rd w w.heap.size (some ⟨b, o, none⟩) l) :
    Calls Try.prog 44 #[.slice (some ⟨b, o, none⟩) 64 c] w fun e w' => e = .returned (supV (tell l)) ∧ Below w.heap.size w w' := by
  have HLN : Hid ((l.drop 8).length = 56) := by show _ = _; rw [List.length_drop, HL.out]
  have HR8 : Hid (Rd w w.heap.size (some ⟨b, o + 8, none⟩) (l.drop 8)) := by
    have h := Rd.cut hr 8 56 (some ⟨b, o + 8, none⟩) (fun b' o' e _ => by injection e with e; injection e with e1 e2; subst e1 e2; rfl)
    rw [List.take_of_length_le (by rw [HLN.out]; exact Nat.le_refl _)] at h
    exact h
  clear hr
  go_enter Try.func44, Try.ntmps44
  go_wp2_with fail
  have hbx := below_two (below_new w (.cells (supC Sup.zero) 29)) (below_new _ (.cells (supC Sup.zero) 29))
  refine (new_any HLN (by omega) (by omega) (HR8.out.up hbx)).mono ?_
  rintro e w1 ⟨r, rfl, hcur, hb1, hr1⟩
  have HX : Hid (Below w.heap.size w w1 ∧ SupAt w1 w.heap.size 29 Sup.zero ∧ SupAt w1 (w.heap.size + 1) 29 Sup.zero ∧ w.heap.size + 1 < r) := Lib.hid (by
    refine ⟨below_two hbx hb1, ?_, ?_, ?_⟩
    · exact SupAt.below (SupAt.below (show SupAt _ w.heap.size 29 Sup.zero from heap_alloc_new w _) (below_new _ (.cells (supC Sup.zero) 29))) hb1
    · refine SupAt.below (show SupAt _ (w.heap.size + 1) 29 Sup.zero from ?_) hb1
      have h2 := heap_alloc_new (w.alloc (.cells (supC Sup.zero) 29)) (.cells (supC Sup.zero) 29)
      rw [World.size_alloc] at h2
      exact h2
    · simp only [World.size_alloc] at hr1; omega)
  have HCU := Lib.hid hcur
  clear hcur hb1 hr1 hbx
  go_wp2_with fail
  refine (fields_any w1 (w.heap.size + 1)).mono ?_
  rintro e w2 ⟨q, rfl, hf2, hb2, hq2⟩
  have HT : Hid (Tl w w2 r q (some ⟨b, o + 8, none⟩) (c - 8) (off 0 - 8) (l.drop 8) (partS l 0)) := Lib.hid (by
    obtain ⟨x1, x2, x3, x4⟩ := HX.out
    rw [part_zero]
    exact ⟨HR8.out, x2.below hb2, x3.below hb2, HCU.out.below hb2, hf2, x1.trans (hb2.mono x1.size), x4, Nat.lt_of_lt_of_le HCU.out.lt hq2⟩)
  clear HX HCU hf2 hb2 hq2 HR8 HLN
  go_wp2_with fail
  go_loopw [14] (fun u wr => ∃ j : Nat, u = .int .i64 (j : Int) ∧ j ≤ 7 ∧ Hid (Tl w wr r q (some ⟨b, o + 8, none⟩) (c - 8) (off j - 8) (l.drop 8) (partS l j))) (fun u _ => 7 - (intOf u).toNat)
  case atStart => exact ⟨0, rfl, by omega, HT⟩
  case round =>
    obtain ⟨j, rfl, hj, HTR⟩ := hrel
    clear HT
    rcases Nat.lt_or_ge j 7 with hlt | hge
    · obtain ⟨k0, k1, k2, k3⟩ := HTR.out.fld.cell hlt
      have hz8 := sz_bd j
      have HOF := Lib.hid (off_succ j hlt)
      have hob : 8 ≤ off j ∧ off j + sz j ≤ 42 := by
        have h7 : j = 0 ∨ j = 1 ∨ j = 2 ∨ j = 3 ∨ j = 4 ∨ j = 5 ∨ j = 6 := by omega
        rcases h7 with rfl | rfl | rfl | rfl | rfl | rfl | rfl <;> decide
      have HNM : Hid (numAt l j = wrap64 (valB (((l.drop 8).drop (off j - 8)).take (sz j)) : Int)) := Lib.hid (by
        unfold numAt
        rw [List.drop_drop, show 8 + (off j - 8) = off j from by omega])
      have HPS := Lib.hid (part_succ l j hlt)
      have hdj : decide ((j : Int) < 7) = true := decide_eq_true (by omega)
      obtain ⟨K, hK⟩ : ∃ K, K = off j - 8 := ⟨_, rfl⟩
      have HK1 : Hid (off (j + 1) - 8 = K + sz j) := Lib.hid (by rw [HOF.out]; omega)
      have hK2 : K + sz j ≤ 34 := by omega
      rw [← hK] at HTR HNM
      clear hK hob HOF
      generalize lo j = x1 at *
      generalize Sup.hi j = x2 at *
      generalize sz j = z at *
      go_upto_region 6 with fail
      obtain ⟨d0, d1, d2, d3⟩ := row_cells wr (.pointer (some ⟨w.heap.size + 1, j, none⟩)) (.int .i64 x1) (.int .i64 x2) (.int .i64 (z : Int))
      have HT0 := Lib.hid (HTR.out.below (below_new wr (.cells #[.pointer (some ⟨w.heap.size + 1, j, none⟩), .int .i64 x1, .int .i64 x2, .int .i64 (z : Int)] 75)))
      have hyl : r < wr.heap.size := HTR.out.cur.lt
      have hyz : wr.heap.size < (wr.alloc (.cells #[.pointer (some ⟨w.heap.size + 1, j, none⟩), .int .i64 x1, .int .i64 x2, .int .i64 (z : Int)] 75)).heap.size := by simp
      clear k0 k1 k2 k3 HTR d1 d2
      generalize wr.alloc (.cells #[.pointer (some ⟨w.heap.size + 1, j, none⟩), .int .i64 x1, .int .i64 x2, .int .i64 (z : Int)] 75) = W0 at *
      generalize wr.heap.size = y at *
      go_wp2_with fail
      refine (get_ok HT0.out.cur z (by omega) (by omega) (by omega)).mono ?_
      rintro e w3 ⟨rfl, hcur, hg⟩
      have HT3 := Lib.hid (HT0.out.read hcur hg)
      have f0 := (World.cell?_of_block (a := ⟨y, 0, none⟩) (hg.block y hyz (fun e => by injection e with e; omega))).trans d0
      have HV8 : Hid (valB (((l.drop 8).drop K).take z) < 18446744073709551616) := Lib.hid (valB_u64 _ (by rw [List.length_take]; omega))
      obtain ⟨v, hv⟩ : ∃ v, v = valB (((l.drop 8).drop K).take z) := ⟨_, rfl⟩
      obtain ⟨nv, hnv⟩ : ∃ nv, nv = numAt l j := ⟨_, rfl⟩
      have hwv : IntKind.i64.wrap (v : Int) = nv := by rw [hnv, HNM.out, ← hv, IntKind.wrap_i64, wrap64]
      rw [← hv]
      have hfz : w3.frozen? ⟨w.heap.size + 1, j, none⟩ = false := frozen_of_row _ _ _ _ _ HT3.out.own
      have hcz : ∃ u, w3.cell? ⟨w.heap.size + 1, j, none⟩ = some u := ⟨_, HT3.out.own.cell hlt⟩
      obtain ⟨u, hcu⟩ := hcz
      have HT4 := Lib.hid (HT3.out.put j nv (by rw [hnv]; exact HPS.out))
      clear hcur hg d0 d3 hyl hyz HT0 HPS HNM hv hnv HV8 HT3
      go_wp2_with fail
      go_roundw
      case rel => exact ⟨j + 1, by go_num, by omega, by rw [HK1.out]; exact HT4⟩
      case measure => simp [intOf]; omega
    · obtain rfl : j = 7 := by omega
      go_wp2_with (first
        | (refine wpList_load_sup tyP HTR.out.own rfl (.tmp 3) rfl rfl ?_)
        | (refine wpList_store_sup tyP HTR.out.res rfl (.tmp 2) (.tmp 31) rfl rfl _ rfl ?_; intro w5 hs5 hg5))
      refine bodyPost_ret (results_sup tyP rfl _ rfl hs5) rfl ⟨by rw [part_all], HTR.out.bel.grown hg5 HTR.out.bel.size (fun k hk => by injection hk with hk; omega)⟩

end Go.Proofs.Ytojidejlohpeaaa
