/-
  DeviceApart: the walk: two devices have nothing together; what is read may be changed, and nothing changes.
-/
import Derived.Test.YtaidjnpbjoncoaaFree
import Derived.Test.YtaidjnpbjoncoaaSince
namespace Go.Proofs.Ytaidjnpbjoncoaa
open Go.RowKit

/-- another device stays as it is -/
theorem Dr.pass {w W V : World} {p L M q L' M' : Nat} {D E : Dv} (hx : Dr w W q L' M' E) (hd : Dr w W p L M D) (ht : Turn (DS p L M) W V) (hdis : ∀ k, DS p L M k → ¬ DS q L' M' k) : Dr w V q L' M' E :=
  ⟨hx.dev.turn ht (fun h => hdis _ h (.inl rfl)) (fun h => hdis _ h (.inr (.inl rfl))) (fun h => hdis _ h (.inr (.inr rfl))),
    hx.bel.trans (ht.below (fun k hk => by rcases hk with rfl | rfl | rfl; exact hd.lo.1; exact hd.lo.2.1; exact hd.lo.2.2) hx.bel.size), hx.lo⟩
/-- a block of the call's own, and no block of the device's, is written -/
theorem Dr.own {w W V : World} {p L M g : Nat} {D : Dv} (h : Dr w W p L M D) (ht : Turn (· = g) W V) (hg : ¬ DS p L M g) (hw : w.heap.size ≤ g) : Dr w V p L M D :=
  ⟨h.dev.turn ht (fun e => hg (by rw [← e]; exact .inl rfl)) (fun e => hg (by rw [← e]; exact .inr (.inl rfl))) (fun e => hg (by rw [← e]; exact .inr (.inr rfl))),
    h.bel.trans (ht.below (fun k hk => by rw [hk]; exact hw) h.bel.size), h.lo⟩

/-- 64 bytes in a block, whatever they are -/
structure Any64 (w0 wr : World) (g : Nat) : Prop where
  row : ∃ cs : Array Value, wr.heap[g]? = some (.cells cs 60 (0, 0)) ∧ cs.size = 64 ∧ ∀ j, j < 64 → ∃ x : UInt8, cs[j]? = some (.int .u8 (x.toNat : Int))
  turn : Turn (· = g) w0 wr

theorem Any64.start {w0 : World} {g : Nat} {l : List UInt8} (h : w0.heap[g]? = some (.cells (secC l) 60 (0, 0))) (hl : l.length = 64) : Any64 w0 w0 g :=
  ⟨⟨_, h, size_secC hl, fun j hj => ⟨l[j]'(by omega), by rw [secC_get, List.getElem?_eq_getElem (by omega)]; rfl⟩⟩, Turn.refl _ _⟩
theorem Any64.set {w0 wr : World} {g : Nat} (h : Any64 w0 wr g) (i : Nat) (y : UInt8) (hi : i < 64) : Any64 w0 (wr.setCell ⟨g, i, none⟩ (.int .u8 (y.toNat : Int))) g := by
  obtain ⟨⟨cs, hg, hs, hc⟩, ht⟩ := h
  refine ⟨⟨_, heap_setCell_same _ _ _ _ _ _ hg, by simpa using hs, fun j hj => ?_⟩, ht.setCell _ _ (.inl rfl)⟩
  by_cases e : i = j
  · subst e
    exact ⟨y, by rw [Array.getElem?_setIfInBounds, if_pos rfl, if_pos (by omega)]⟩
  · obtain ⟨x, hx⟩ := hc j hj
    exact ⟨x, by rw [Array.getElem?_setIfInBounds, if_neg e]; exact hx⟩
theorem Any64.at_ {w0 wr : World} {g : Nat} (h : Any64 w0 wr g) (i : Nat) (hi : i < 64) : ∃ x : UInt8, wr.cell? ⟨g, i, none⟩ = some (.int .u8 (x.toNat : Int)) ∧ wr.frozen? ⟨g, i, none⟩ = false := by
  obtain ⟨⟨cs, hg, hs, hc⟩, _⟩ := h
  obtain ⟨x, hx⟩ := hc i hi
  exact ⟨x, by rw [cell_of_row _ _ _ _ _ _ hg]; exact hx, frozen_of_row _ _ _ _ _ hg⟩
theorem byte_up (x : UInt8) : ∃ y : UInt8, IntKind.u8.wrap ((x.toNat : Int) + 1) = (y.toNat : Int) := by
  refine ⟨x + 1, ?_⟩
  rw [UInt8.toNat_add]
  show _ = (((x.toNat + 1) % 256 : Nat) : Int)
  unfold IntKind.wrap
  show (if IntKind.u8.signed = true ∧ 2 ^ (IntKind.u8.bits - 1) ≤ ((x.toNat : Int) + 1) % 2 ^ IntKind.u8.bits then ((x.toNat : Int) + 1) % 2 ^ IntKind.u8.bits - 2 ^ IntKind.u8.bits else ((x.toNat : Int) + 1) % 2 ^ IntKind.u8.bits) = _
  rw [if_neg (fun h => by cases h.1)]
  show ((x.toNat : Int) + 1) % 256 = _
  omega

/-- the sector's first bytes are what was written -/
theorem sec_head {w : World} {g : Nat} {l : List UInt8} {t : TypeId} (hb : w.heap[g]? = some (.cells (secC (Dv.pad l)) t (0, 0))) : Rd w w.heap.size (some ⟨g, 0, none⟩) l := by
  refine .inr ⟨g, 0, rfl, lt_of_block hb, fun j x hx => ?_⟩
  rw [Nat.zero_add]
  have hj := (List.getElem?_eq_some_iff.1 hx).1
  exact secC_cell hb j x (by unfold Dv.pad; rw [List.getElem?_append_left hj]; exact hx)
theorem byte_info : (Try.prog.info? 5).map (fun i => (i.zero, i.size, i.bytes)) = some (some (.int .u8 0), 1, 1) := by kernel_rfl
/-- 'make([]byte, n)' -/
theorem made_zeros {w : World} {base : Nat} {A : Option Addr} {cap n : Nat} (h : w.ownsRow base 5 1 (.slice A n cap) n (madeCells (Value.cells (.int .u8 0)) (n * 1)).toList) : Owns w base A cap n (List.replicate n 0) := by
  have e : (madeCells (Value.cells (.int .u8 0)) (n * 1)).toList = byteVs (List.replicate n 0) := by
    unfold madeCells byteVs
    rw [Array.toList_map, Array.toList_range, List.map_replicate, Nat.mul_one, List.eq_replicate_iff]
    refine ⟨by simp, fun b hb => ?_⟩
    obtain ⟨i, _, rfl⟩ := List.mem_map.1 hb
    simp [Value.cells, byteV, Nat.mod_one]
  rw [e] at h
  exact h
theorem wp_make {P : Program} {o : Oper} {a : Act} {w w' : World} {K : Act → World → Prop} {Q : Exit → Act → World → Prop} (t : TypeId) (l c : Operand) (ho : o.op = .makeSlice t l c) {x y v : Value} (hl : a.eval l = x) (hc : a.eval c = y)
    (hrun : (Instr.makeSlice t x y).run P w = .ok v w') (h : K (a.put o.dst v) w') : o.wp P a w K Q := by
  unfold Oper.wp execOp
  simp only [ho, hl, hc, Sem.run_bind, Sem.run_pure, Result.andThen_ok, hrun]
  exact h
theorem sec_rd {w : World} {g : Nat} {l : List UInt8} {t : TypeId} (hb : w.heap[g]? = some (.cells (secC l) t (0, 0))) : Rd w w.heap.size (some ⟨g, 0, none⟩) l :=
  .inr ⟨g, 0, rfl, lt_of_block hb, fun j x hx => by rw [Nat.zero_add]; exact secC_cell hb j x hx⟩
theorem rd_conv {w V : World} {A : Option Addr} {n c : Nat} {l : List UInt8} (hr : Rd w w.heap.size A l) (hl : l.length = n) (hV : Since w V) : (convert 32 9 (.slice A n c)).run Try.prog V = .ok (.string ⟨l.toArray⟩) V :=
  run_string_rd (hr.up hV) _ _ Try.underlying32 Try.underlying5 Try.underlying9 n c hl

set_option maxHeartbeats 8000000 in
set_option maxRecDepth 100000 in
theorem apart_walk (A : Option Addr) (c len : Nat) (l : List UInt8) (at_ : Int) (w : World) (HL : Hid (l.length = len)) (hr : Rd w w.heap.size A l) : Calls Try.prog 7 #[.slice A len c, .int .i64 at_] w fun e w' => e = .returned (.bool true) ∧ Below w.heap.size w w' := by
  obtain ⟨k, hk4, hk⟩ := low3 at_
  have HAWK := Lib.hid (awake_any w)
  by_cases hlen : len ≤ 64
  · have d1 : decide (64 < (len : Int)) = false := decide_eq_false (by omega)
    go_enter Try.func7, Try.ntmps7
    go_wp2_with (go_at_call 9; refine HAWK.out.mono ?_; rintro e w0 ⟨rfl, hb0⟩; have HB0 := Lib.hid hb0; clear hb0)
    refine (newdr (w := w) HB0.out 4 (by omega) (by omega)).mono ?_
    rintro e w1 ⟨p, L, M, rfl, hd1, _, _, _, _⟩
    go_wp2_with fail
    refine (newdr (w := w) hd1.bel 4 (by omega) (by omega)).mono ?_
    rintro e w2 ⟨q, L', M', rfl, hx2, hb2, g1, g2, g3⟩
    have hdis : ∀ j, DS p L M j → ¬ DS q L' M' j := fun j h1 h2 => by
      have h3 := hd1.dev.lt
      rcases h1 with rfl | rfl | rfl <;> rcases h2 with e | e | e <;> omega
    have HDIS := Lib.hid hdis
    have HD2 := Lib.hid (hd1.below hb2)
    have HX2 := Lib.hid hx2
    clear hd1 hx2 hb2 hdis g1 g2 g3 HB0
    go_wp2_with fail
    refine (write_any HD2.out.dev (by show (0 : Nat) ≤ _; omega) (k : Int) (HD2.out.firm hr) len c HL.out).mono ?_
    rintro e w3 ⟨rfl, hd3, ht3⟩
    rw [(Dv.free_fresh 4).writeE (show k < 4 from hk4) (by rw [HL.out]; exact hlen)]
    rw [(Dv.free_fresh 4).write (show k < 4 from hk4) (by rw [HL.out]; exact hlen)] at hd3
    have HD3 := Lib.hid (HD2.out.turn hd3 ht3)
    have HX3 := Lib.hid (HX2.out.pass HD2.out ht3 HDIS.out)
    obtain ⟨D, hD⟩ : ∃ D, D = (Dv.fresh 4).more.put k (Dv.pad l) := ⟨_, rfl⟩
    rw [← hD] at HD3
    have hDr : D.read (k : Int) = Dv.pad l := by
      rw [hD, Dv.Free.read (by exact (Dv.free_fresh 4).more.put _ _) (show k < 4 from hk4)]
      show (if k = k then some (Dv.pad l) else none).getD _ = _
      rw [if_pos rfl]; rfl
    have HDR := Lib.hid hDr
    have H64 := Lib.hid (Dv.len_pad l (by rw [HL.out]; exact hlen))
    clear hd3 ht3 HD2 HX2 hD hDr
    go_wp2_with fail
    refine (read_sec HD3.out.dev (k : Int) HDR.out H64.out).mono ?_
    rintro e w4 ⟨g4, rfl, hg4, hb4, hw4⟩
    have hgd : ¬ DS p L M g4 := fun hk => by
      have h1 := HD3.out.dev.lt
      rcases hk with rfl | rfl | rfl <;> omega
    have hgx : ¬ DS q L' M' g4 := fun hk => by
      have h1 := HX3.out.dev.lt
      rcases hk with rfl | rfl | rfl <;> omega
    have hgw : w.heap.size ≤ g4 := Nat.le_trans HD3.out.bel.size hg4
    have HD4 := Lib.hid (HD3.out.below hw4)
    have HX4 := Lib.hid (HX3.out.below hw4)
    have HG := Lib.hid (show _ ∧ _ ∧ _ from ⟨hgd, hgx, hgw⟩)
    have HA4 := Lib.hid (Any64.start hb4 H64.out)
    clear hw4 HD3 HX3 hgd hgx hgw hg4 hb4
    go_wp2_with fail
    go_loopw [14] (fun u wr => ∃ (j : Nat), u = .int .i64 (j : Int) ∧ j ≤ 64 ∧ Hid (Any64 w4 wr g4)) (fun u _ => 64 - (intOf u).toNat)
    case atStart => exact ⟨0, rfl, by omega, HA4⟩
    case round =>
      obtain ⟨j, rfl, hj, HA⟩ := hrel
      rcases Nat.lt_or_ge j 64 with hlt | hge
      · obtain ⟨x, hcx, hfx⟩ := HA.out.at_ j hlt
        obtain ⟨y, hy⟩ := byte_up x
        have hdj : decide ((j : Int) < 64) = true := decide_eq_true (by omega)
        clear HA4
        go_wp2_with fail
        refine ⟨⟨j + 1, by go_num, by omega, Lib.hid (HA.out.set j y hlt)⟩, by simp [intOf]; omega⟩
      · obtain rfl : j = 64 := by omega
        have HD5 := Lib.hid (HD4.out.own HA.out.turn HG.out.1 HG.out.2.2)
        have HX5 := Lib.hid (HX4.out.own HA.out.turn HG.out.2.1 HG.out.2.2)
        clear HA4 HA HD4 HX4 HG
        go_wp2_with fail
        refine (read_sec HD5.out.dev (k : Int) HDR.out H64.out).mono ?_
        rintro e w6 ⟨g6, rfl, hg6, hb6, hw6⟩
        have HX6 := Lib.hid (HX5.out.below hw6)
        have HR6 := Lib.hid (sec_head hb6)
        have HB6 := Lib.hid (HD5.out.below hw6).bel
        clear hw6 HD5 HX5 hg6 hb6
        go_wp2_with fail
        refine (read_sec HX6.out.dev (k : Int) (l := Dv.zeros) (Dv.Free.read (Dv.free_fresh 4) (show k < 4 from hk4)) Dv.len_zeros).mono ?_
        rintro e w8 ⟨g8, rfl, hg8, hb8, hw8⟩
        have HX8 := Lib.hid (HX6.out.below hw8)
        have hconv1 : ∀ V, Since w8 V → (convert 32 9 (.slice (some ⟨g6, 0, none⟩) len 64)).run Try.prog V = .ok (.string ⟨l.toArray⟩) V := fun V hV => rd_conv (HR6.out.up hw8) HL.out hV
        have hconv2 : ∀ V, Since w8 V → (convert 32 9 (.slice A len c)).run Try.prog V = .ok (.string ⟨l.toArray⟩) V := fun V hV => rd_conv (hr.up HX8.out.bel) HL.out hV
        have hconv3 : ∀ V, Since w8 V → (convert 32 9 (.slice (some ⟨g8, 0, none⟩) 64 64)).run Try.prog V = .ok (.string ⟨Dv.zeros.toArray⟩) V := fun V hV => rd_conv (sec_rd hb8) Dv.len_zeros hV
        obtain ⟨i0, hi, hz0, hz1, hz2⟩ := info_parts byte_info
        obtain ⟨w8b, hmk, hown, hgr⟩ := run_make_full (P := Try.prog) w8.drew w8.heap.size 32 5 i0 (.int .u8 0) 1 Try.underlying32 hi hz0 hz1 .i64 .i64 64 (by rw [hz2]; omega) (by unfold maxLen; omega) (Nat.le_refl _)
        have hz := (made_zeros hown).read
        have hb8b : Below w8.drew.heap.size w8.drew w8b := (Below.refl _ _).grown hgr (Nat.le_refl _) (fun j hj => by cases hj)
        have hconv4 : ∀ V, Since w8b V → (convert 32 9 (.slice (some ⟨w8.heap.size, 0, none⟩) 64 64)).run Try.prog V = .ok (.string ⟨Dv.zeros.toArray⟩) V := fun V hV => rd_conv (l := Dv.zeros) hz Dv.len_zeros hV
        have HX9 : Hid (Dr w w8b q L' M' (.fresh 4)) := Lib.hid (HX8.out.below (show Below w8.heap.size w8 w8b from ((Below.refl _ _).drew).trans hb8b))
        have HMK := Lib.hid hmk
        have HKX : Hid ((Dv.fresh 4).keys = []) := Lib.hid (Dv.keys_none fun _ => rfl)
        clear hmk hown hgr hz hg8 hb8 hw8 HX6 HR6 HX8 hi hz0 hz1 hz2
        have hlz : (len : Int) ≤ 64 := by omega
        go_wp2_with fail
        refine wp_region_since (by kernel_rfl) ?_
        have hS : Since w8 (World.drew w8) := (Below.refl _ _).drew
        refine wpAnyH_take (i := 0) (oi := ⟨some 70, _, _, _, _, _⟩) (v := ?_) rfl (by kernel_rfl) (by kernel_rfl) (by kernel_rfl) (fun _ _ _ h => h) (Or.inl ⟨by rfl, ?_⟩) hS ?_
        rotate_left
        · intro W hW; go_simp; with_reducible rfl
        try simp only [Act.put, List.setIfInBounds_toArray, List.set_cons_zero, List.set_cons_succ]
        refine wpAnyH_take (i := 1) (oi := ⟨some 71, _, _, _, _, _⟩) (v := ?_) rfl (by kernel_rfl) (by kernel_rfl) (by kernel_rfl) (fun _ _ _ h => h) (Or.inl ⟨by rfl, ?_⟩) hS ?_
        rotate_left
        · intro W hW; go_simp; with_reducible rfl
        try simp only [Act.put, List.setIfInBounds_toArray, List.set_cons_zero, List.set_cons_succ]
        refine wpAnyH_take (i := 2) (oi := ⟨some 72, _, _, _, _, _⟩) (v := ?_) rfl (by kernel_rfl) (by kernel_rfl) (by kernel_rfl) (fun _ _ _ h => h) (Or.inl ⟨by rfl, ?_⟩) hS ?_
        rotate_left
        · intro W hW; go_simp; with_reducible rfl
        try simp only [Act.put, List.setIfInBounds_toArray, List.set_cons_zero, List.set_cons_succ]
        refine wpAnyH_take (i := 3) (oi := ⟨some 73, _, _, _, _, _⟩) (v := ?_) rfl (by kernel_rfl) (by kernel_rfl) (by kernel_rfl) (fun _ _ _ h => h) (Or.inl ⟨by rfl, ?_⟩) hS ?_
        rotate_left
        · intro W hW; go_simp; with_reducible rfl
        try simp only [Act.put, List.setIfInBounds_toArray, List.set_cons_zero, List.set_cons_succ]
        refine wpAnyH_take (i := 4) (oi := ⟨some 74, _, _, _, _, _⟩) (v := ?_) rfl (by kernel_rfl) (by kernel_rfl) (by kernel_rfl) (fun _ _ _ h => h) (Or.inl ⟨by rfl, ?_⟩) hS ?_
        rotate_left
        · intro W hW; go_simp; with_reducible rfl
        try simp only [Act.put, List.setIfInBounds_toArray, List.set_cons_zero, List.set_cons_succ]
        refine wpAnyH_take (i := 5) (oi := ⟨some 75, _, _, _, _, _⟩) (v := ?_) rfl (by kernel_rfl) (by kernel_rfl) (by kernel_rfl) (fun _ _ _ h => h) (Or.inl ⟨by rfl, ?_⟩) hS ?_
        rotate_left
        · intro W hW; go_simp; with_reducible rfl
        try simp only [Act.put, List.setIfInBounds_toArray, List.set_cons_zero, List.set_cons_succ]
        refine wpAnyH_take (i := 6) (oi := ⟨some 76, _, _, _, _, _⟩) (v := ?_) rfl (by kernel_rfl) (by kernel_rfl) (by kernel_rfl) (fun _ _ _ h => h) (Or.inl ⟨by rfl, ?_⟩) hS ?_
        rotate_left
        · intro W hW; go_simp; with_reducible rfl
        try simp only [Act.put, List.setIfInBounds_toArray, List.set_cons_zero, List.set_cons_succ]
        refine wpAnyH_take (i := 7) (oi := ⟨some 77, _, _, _, _, _⟩) (v := ?_) rfl (by kernel_rfl) (by kernel_rfl) (by kernel_rfl) (fun _ _ _ h => h) (Or.inl ⟨by rfl, ?_⟩) hS ?_
        rotate_left
        · intro W hW; go_simp; with_reducible rfl
        try simp only [Act.put, List.setIfInBounds_toArray, List.set_cons_zero, List.set_cons_succ]
        refine wpAnyH_take (i := 8) (oi := ⟨some 78, _, _, _, _, _⟩) (v := ?_) rfl (by kernel_rfl) (by kernel_rfl) (by kernel_rfl) (fun _ _ _ h => h) (Or.inl ⟨by rfl, ?_⟩) hS ?_
        rotate_left
        · intro W hW; go_simp; with_reducible rfl
        try simp only [Act.put, List.setIfInBounds_toArray, List.set_cons_zero, List.set_cons_succ]
        refine wpAnyH_take (i := 9) (oi := ⟨some 79, _, _, _, _, _⟩) (v := ?_) rfl (by kernel_rfl) (by kernel_rfl) (by kernel_rfl) (fun _ _ _ h => h) (Or.inl ⟨by rfl, ?_⟩) hS ?_
        rotate_left
        · intro W hW; go_simp; with_reducible rfl
        try simp only [Act.put, List.setIfInBounds_toArray, List.set_cons_zero, List.set_cons_succ]
        refine wpAnyH_take (i := 10) (oi := ⟨some 80, _, _, _, _, _⟩) (v := ?_) rfl (by kernel_rfl) (by kernel_rfl) (by kernel_rfl) (fun _ _ _ h => h) (Or.inl ⟨by rfl, ?_⟩) hS ?_
        rotate_left
        · intro W hW; go_simp; with_reducible rfl
        try simp only [Act.put, List.setIfInBounds_toArray, List.set_cons_zero, List.set_cons_succ]
        refine wpAnyH_take (i := 11) (oi := ⟨some 81, _, _, _, _, _⟩) (v := ?_) rfl (by kernel_rfl) (by kernel_rfl) (by kernel_rfl) (fun _ _ _ h => h) (Or.inl ⟨by rfl, ?_⟩) hS ?_
        rotate_left
        · intro W hW; go_simp; with_reducible rfl
        try simp only [Act.put, List.setIfInBounds_toArray, List.set_cons_zero, List.set_cons_succ]
        refine wpAnyH_take (i := 12) (oi := ⟨some 82, _, _, _, _, _⟩) (v := ?_) rfl (by kernel_rfl) (by kernel_rfl) (by kernel_rfl) (fun _ _ _ h => h) (Or.inl ⟨by rfl, ?_⟩) hS ?_
        rotate_left
        · intro W hW; go_simp; with_reducible rfl
        try simp only [Act.put, List.setIfInBounds_toArray, List.set_cons_zero, List.set_cons_succ]
        refine wpAnyH_take (i := 13) (oi := ⟨some 83, _, _, _, _, _⟩) (v := ?_) rfl (by kernel_rfl) (by kernel_rfl) (by kernel_rfl) (fun _ _ _ h => h) (Or.inl ⟨by rfl, ?_⟩) hS ?_
        rotate_left
        · intro W hW; go_simp; with_reducible rfl
        try simp only [Act.put, List.setIfInBounds_toArray, List.set_cons_zero, List.set_cons_succ]
        refine wpAnyH_take (i := 14) (oi := ⟨some 84, _, _, _, _, _⟩) (v := ?_) rfl (by kernel_rfl) (by kernel_rfl) (by kernel_rfl) (fun _ _ _ h => h) (Or.inl ⟨by rfl, ?_⟩) hS ?_
        rotate_left
        · intro W hW; go_simp; with_reducible rfl
        try simp only [Act.put, List.setIfInBounds_toArray, List.set_cons_zero, List.set_cons_succ]
        refine wpAnyH_take (i := 15) (oi := ⟨some 85, _, _, _, _, _⟩) (v := ?_) rfl (by kernel_rfl) (by kernel_rfl) (by kernel_rfl) (fun _ _ _ h => h) (Or.inl ⟨by rfl, ?_⟩) hS ?_
        rotate_left
        · intro W hW; go_simp; with_reducible rfl
        try simp only [Act.put, List.setIfInBounds_toArray, List.set_cons_zero, List.set_cons_succ]
        refine wpAnyH_take (i := 16) (oi := ⟨some 86, _, _, _, _, _⟩) (v := ?_) rfl (by kernel_rfl) (by kernel_rfl) (by kernel_rfl) (fun _ _ _ h => h) (Or.inl ⟨by rfl, ?_⟩) hS ?_
        rotate_left
        · intro W hW; go_simp; with_reducible rfl
        try simp only [Act.put, List.setIfInBounds_toArray, List.set_cons_zero, List.set_cons_succ]
        refine wpAnyH_take (i := 17) (oi := ⟨some 87, _, _, _, _, _⟩) (v := ?_) rfl (by kernel_rfl) (by kernel_rfl) (by kernel_rfl) (fun _ _ _ h => h) (Or.inl ⟨by rfl, ?_⟩) hS ?_
        rotate_left
        · intro W hW; go_simp; with_reducible rfl
        try simp only [Act.put, List.setIfInBounds_toArray, List.set_cons_zero, List.set_cons_succ]
        refine wpAnyH_take (i := 18) (oi := ⟨some 88, _, _, _, _, _⟩) (v := ?_) rfl (by kernel_rfl) (by kernel_rfl) (by kernel_rfl) (fun _ _ _ h => h) (Or.inl ⟨by rfl, ?_⟩) hS ?_
        rotate_left
        · intro W hW; go_simp; with_reducible rfl
        try simp only [Act.put, List.setIfInBounds_toArray, List.set_cons_zero, List.set_cons_succ]
        refine wpAnyH_take (i := 19) (oi := ⟨some 89, _, _, _, _, _⟩) (v := ?_) rfl (by kernel_rfl) (by kernel_rfl) (by kernel_rfl) (fun _ _ _ h => h) (Or.inl ⟨by rfl, ?_⟩) hS ?_
        rotate_left
        · intro W hW; go_simp; with_reducible rfl
        try simp only [Act.put, List.setIfInBounds_toArray, List.set_cons_zero, List.set_cons_succ]
        refine wpAnyH_take (i := 20) (oi := ⟨some 90, _, _, _, _, _⟩) (v := ?_) rfl (by kernel_rfl) (by kernel_rfl) (by kernel_rfl) (fun _ _ _ h => h) (Or.inl ⟨by rfl, ?_⟩) hS ?_
        rotate_left
        · intro W hW; go_simp; with_reducible rfl
        try simp only [Act.put, List.setIfInBounds_toArray, List.set_cons_zero, List.set_cons_succ]
        refine wpAnyH_take (i := 21) (oi := ⟨some 91, _, _, _, _, _⟩) (v := ?_) rfl (by kernel_rfl) (by kernel_rfl) (by kernel_rfl) (fun _ _ _ h => h) (Or.inl ⟨by rfl, ?_⟩) hS ?_
        rotate_left
        · intro W hW; go_simp; with_reducible rfl
        try simp only [Act.put, List.setIfInBounds_toArray, List.set_cons_zero, List.set_cons_succ]
        refine wpAnyH_take (i := 22) (oi := ⟨some 92, _, _, _, _, _⟩) (v := ?_) rfl (by kernel_rfl) (by kernel_rfl) (by kernel_rfl) (fun _ _ _ h => h) (Or.inl ⟨by rfl, ?_⟩) hS ?_
        rotate_left
        · intro W hW; go_simp; with_reducible rfl
        try simp only [Act.put, List.setIfInBounds_toArray, List.set_cons_zero, List.set_cons_succ]
        refine wpAnyH_take (i := 23) (oi := ⟨some 93, _, _, _, _, _⟩) (v := ?_) rfl (by kernel_rfl) (by kernel_rfl) (by kernel_rfl) (fun _ _ _ h => h) (Or.inl ⟨by rfl, ?_⟩) hS ?_
        rotate_left
        · intro W hW; go_simp; with_reducible rfl
        try simp only [Act.put, List.setIfInBounds_toArray, List.set_cons_zero, List.set_cons_succ]
        refine wpAnyH_take (i := 24) (oi := ⟨some 94, _, _, _, _, _⟩) (v := ?_) rfl (by kernel_rfl) (by kernel_rfl) (by kernel_rfl) (fun _ _ _ h => h) (Or.inl ⟨by rfl, ?_⟩) hS ?_
        rotate_left
        · intro W hW; go_simp; with_reducible rfl
        try simp only [Act.put, List.setIfInBounds_toArray, List.set_cons_zero, List.set_cons_succ]
        refine wpAnyH_take (i := 25) (oi := ⟨some 95, _, _, _, _, _⟩) (v := ?_) rfl (by kernel_rfl) (by kernel_rfl) (by kernel_rfl) (fun _ _ _ h => h) (Or.inl ⟨by rfl, ?_⟩) hS ?_
        rotate_left
        · intro W hW; go_simp; with_reducible rfl
        try simp only [Act.put, List.setIfInBounds_toArray, List.set_cons_zero, List.set_cons_succ]
        refine wpAnyH_take (i := 26) (oi := ⟨some 96, _, _, _, _, _⟩) (v := ?_) rfl (by kernel_rfl) (by kernel_rfl) (by kernel_rfl) (fun _ _ _ h => h) (Or.inl ⟨by rfl, ?_⟩) hS ?_
        rotate_left
        · intro W hW; go_simp; with_reducible rfl
        try simp only [Act.put, List.setIfInBounds_toArray, List.set_cons_zero, List.set_cons_succ]
        refine wpAnyH_take (i := 27) (oi := ⟨some 97, _, _, _, _, _⟩) (v := ?_) rfl (by kernel_rfl) (by kernel_rfl) (by kernel_rfl) (fun _ _ _ h => h) (Or.inl ⟨by rfl, ?_⟩) hS ?_
        rotate_left
        · intro W hW; go_simp; with_reducible rfl
        try simp only [Act.put, List.setIfInBounds_toArray, List.set_cons_zero, List.set_cons_succ]
        refine wpAnyH_take (i := 28) (oi := ⟨some 98, _, _, _, _, _⟩) (v := ?_) rfl (by kernel_rfl) (by kernel_rfl) (by kernel_rfl) (fun _ _ _ h => h) (Or.inl ⟨by rfl, ?_⟩) hS ?_
        rotate_left
        · intro W hW; go_simp; with_reducible rfl
        try simp only [Act.put, List.setIfInBounds_toArray, List.set_cons_zero, List.set_cons_succ]
        refine wpAnyH_take (i := 29) (oi := ⟨some 99, _, _, _, _, _⟩) (v := ?_) rfl (by kernel_rfl) (by kernel_rfl) (by kernel_rfl) (fun _ _ _ h => h) (Or.inl ⟨by rfl, ?_⟩) hS ?_
        rotate_left
        · intro W hW; go_simp; with_reducible rfl
        try simp only [Act.put, List.setIfInBounds_toArray, List.set_cons_zero, List.set_cons_succ]
        refine wpAnyH_take (i := 30) (oi := ⟨some 100, _, _, _, _, _⟩) (v := ?_) rfl (by kernel_rfl) (by kernel_rfl) (by kernel_rfl) (fun _ _ _ h => h) (Or.inl ⟨by rfl, ?_⟩) hS ?_
        rotate_left
        · intro W hW; go_simp; with_reducible rfl
        try simp only [Act.put, List.setIfInBounds_toArray, List.set_cons_zero, List.set_cons_succ]
        refine wpAnyH_take (i := 31) (oi := ⟨some 101, _, _, _, _, _⟩) (v := ?_) rfl (by kernel_rfl) (by kernel_rfl) (by kernel_rfl) (fun _ _ _ h => h) (Or.inl ⟨by rfl, ?_⟩) hS ?_
        rotate_left
        · intro W hW; go_simp; with_reducible rfl
        try simp only [Act.put, List.setIfInBounds_toArray, List.set_cons_zero, List.set_cons_succ]
        refine wpAnyH_take (i := 32) (oi := ⟨some 102, _, _, _, _, _⟩) (v := ?_) rfl (by kernel_rfl) (by kernel_rfl) (by kernel_rfl) (fun _ _ _ h => h) (Or.inl ⟨by rfl, ?_⟩) hS ?_
        rotate_left
        · intro W hW; go_simp; with_reducible rfl
        try simp only [Act.put, List.setIfInBounds_toArray, List.set_cons_zero, List.set_cons_succ]
        refine wpAnyH_take (i := 33) (oi := ⟨some 103, _, _, _, _, _⟩) (v := ?_) rfl (by kernel_rfl) (by kernel_rfl) (by kernel_rfl) (fun _ _ _ h => h) (Or.inl ⟨by rfl, ?_⟩) hS ?_
        rotate_left
        · intro W hW; go_simp; with_reducible rfl
        try simp only [Act.put, List.setIfInBounds_toArray, List.set_cons_zero, List.set_cons_succ]
        refine wpAnyH_take (i := 34) (oi := ⟨some 104, _, _, _, _, _⟩) (v := ?_) rfl (by kernel_rfl) (by kernel_rfl) (by kernel_rfl) (fun _ _ _ h => h) (Or.inl ⟨by rfl, ?_⟩) hS ?_
        rotate_left
        · intro W hW; go_simp; with_reducible rfl
        try simp only [Act.put, List.setIfInBounds_toArray, List.set_cons_zero, List.set_cons_succ]
        -- operation 35: a step
        refine wpAnyH_ready (rs := [35]) (by kernel_rfl) (by simp) ?_
        refine AllReadyH.cons (o := ⟨some 105, _, _, _, _, _⟩) rfl (fun Kr hKr => ?_) AllReadyH.nil
        rw [if_pos (by kernel_rfl)]
        refine wp_make 32 _ _ rfl rfl rfl HMK.out ?_
        show Kr _ _
        refine hKr.out _ _ ?_ (fun _ => ?_)
        · exact since_trans hS hb8b
        clear hKr Kr
        refine wpAnyH_since (since_trans hS hb8b) ?_
        clear hS
        have hS : Since w8b w8b := Below.refl _ _
        try simp only [Act.put, List.setIfInBounds_toArray, List.set_cons_zero, List.set_cons_succ]
        refine wpAnyH_take (i := 36) (oi := ⟨some 106, _, _, _, _, _⟩) (v := ?_) rfl (by kernel_rfl) (by kernel_rfl) (by kernel_rfl) (fun _ _ _ h => h) (Or.inl ⟨by rfl, ?_⟩) hS ?_
        rotate_left
        · intro W hW; go_simp; with_reducible rfl
        try simp only [Act.put, List.setIfInBounds_toArray, List.set_cons_zero, List.set_cons_succ]
        refine wpAnyH_take (i := 37) (oi := ⟨some 107, _, _, _, _, _⟩) (v := ?_) rfl (by kernel_rfl) (by kernel_rfl) (by kernel_rfl) (fun _ _ _ h => h) (Or.inl ⟨by rfl, ?_⟩) hS ?_
        rotate_left
        · intro W hW; go_simp; with_reducible rfl
        try simp only [Act.put, List.setIfInBounds_toArray, List.set_cons_zero, List.set_cons_succ]
        refine wpAnyH_take (i := 38) (oi := ⟨some 108, _, _, _, _, _⟩) (v := ?_) rfl (by kernel_rfl) (by kernel_rfl) (by kernel_rfl) (fun _ _ _ h => h) (Or.inl ⟨by rfl, ?_⟩) hS ?_
        rotate_left
        · intro W hW; go_simp; with_reducible rfl
        try simp only [Act.put, List.setIfInBounds_toArray, List.set_cons_zero, List.set_cons_succ]
        refine wpAnyH_take (i := 39) (oi := ⟨some 109, _, _, _, _, _⟩) (v := ?_) rfl (by kernel_rfl) (by kernel_rfl) (by kernel_rfl) (fun _ _ _ h => h) (Or.inl ⟨by rfl, ?_⟩) hS ?_
        rotate_left
        · intro W hW; go_simp; with_reducible rfl
        try simp only [Act.put, List.setIfInBounds_toArray, List.set_cons_zero, List.set_cons_succ]
        refine wpAnyH_take (i := 40) (oi := ⟨some 110, _, _, _, _, _⟩) (v := ?_) rfl (by kernel_rfl) (by kernel_rfl) (by kernel_rfl) (fun _ _ _ h => h) (Or.inl ⟨by rfl, ?_⟩) hS ?_
        rotate_left
        · intro W hW; go_simp; with_reducible rfl
        try simp only [Act.put, List.setIfInBounds_toArray, List.set_cons_zero, List.set_cons_succ]
        -- operation 41: a call
        refine wpAnyH_ready (rs := [41]) (by kernel_rfl) (by simp) ?_
        refine AllReadyH.cons (o := ⟨some 111, _, _, _, _, _⟩) rfl (fun Kr hKr => ?_) AllReadyH.nil
        go_simp
        refine (cached_any HX9.out.dev (by show (0 : Nat) ≤ _; omega)).mono ?_
        rintro e w9 ⟨A9, n9, c9, rfl, hn9, _, hb9⟩
        rw [HKX.out] at hn9
        obtain rfl : n9 = 0 := hn9
        show Kr _ _
        refine hKr.out _ _ ?_ (fun _ => ?_)
        · exact since_trans hS hb9
        clear hKr Kr
        refine wpAnyH_since (since_trans hS hb9) ?_
        clear hS
        have hS : Since w9 w9 := Below.refl _ _
        try simp only [Act.put, List.setIfInBounds_toArray, List.set_cons_zero, List.set_cons_succ]
        refine wpAnyH_take (i := 42) (oi := ⟨some 112, _, _, _, _, _⟩) (v := ?_) rfl (by kernel_rfl) (by kernel_rfl) (by kernel_rfl) (fun _ _ _ h => h) (Or.inl ⟨by rfl, ?_⟩) hS ?_
        rotate_left
        · intro W hW; go_simp; with_reducible rfl
        try simp only [Act.put, List.setIfInBounds_toArray, List.set_cons_zero, List.set_cons_succ]
        refine wpAnyH_take (i := 43) (oi := ⟨some 113, _, _, _, _, _⟩) (v := ?_) rfl (by kernel_rfl) (by kernel_rfl) (by kernel_rfl) (fun _ _ _ h => h) (Or.inl ⟨by rfl, ?_⟩) hS ?_
        rotate_left
        · intro W hW; go_simp; with_reducible rfl
        try simp only [Act.put, List.setIfInBounds_toArray, List.set_cons_zero, List.set_cons_succ]
        refine wpAnyH_take (i := 44) (oi := ⟨some 114, _, _, _, _, _⟩) (v := ?_) rfl (by kernel_rfl) (by kernel_rfl) (by kernel_rfl) (fun _ _ _ h => h) (Or.inl ⟨by rfl, ?_⟩) hS ?_
        rotate_left
        · intro W hW; go_simp; with_reducible rfl
        try simp only [Act.put, List.setIfInBounds_toArray, List.set_cons_zero, List.set_cons_succ]
        refine wpAnyH_take (i := 45) (oi := ⟨some 115, _, _, _, _, _⟩) (v := ?_) rfl (by kernel_rfl) (by kernel_rfl) (by kernel_rfl) (fun _ _ _ h => h) (Or.inl ⟨by rfl, ?_⟩) hS ?_
        rotate_left
        · intro W hW; go_simp; with_reducible rfl
        try simp only [Act.put, List.setIfInBounds_toArray, List.set_cons_zero, List.set_cons_succ]
        refine wpAnyH_take (i := 46) (oi := ⟨some 116, _, _, _, _, _⟩) (v := ?_) rfl (by kernel_rfl) (by kernel_rfl) (by kernel_rfl) (fun _ _ _ h => h) (Or.inl ⟨by rfl, ?_⟩) hS ?_
        rotate_left
        · intro W hW; go_simp; with_reducible rfl
        try simp only [Act.put, List.setIfInBounds_toArray, List.set_cons_zero, List.set_cons_succ]
        -- operation 47: a call
        refine wpAnyH_ready (rs := [47]) (by kernel_rfl) (by simp) ?_
        refine AllReadyH.cons (o := ⟨some 117, _, _, _, _, _⟩) rfl (fun Kr hKr => ?_) AllReadyH.nil
        go_simp
        refine (spent_any (HX9.out.below hb9).dev).mono ?_
        rintro e w10 ⟨rfl, hw⟩
        replace hw := hw.symm
        subst hw
        rw [show (Dv.fresh 4).spent = 0 from rfl]
        show Kr _ _
        refine hKr.out _ _ ?_ (fun _ => ?_)
        · exact since_trans hS (Below.refl _ _)
        clear hKr Kr
        refine wpAnyH_since (since_trans hS (Below.refl _ _)) ?_
        clear hS
        have hS : Since w9 w9 := Below.refl _ _
        try simp only [Act.put, List.setIfInBounds_toArray, List.set_cons_zero, List.set_cons_succ]
        refine wpAnyH_take (i := 48) (oi := ⟨some 118, _, _, _, _, _⟩) (v := ?_) rfl (by kernel_rfl) (by kernel_rfl) (by kernel_rfl) (fun _ _ _ h => h) (Or.inl ⟨by rfl, ?_⟩) hS ?_
        rotate_left
        · intro W hW; go_simp; with_reducible rfl
        try simp only [Act.put, List.setIfInBounds_toArray, List.set_cons_zero, List.set_cons_succ]
        refine wpAnyH_take (i := 49) (oi := ⟨some 119, _, _, _, _, _⟩) (v := ?_) rfl (by kernel_rfl) (by kernel_rfl) (by kernel_rfl) (fun _ _ _ h => h) (Or.inl ⟨by rfl, ?_⟩) hS ?_
        rotate_left
        · intro W hW; go_simp; with_reducible rfl
        try simp only [Act.put, List.setIfInBounds_toArray, List.set_cons_zero, List.set_cons_succ]
        refine wpAnyH_take (i := 50) (oi := ⟨some 4, _, _, _, _, _⟩) (v := ?_) rfl (by kernel_rfl) (by kernel_rfl) (by kernel_rfl) (fun _ _ _ h => h) (Or.inl ⟨by rfl, ?_⟩) hS ?_
        rotate_left
        · intro W hW; go_simp; with_reducible rfl
        try simp only [Act.put, List.setIfInBounds_toArray, List.set_cons_zero, List.set_cons_succ]
        refine wpAnyH_done (by kernel_rfl) ?_ _
        go_wp2_with fail
        go_ret
        exact ⟨rfl, (HX9.out.below hb9).bel⟩
  · have d1 : decide (64 < (len : Int)) = true := decide_eq_true (by omega)
    go_enter Try.func7, Try.ntmps7
    go_wp2_with (go_at_call 9; refine HAWK.out.mono ?_; rintro e w0 ⟨rfl, hb0⟩; have HB0 := Lib.hid hb0; clear hb0)
    go_ret
    exact ⟨rfl, HB0.out⟩

end Go.Proofs.Ytaidjnpbjoncoaa
