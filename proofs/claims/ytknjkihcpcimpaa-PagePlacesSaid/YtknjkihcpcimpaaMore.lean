/-
  Sums of any bytes, wherever they lie: the program's own and the document's.
-/
import Derived.Test.YtknjkihcpcimpaaTable
import Derived.Test.YtknjkihcpcimpaaMem
namespace Go.Proofs.Ytknjkihcpcimpaa
set_option maxRecDepth 100000
open Go.RowKit Crc

theorem word_not (s : BitVec 32) : bits .xor .u32 IntKind.u32.max (word s) = word (~~~ s) := by
  rw [show IntKind.u32.max = word (BitVec.allOnes 32) from by decide, word_xor, BitVec.allOnes_xor]

theorem word_notn (s : BitVec 32) : bits .xor .u32 (word s) 4294967295 = word (~~~ s) := by
  refine (word_xor s (BitVec.allOnes 32)).trans ?_
  rw [BitVec.xor_allOnes]

/-- the place of the table for a number and a byte -/
theorem index_at (v : BitVec 32) (x : UInt8) : bits .xor .u8 (word v % 256) (x.toNat : Int) = ((v.toNat % 256 ^^^ x.toNat : Nat) : Int) := by
  have hx : x.toNat < 256 := x.toNat_lt
  rw [← u8_xor_nat _ _ (by omega) hx]
  rfl
theorem index_lt (v : BitVec 32) (x : UInt8) : v.toNat % 256 ^^^ x.toNat < 256 := by
  have hx : x.toNat < 256 := x.toNat_lt
  exact Nat.xor_lt_two_pow (n := 8) (by omega) hx

set_option maxHeartbeats 1000000 in
set_option maxRecDepth 100000 in
theorem more_any (s : BitVec 32) (A : Option Addr) (c L : Nat) (l : List UInt8) (HL : Hid (l.length = L)) (w : World) (hr : Rd w w.heap.size A l) (hl : L ≤ 1099511627776) :
    Calls Try.prog 58 #[.int .u32 (word s), .slice A L c] w fun e w' => e = .returned (.int .u32 (word (more s l))) ∧ Below w.heap.size w w' := by
  have hi0 : ((Try.prog.info? 89).map (fun i => i.zero.map (·.cells))) = some (some (arr fun _ => 0#32)) := by kernel_rfl
  have hi1 : ((Try.prog.info? 89).map (·.size)) = some 256 := by kernel_rfl
  have HI0 := Lib.hid hi0
  have HI1 := Lib.hid hi1
  have hn := word_not s
  obtain ⟨hs0, hs1⟩ := word_bd s
  generalize hS : ~~~ s = s0 at hn
  have HS := Lib.hid hS
  clear hi0 hi1 hS
  go_enter Try.func58, Try.ntmps58
  go_wp2_with (first
    | (go_at_call 61; refine (table_any _).mono ?_; rintro e w1 ⟨rfl, hb1⟩)
    | (with_reducible refine wpList_alloc_zero (by rfl) 89 (by rfl) _ HI0.out ?_)
    | (refine wpList_store_row rfl 89 (.tmp 5) (.tmp 9) rfl w1.heap.size (arr tab) rfl rfl _ _ (heap_alloc_new _ _) (by rw [size_arr]; exact HI1.out) (by rw [size_arr, size_arr]) (arr_one _) ?_))
  have hbW : Below w.heap.size w ((w1.alloc (.cells (arr fun _ => 0#32) 89)).setRow w1.heap.size (arr tab)) := below_setRow (hb1.alloc hb1.size _) hb1.size _
  have hTab : ((w1.alloc (.cells (arr fun _ => 0#32) 89)).setRow w1.heap.size (arr tab)).heap[w1.heap.size]? = some (.cells (arr tab) 89) := setRow_heap _ _ _ _ _ _ (heap_alloc_new _ _)
  generalize (w1.alloc (.cells (arr fun _ => 0#32) 89)).setRow w1.heap.size (arr tab) = W at hbW hTab
  generalize w1.heap.size = g at hTab
  have hrW := hr.below hbW
  have HB := Lib.hid hbW
  have HT := Lib.hid hTab
  clear hbW hTab hb1 hr hn
  go_loop [6, 14] (fun v k => ∃ (u : BitVec 32) (j : Nat), v = .int .u32 (word u) ∧ k = .int .i64 (j : Int) ∧ j ≤ L ∧ Hid (u = st s0 (l.take j))) (fun _ k => L - (intOf k).toNat)
  case atStart => exact ⟨s0, 0, rfl, rfl, by omega, Lib.hid rfl⟩
  case round =>
    obtain ⟨u, j, rfl, rfl, hj, HU⟩ := hrel
    obtain ⟨hu0, hu1⟩ := word_bd u
    rcases Nat.lt_or_ge j L with hlt | hge
    · have hjl : j < l.length := by rw [HL.out]; exact hlt
      obtain ⟨b, o, rfl, hbb, hc⟩ := hrW.cell hjl
      generalize hX : l[j] = x at hc
      replace hc : W.cell? ⟨b, o + j, none⟩ = some (.int .u8 (x.toNat : Int)) := hc
      have hix := index_at u x
      have hkl := index_lt u x
      have hst := step_tab u x
      generalize hK : u.toNat % 256 ^^^ x.toNat = k at hix hkl hst
      have hct : W.cell? ⟨g, k, none⟩ = some (.int .u32 (word (tab k))) := (cell_of_row _ _ _ _ _ _ HT.out).trans (get_arr tab k hkl)
      have hd8 := word_div256 u
      have hx := word_xor (tab k) (u >>> 8)
      rw [← hst] at hx
      have HX := Lib.hid hX
      clear hX hK hst
      go_wp2_with fail
      go_round
      case rel =>
        refine ⟨_, j + 1, rfl, by go_num, by omega, ?_⟩
        show _ = _
        rw [List.take_succ_eq_append_getElem hjl, st_snoc, ← HU.out, HX.out]
      case measure => simp [intOf]; omega
    · obtain rfl : j = L := by omega
      have hn2 := word_not u
      go_wp2_with fail
      go_ret
      refine ⟨ret_u32 ?_, HB.out⟩
      rw [HU.out, List.take_of_length_le (by rw [HL.out]; exact Nat.le_refl _), ← HS.out]
      rfl

set_option maxHeartbeats 400000 in
theorem of_any (A : Option Addr) (c L : Nat) (l : List UInt8) (HL : Hid (l.length = L)) (w : World) (hr : Rd w w.heap.size A l) (hl : L ≤ 1099511627776) :
    Calls Try.prog 55 #[.slice A L c] w fun e w' => e = .returned (.int .u32 (word (ofB l))) ∧ Below w.heap.size w w' := by
  have h := more_any 0#32 A c L l HL w hr hl
  go_enter Try.func55, Try.ntmps55
  go_wp2_with (go_at_call 58; refine (Calls.mono h ?_); rintro e w1 ⟨rfl, hb1⟩)
  go_ret
  exact ⟨rfl, hb1⟩

set_option maxHeartbeats 1000000 in
theorem refmore_any (s : BitVec 32) (A : Option Addr) (c L : Nat) (l : List UInt8) (HL : Hid (l.length = L)) (w : World) (hr : Rd w w.heap.size A l) (hl : L ≤ 1099511627776) :
    Calls Try.prog 56 #[.int .u32 (word s), .slice A L c] w fun e w' => e = .returned (.int .u32 (word (more s l))) ∧ w = w' := by
  have hn := word_notn s
  obtain ⟨hs0, hs1⟩ := word_bd s
  generalize hS : ~~~ s = s0 at hn
  have HS := Lib.hid hS
  clear hS
  go_enter Try.func56, Try.ntmps56
  go_wp2_with fail
  clear hn
  go_loopw [5, 6] (fun v k wr => ∃ (u : BitVec 32) (j : Nat), v = .int .u32 (word u) ∧ k = .int .i64 (j : Int) ∧ j ≤ L ∧ Hid (u = st s0 (l.take j)) ∧ wr = w) (fun _ k _ => L - (intOf k).toNat)
  case atStart => exact ⟨s0, 0, rfl, rfl, by omega, Lib.hid rfl, rfl⟩
  case round =>
    obtain ⟨u, j, rfl, rfl, hj, HU, rfl⟩ := hrel
    obtain ⟨hu0, hu1⟩ := word_bd u
    rcases Nat.lt_or_ge j L with hlt | hge
    · have hjl : j < l.length := by rw [HL.out]; exact hlt
      obtain ⟨b, o, rfl, hbb, hc⟩ := hr.cell hjl
      generalize hX : l[j] = x at hc
      replace hc : wr.cell? ⟨b, o + j, none⟩ = some (.int .u8 (x.toNat : Int)) := hc
      have hx := word_xor u (wide x)
      have hxw : word (wide x) = (x.toNat : Int) := by
        have hx : x.toNat < 256 := x.toNat_lt
        unfold word wide
        rw [BitVec.toNat_ofNat, Nat.mod_eq_of_lt (by omega)]
      rw [hxw] at hx
      obtain ⟨y, HY⟩ : ∃ y, Hid (u ^^^ wide x = y) := ⟨_, Lib.hid rfl⟩
      rw [HY.out] at hx
      have hdec : decide ((j : Int) < (L : Int)) = true := decide_eq_true (by omega)
      have hxm : (x.toNat : Int) % 4294967296 = (x.toNat : Int) := by have : x.toNat < 256 := x.toNat_lt; omega
      have HX := Lib.hid hX
      clear hX hxw
      go_wp2_with fail
      clear hdec hx hc hxm
      go_loopw [5, 7] (fun z k wq => ∃ (v : BitVec 32) (m : Nat), z = .int .u32 (word v) ∧ k = .int .i64 (m : Int) ∧ m ≤ 8 ∧ Hid (v = halfs m y) ∧ wq = wr) (fun _ k _ => 8 - (intOf k).toNat)
      case atStart => exact ⟨y, 0, rfl, rfl, by omega, Lib.hid rfl, rfl⟩
      case round =>
        obtain ⟨v, m, rfl, rfl, hm, HV, rfl⟩ := hrel
        rcases Nat.lt_or_ge m 8 with hm8 | hm8
        · go_wp2_with (go_at_call 59; refine (refhalf_any v _).mono ?_; rintro e w' ⟨rfl, rfl⟩)
          go_roundw
          case rel => exact ⟨half v, m + 1, rfl, by go_num, by omega, Lib.hid (by rw [HV.out]; exact (halfs_succ m y).symm), by trivial⟩
          case measure => simp [intOf]; omega
        · obtain rfl : m = 8 := by omega
          go_wp2_with fail
          refine ⟨⟨v, j + 1, rfl, by go_num, by omega, ?_, by trivial⟩, by simp [intOf]; omega⟩
          show _ = _
          rw [List.take_succ_eq_append_getElem hjl, st_snoc, ← HU.out, HX.out, HV.out, ← HY.out]
          rfl
    · obtain rfl : j = L := by omega
      have hn2 := word_notn u
      go_wp2_with fail
      go_ret
      refine ⟨ret_u32 ?_, rfl⟩
      rw [HU.out, List.take_of_length_le (by rw [HL.out]; exact Nat.le_refl _), ← HS.out]
      rfl

set_option maxHeartbeats 400000 in
theorem refof_any (A : Option Addr) (c L : Nat) (l : List UInt8) (HL : Hid (l.length = L)) (w : World) (hr : Rd w w.heap.size A l) (hl : L ≤ 1099511627776) :
    Calls Try.prog 50 #[.slice A L c] w fun e w' => e = .returned (.int .u32 (word (ofB l))) ∧ w = w' := by
  have h := refmore_any 0#32 A c L l HL w hr hl
  go_enter Try.func50, Try.ntmps50
  go_wp2_with (go_at_call 56; refine (Calls.mono h ?_); rintro e w1 ⟨rfl, rfl⟩)
  go_ret
  exact ⟨rfl, rfl⟩

end Go.Proofs.Ytknjkihcpcimpaa
