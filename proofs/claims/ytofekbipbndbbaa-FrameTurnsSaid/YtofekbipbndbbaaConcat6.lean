/-
  The library's Concat of any slices of bytes: new memory with all of them, one behind the other.
-/
import Derived.Test.YtofekbipbndbbaaSmallR
import Derived.Test.YtofekbipbndbbaaConcat
namespace Go.Proofs.Ytofekbipbndbbaa
open Go.RowKit Crc Wm

/-- slices of bytes lie in a row, in block g from o on -/
def Parts (w : World) (g o : Nat) (ls : List (List UInt8)) : Prop := g < w.heap.size ∧ ∀ j x, ls[j]? = some x → ∃ A n c, w.cell? ⟨g, o + j, none⟩ = some (.slice A n c) ∧ Lies w A c n x
theorem Parts.up {w W : World} {g o : Nat} {ls : List (List UInt8)} (h : Parts w g o ls) (hb : Below w.heap.size w W) : Parts W g o ls :=
  ⟨Nat.lt_of_lt_of_le h.1 hb.size, fun j x hx => by obtain ⟨A, n, c, h1, h2⟩ := h.2 j x hx; exact ⟨A, n, c, (hb.cell h.1).trans h1, h2.up hb⟩⟩

theorem flat_step {ls : List (List UInt8)} {j : Nat} {x : List UInt8} (h : ls[j]? = some x) : (ls.take (j + 1)).flatten = (ls.take j).flatten ++ x := by
  rw [List.take_add_one, h, List.flatten_append]
  simp
theorem flat_le (ls : List (List UInt8)) (j : Nat) : ((ls.take j).flatten).length ≤ (ls.flatten).length := by
  conv => rhs; rw [← List.take_append_drop j ls, List.flatten_append, List.length_append]
  omega

set_option maxHeartbeats 2000000 in
theorem concat_any (g o cs m : Nat) (ls : List (List UInt8)) (HM : Hid (ls.length = m)) (hm : m ≤ 1000000) (w : World) (hp : Hid (Parts w g o ls)) (T : Nat) (HT : Hid ((ls.flatten).length = T)) (h1 : 1 ≤ T) (h2 : T ≤ 4294967296) :
    Calls Try.prog 27 #[.slice (some ⟨g, o, none⟩) m cs] w (Made w T ls.flatten) := by
  obtain ⟨i0, hi, hz0, hz1, hz2⟩ := info_parts byte_facts
  have HI := Lib.hid (show _ ∧ _ ∧ _ ∧ _ from ⟨hi, hz0, hz1, hz2⟩)
  clear hi hz0 hz1 hz2
  go_enter Try.func27, Try.ntmps27
  go_wp2_with fail
  go_loop [3, 11] (fun s i => ∃ j S : Nat, i = .int .i64 (j : Int) ∧ s = .int .i64 (S : Int) ∧ j ≤ m ∧ S ≤ T ∧ Hid (S = ((ls.take j).flatten).length)) (fun _ i => m - (intOf i).toNat)
  case atStart => exact ⟨0, 0, rfl, rfl, by omega, by omega, Lib.hid (by simp)⟩
  case round =>
    obtain ⟨j, S, rfl, rfl, hj, hS, HS⟩ := hrel
    rcases Nat.lt_or_ge j m with hlt | hge
    · have hjl : j < ls.length := by rw [HM.out]; exact hlt
      obtain ⟨A, n, c, hc, hl⟩ := hp.out.2 j _ (List.getElem?_eq_getElem hjl)
      have HF := Lib.hid (flat_step (List.getElem?_eq_getElem hjl))
      have HL := Lib.hid (flat_le ls (j + 1))
      have hn : S + n ≤ T ∧ Hid (S + n = ((ls.take (j + 1)).flatten).length) := by
        have e : S + n = ((ls.take (j + 1)).flatten).length := by rw [HF.out, List.length_append, ← HS.out, hl.len]
        exact ⟨by rw [e, ← HT.out]; exact HL.out, Lib.hid e⟩
      obtain ⟨hn, HN⟩ := hn
      clear hl HF HL hjl
      go_wp2_with fail
      all_goals
        go_round
        case rel => exact ⟨j + 1, S + n, by go_num, by go_num, by omega, hn, HN⟩
        case measure => simp [intOf]; omega
    · obtain rfl : j = m := by omega
      obtain rfl : S = T := by rw [HS.out, ← HT.out, List.take_of_length_le (by rw [HM.out]; exact Nat.le_refl _)]
      have HC := Lib.hid (grow_nil S w h1 h2)
      go_wp2_with (go_at_call 40; refine (HC.out).mono ?_; rintro e w1 ⟨A0, c0, rfl, ho0, hb0⟩)
      have HB := Lib.hid hb0
      have HO := Lib.hid ho0
      clear hb0 ho0 HC
      go_loopw [6, 27] (fun v i wr => ∃ (k U : Nat) (A' : Option Addr) (c' : Nat), i = .int .i64 (k : Int) ∧ k ≤ j ∧ v = .slice A' U c' ∧ U ≤ S ∧ Hid (U = ((ls.take k).flatten).length) ∧ Hid (Owns wr w.heap.size A' c' U ((ls.take k).flatten)) ∧ Hid (Below w.heap.size w wr)) (fun _ i _ => j - (intOf i).toNat)
      case atStart => exact ⟨0, 0, A0, c0, rfl, by omega, rfl, by omega, Lib.hid (by simp), Lib.hid (by simpa using HO.out), HB⟩
      case round =>
        clear HB HO
        obtain ⟨k, U, A', c', rfl, hk, rfl, hU, HU, HO, HB⟩ := hrel
        rcases Nat.lt_or_ge k j with hlt | hge
        · have hjl : k < ls.length := by rw [HM.out]; exact hlt
          obtain ⟨A, n, c, hc, hl⟩ := (hp.out.up HB.out).2 k _ (List.getElem?_eq_getElem hjl)
          have HF := Lib.hid (flat_step (List.getElem?_eq_getElem hjl))
          have HL := Lib.hid (flat_le ls (k + 1))
          have hn : U + n ≤ S ∧ Hid (U + n = ((ls.take (k + 1)).flatten).length) := by
            have e : U + n = ((ls.take (k + 1)).flatten).length := by rw [HF.out, List.length_append, ← HU.out, hl.len]
            exact ⟨by rw [e, ← HT.out]; exact HL.out, Lib.hid e⟩
          obtain ⟨hn, HN⟩ := hn
          have HA := Lib.hid hl
          generalize ls[k] = x at *
          clear hl HL hjl
          obtain ⟨hi, hz0, hz1, hz2⟩ := HI.out
          have hwr := HB.out.size
          go_wp2_with (at_builtin; refine wpList_append_rd rfl (.tmp 31) (.tmp 32) _ rfl w.heap.size i0 Try.underlying22 hi hz0 hz1 hz2 (.slice A' U c') U _ rfl HO.out _ _ x n _ rfl HA.out.rd HA.out.len (by omega) hwr ?_; intro v2 w2 hown2 hg2 hat2; obtain ⟨A3, c3, rfl, ho3, hb3⟩ := append_step' HO.out HB.out hwr hown2 hg2; clear hown2 hg2 hat2)
          all_goals
            go_roundw
            case rel => exact ⟨k + 1, U + n, A3, c3, by go_num, by omega, rfl, hn, HN, by rw [HF.out]; exact Lib.hid ho3, Lib.hid hb3⟩
            case measure => simp [intOf]; omega
        · obtain rfl : k = j := by omega
          obtain rfl : U = S := by rw [HU.out, ← HT.out, List.take_of_length_le (by rw [HM.out]; exact Nat.le_refl _)]
          have ho := HO.out
          rw [List.take_of_length_le (by rw [HM.out]; exact Nat.le_refl _)] at ho
          have HO2 := Lib.hid ho
          clear ho
          go_wp2_with fail
          go_ret
          exact ⟨A', c', rfl, HO2.out, HB.out⟩

end Go.Proofs.Ytofekbipbndbbaa
