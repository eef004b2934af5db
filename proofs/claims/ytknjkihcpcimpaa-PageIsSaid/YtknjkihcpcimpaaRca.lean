/-
  A sector of counters: the document's answer.
-/
import Derived.Test.YtknjkihcpcimpaaRo
import Derived.Test.YtknjkihcpcimpaaCb
namespace Go.Proofs.Ytknjkihcpcimpaa
set_option maxRecDepth 100000
set_option linter.unusedVariables false
open Go.RowKit Crc Wm Pg

/-- a sector in new memory, or none -/
def CelOut (w : World) (x : C3) (e : Ending) (w' : World) : Prop :=
  ∃ A N c, e = .returned (.tuple #[.slice A N c, .int .i64 (celE x)]) ∧ N = (celS x).length ∧ Owns w' w.heap.size A c N (celS x) ∧ Below w.heap.size w w'

theorem cel_no {w w' : World} {x : C3} (h : ¬ x.May) (hb : Below w.heap.size w w') : CelOut w x (.returned (.tuple #[.slice none 0 0, .int .i64 1])) w' := by
  unfold CelOut celE celS
  rw [if_neg h, if_neg h]
  exact ⟨none, 0, 0, rfl, rfl, ⟨rfl, .inl ⟨rfl, rfl⟩⟩, hb⟩

theorem C3.may_of {x : C3} (h : ∀ k, k < 3 → Lsn (x.at_ k).L) : x.May := ⟨h 0 (by omega), h 1 (by omega), h 2 (by omega)⟩

set_option maxHeartbeats 2000000 in
theorem refcells_any (x : C3) (w : World) : Calls Try.prog 13 #[c3V x] w (CelOut w x) := by
  have hs0 : C3At (w.alloc (.cells (c3C x) 25)) w.heap.size 25 x := heap_alloc_new w _
  have hb0 := below_new w (.cells (c3C x) 25)
  have hz0 : (w.alloc (.cells (c3C x) 25)).heap.size = w.heap.size + 1 := by simp
  unfold c3V
  obtain ⟨C, hC⟩ : ∃ C, C = c3C x := ⟨_, rfl⟩
  rw [← hC] at hs0 hb0 hz0 ⊢
  have HS0 := Lib.hid hs0
  have HB0 := Lib.hid hb0
  have HZ0 := Lib.hid hz0
  clear hs0 hb0 hz0 hC
  go_enter Try.func13, Try.ntmps13
  go_upto_region 1 with fail
  generalize w.alloc (.cells C 25) = w0 at *
  go_upto_region 2 with fail
  generalize hK : (Question.appendCap 2 0 5).cut (w0.tape w0.drawn (Question.appendCap 2 0 5)) = c3 at *
  have hK2 : 2 ≤ c3 := by rw [← hK]; exact grownCap_ge w0 2 0 5
  have hKm : c3 ≤ maxLen := by rw [← hK]; exact grownCap_le_maxLen w0 2 0 5 (by unfold maxLen; omega)
  generalize hW : (((w0.alloc (.cells #[] 5)).alloc (.cells #[.int .u8 67, .int .u8 0] 5)).alloc (.cells (#[.int .u8 67, .int .u8 0] ++ Builtin.zeroCells #[.int .u8 0] (c3 - 2)) 5)).drew = w3 at *
  generalize hA : (some ⟨w0.heap.size + 1 + 1, 0, none⟩ : Option Addr) = A3 at *
  have hlit := own_lit2 w0 c3 67 0 67 0 rfl rfl hK2 hKm w3 hW.symm
  rw [hA] at hlit
  have HO3 : Hid (Owns w3 w0.heap.size A3 c3 2 (celTo x 0)) := Lib.hid hlit.1
  have HB3 := Lib.hid hlit.2
  clear hlit hK hK2 hKm hW hA
  go_wp2_with fail
  go_loopg [4, 5] 3 (fun gn b i wr => ∃ (j : Nat) (A : Option Addr) (c : Nat), i = .int .i64 (j : Int) ∧ b = .slice A (2 + 14 * j) c ∧ j + gn = 3 ∧ Hid (Owns wr w0.heap.size A c (2 + 14 * j) (celTo x j)) ∧ Hid (Below w0.heap.size w0 wr) ∧ Hid (∀ k, k < j → Lsn (x.at_ k).L))
  case atStart => exact ⟨0, A3, c3, rfl, rfl, by omega, HO3, HB3, Lib.hid (fun k hk => by omega)⟩
  case round =>
    obtain ⟨j, A, c, rfl, rfl, hog, HOW, HBW, HMY⟩ := hrel
    have HBS : Hid (w0.heap.size ≤ wr.heap.size) := Lib.hid HBW.out.size
    rcases Nat.lt_or_ge j 3 with hlt | hge
    · have hdj : decide ((j : Int) < 3) = true := decide_eq_true (by omega)
      obtain ⟨ca, cb⟩ := (HS0.out.below HBW.out).at_ j hlt
      by_cases hm : Lsn (x.at_ j).L
      · have hls := fun W => lsn_any (x.at_ j).L W
        rw [decide_eq_true hm] at hls
        have HLS := Lib.hid hls
        obtain ⟨X, hX⟩ : ∃ X : Nat, (x.at_ j).L = (X : Int) := ⟨(x.at_ j).L.toNat, (Int.toNat_of_nonneg hm.1).symm⟩
        have hXb : X ≤ 2199023255552 := by have := hm.2; omega
        have hwX : IntKind.u64.wrap (X : Int) = (X : Int) := by rw [IntWalk.u64_in _ ⟨by omega, by omega⟩]
        have HXL := Lib.hid hX
        obtain ⟨v, hv⟩ : ∃ v, v = (x.at_ j).V := ⟨_, rfl⟩
        have HV := Lib.hid hv
        rw [← hv] at ca
        rw [hX] at cb
        have HM : Hid (∀ k, k < j + 1 → Lsn (x.at_ k).L) := Lib.hid (fun k hk => by
          rcases Nat.lt_or_ge k j with h | h
          · exact HMY.out k h
          · obtain rfl : k = j := by omega
            exact hm)
        have HLX : Hid (∀ W, Calls Try.prog 25 #[.int .i64 (X : Int)] W fun e w' => e = .returned (.bool true) ∧ w' = W) := Lib.hid (by rw [← hX]; exact HLS.out)
        clear hls hX hv HLS HMY hm
        go_wp2_with fail
        refine (HLX.out wr).mono ?_
        rintro e w4 ⟨rfl, he4⟩
        subst he4
        go_wp2_with fail
        refine (refsigned_any A c (2 + 14 * j) (celTo x j) (Lib.hid HOW.out.len) v w4 HOW.out.read (by omega)).mono ?_
        rintro e w5 ⟨A5, c5, rfl, ho5, hb5⟩
        have HO5 : Hid (Owns w5 w0.heap.size A5 c5 (2 + 14 * j + 8) (celTo x j ++ putB 8 (sgn v))) := Lib.hid (ho5.base_le HBS.out)
        have HB5 := Lib.hid (HBW.out.trans (hb5.mono HBS.out))
        obtain ⟨_, cb⟩ := (HS0.out.below HB5.out).at_ j hlt
        rw [HXL.out] at cb
        clear ho5 hb5 ca HOW HBW
        go_wp2_with fail
        refine (refput_core A5 c5 (2 + 14 * j + 8) _ (Lib.hid HO5.out.len) X 6 6 w5 HO5.out.read (by omega) (by omega) (by omega) (.inr (.inl ⟨by omega, by omega, by omega⟩))).mono ?_
        rintro e w6 ⟨A6, c6, rfl, ho6, hb6⟩
        have HO6 : Hid (Owns w6 w0.heap.size A6 c6 (2 + 14 * (j + 1)) (celTo x (j + 1))) := Lib.hid (by
          have h := ho6.base_le HB5.out.size
          have e1 : celTo x (j + 1) = celTo x j ++ putB 8 (sgn v) ++ putB 6 X := by
            show celTo x j ++ celB (x.at_ j) = _
            unfold celB
            rw [HV.out, HXL.out, Int.toNat_natCast, List.append_assoc]
          rw [e1, show 2 + 14 * (j + 1) = 2 + 14 * j + 8 + 6 from by omega]
          exact h)
        have HB6 := Lib.hid (HB5.out.trans (hb6.mono HB5.out.size))
        have hlen : 2 + 14 * j + 8 + 6 = 2 + 14 * (j + 1) := by omega
        rw [hlen]
        clear ho6 hb6 cb HO5 HB5 hlen
        go_wp2_with fail
        go_roundg (gk - 1)
        case measure => omega
        case rel => exact ⟨j + 1, A6, c6, by go_num, rfl, by omega, HO6, HB6, HM⟩
      · have hls := fun W => lsn_any (x.at_ j).L W
        rw [decide_eq_false hm] at hls
        have HLS := Lib.hid hls
        have HNM : Hid (¬ x.May) := Lib.hid (fun h => hm (C3.at_may h j))
        generalize (x.at_ j).L = X at *
        have HNX := Lib.hid hm
        clear hls ca hm
        go_wp2_with fail
        refine (HLS.out wr).mono ?_
        rintro e w4 ⟨rfl, he4⟩
        subst he4
        go_wp2_with fail
        go_ret2
        exact cel_no HNM.out (HB0.out.trans (HBW.out.mono HB0.out.size))
    · obtain rfl : j = 3 := by omega
      have HM : Hid x.May := Lib.hid (C3.may_of HMY.out)
      go_wp2_with fail
      refine (refsealed_any w0.heap.size A c 44 (celTo x 3) (by omega) wr HBS.out HOW.out).mono ?_
      rintro e w6 ⟨A6, c6, rfl, ho6, hb6⟩
      have HO6 := Lib.hid ho6
      have HB6 := Lib.hid (HB0.out.trans ((HBW.out.trans hb6).mono HB0.out.size))
      clear ho6 hb6
      go_wp2_with fail
      go_ret2
      unfold CelOut celE celS
      rw [if_pos HM.out, if_pos HM.out]
      exact ⟨A6, 64, c6, rfl, (length_cel x).symm, HO6.out.base_le HB0.out.size, HB6.out⟩

end Go.Proofs.Ytknjkihcpcimpaa
