/-
  A block's sector: the document's answer.
-/
import Derived.Test.YtknjkihcpcimpaaPg
import Derived.Deep.Cut
namespace Go.Proofs.Ytknjkihcpcimpaa
set_option maxRecDepth 100000
set_option linter.unusedVariables false
open Go.RowKit Crc Wm Pg

theorem lsn_any (n : Int) (w : World) : Calls Try.prog 25 #[.int .i64 n] w fun e w' => e = .returned (.bool (decide (Lsn n))) ∧ w' = w := by
  by_cases h1 : 0 ≤ n
  · by_cases h2 : n ≤ 2199023255552
    · have hd : decide (Lsn n) = true := decide_eq_true ⟨h1, h2⟩
      go_enter Try.func25, Try.ntmps25
      go_wp2_with fail
      go_ret
      exact ⟨by first | rfl | (rw [hd]; rfl), rfl⟩
    · have hd : decide (Lsn n) = false := decide_eq_false (fun h => h2 h.2)
      go_enter Try.func25, Try.ntmps25
      go_wp2_with fail
      go_ret
      exact ⟨by first | rfl | (rw [hd]; rfl), rfl⟩
  · have hd : decide (Lsn n) = false := decide_eq_false (fun h => h1 h.1)
    go_enter Try.func25, Try.ntmps25
    go_wp2_with fail
    go_ret
    exact ⟨by first | rfl | (rw [hd]; rfl), rfl⟩

/-- a row of the caller's own, filled up and sealed -/
def SealOut (B : Nat) (w : World) (l : List UInt8) (e : Ending) (w' : World) : Prop := ∃ A' c', e = .returned (.slice A' 64 c') ∧ Owns w' B A' c' 64 (sect l) ∧ Below B w w'

set_option maxHeartbeats 1000000 in
theorem refsealed_any (B : Nat) (A : Option Addr) (c L : Nat) (l : List UInt8) (hL : L ≤ 60) (w : World) (hB : B ≤ w.heap.size) (ho : Owns w B A c L l) :
    Calls Try.prog 27 #[.slice A L c] w (SealOut B w l) := by
  have HLN := Lib.hid ho.len
  have HO := Lib.hid ho
  clear ho
  go_enter Try.func27, Try.ntmps27
  go_wp2_with fail
  go_loopg [0] (60 - L) (fun gn b wr => ∃ (o : Nat) (A : Option Addr) (c : Nat), b = .slice A o c ∧ L ≤ o ∧ o + gn = 60 ∧ Hid (Owns wr B A c o (l ++ List.replicate (o - L) 0)) ∧ Hid (Below B w wr))
  case atStart => exact ⟨L, A, c, rfl, by omega, by omega, Lib.hid (by rw [Nat.sub_self, List.replicate_zero, List.append_nil]; exact HO.out), Lib.hid (Below.refl _ _)⟩
  case round =>
    obtain ⟨o, A, c, rfl, hoL, hog, HOW, HBW⟩ := hrel
    obtain ⟨i0, hi, hz0, hz1, hz2⟩ := info_parts byte_facts
    have HBS : Hid (B ≤ wr.heap.size) := Lib.hid (Nat.le_trans hB HBW.out.size)
    rcases Nat.lt_or_ge o 60 with hlt | hge
    · have hdj : decide ((o : Int) < 60) = true := decide_eq_true (by omega)
      go_wp2_with (at_builtin; refine wpList_append_rd rfl (.tmp 6) (.tmp 7) _ rfl B i0 Try.underlying22 hi hz0 hz1 hz2 (.slice A o c) o _ rfl (HOW.out.alloc _) _ _ [0] 1 1 rfl (rd_one _ 0 0 rfl) rfl (by omega) (Nat.le_trans HBS.out (by simp)) ?_; intro v3 w3 hown2 hg2 hat2)
      all_goals
        obtain ⟨A2, c2, rfl, ho2, hb2⟩ := append_step HOW.out HBW.out HBS.out hown2 hg2
        have HO2 : Hid (Owns w3 B A2 c2 (o + 1) (l ++ List.replicate (o + 1 - L) 0)) := Lib.hid (by
          rw [show o + 1 - L = (o - L) + 1 from by omega, List.replicate_succ', ← List.append_assoc]
          exact ho2)
        have HB2 := Lib.hid hb2
        clear ho2 hb2 hown2 hg2 hat2 hi hz0 hz1 hz2
        go_roundg (gk - 1)
        case measure => omega
        case rel => exact ⟨o + 1, A2, c2, rfl, by omega, by omega, HO2, HB2⟩
    · obtain rfl : o = 60 := by omega
      have HO8 : Hid (Owns wr B A c 60 (body l)) := Lib.hid (by unfold body; rw [HLN.out]; exact HOW.out)
      clear HOW hi hz0 hz1 hz2 HO
      go_wp2_with fail
      refine (refseal_any A c 60 (body l) (Lib.hid HO8.out.len) _ HO8.out.read (by omega)).mono ?_
      rintro e w5 ⟨A5, c5, rfl, ho5, hb5⟩
      have HO5 := Lib.hid ho5
      have HB5 := Lib.hid hb5
      clear ho5 hb5
      go_wp2_with fail
      go_ret
      exact ⟨A5, c5, rfl, HO5.out.base_le HBS.out, HBW.out.trans (HB5.out.mono HBS.out)⟩

/-- what 'append([]byte{}, x, y)' makes: a row of its own -/
theorem own_lit2 (w : World) (K : Nat) (x y : UInt8) (z u : Int) (hz : z = (x.toNat : Int)) (hu : u = (y.toNat : Int)) (h2 : 2 ≤ K) (hK : K ≤ maxLen) (W : World)
    (hW : W = (((w.alloc (.cells #[] 5)).alloc (.cells #[.int .u8 z, .int .u8 u] 5)).alloc (.cells (#[.int .u8 z, .int .u8 u] ++ Builtin.zeroCells #[.int .u8 0] (K - 2)) 5)).drew) :
    Owns W w.heap.size (some ⟨w.heap.size + 1 + 1, 0, none⟩) K 2 [x, y] ∧ Below w.heap.size w W := by
  subst hW
  have hsz : ((w.alloc (.cells #[] 5)).alloc (.cells #[.int .u8 z, .int .u8 u] 5)).heap.size = w.heap.size + 1 + 1 := by simp
  have hb : Below w.heap.size w (((w.alloc (.cells #[] 5)).alloc (.cells #[.int .u8 z, .int .u8 u] 5)).alloc (.cells (#[.int .u8 z, .int .u8 u] ++ Builtin.zeroCells #[.int .u8 0] (K - 2)) 5)).drew :=
    ((((Below.refl _ _).alloc (Nat.le_refl _) _).alloc (by simp) _).alloc (by simp; omega) _).drew
  have hzc : Builtin.zeroCells #[.int .u8 0] (K - 2) = (byteVs (List.replicate (K - 2) 0)).toArray := zeroCells_bytes (K - 2)
  refine ⟨⟨rfl, .inr ⟨w.heap.size + 1 + 1, K, #[.int .u8 z, .int .u8 u] ++ Builtin.zeroCells #[.int .u8 0] (K - 2), rfl, by omega, ?_, h2, hK, ?_, ?_⟩⟩, hb⟩
  · show _ = some (Obj.cells (#[.int .u8 z, .int .u8 u] ++ Builtin.zeroCells #[.int .u8 0] (K - 2)) 5)
    rw [← hsz]
    exact heap_alloc_new _ _
  · rw [hzc]
    simp only [Array.size_append, List.size_toArray, length_byteVs, List.length_replicate]
    simp
    omega
  · rw [hz, hu]
    simp [byteVs, byteV]

/-- a sector in new memory, or none -/
def BlkOut (w : World) (n : Int) (d : List UInt8) (e : Ending) (w' : World) : Prop :=
  ∃ A N c, e = .returned (.tuple #[.slice A N c, .int .i64 (blkE n d)]) ∧ N = (blkB n d).length ∧ Owns w' w.heap.size A c N (blkB n d) ∧ Below w.heap.size w w'

theorem blk_no {w w' : World} {n : Int} {d : List UInt8} (h : ¬ (Lsn n ∧ d.length = 32)) (hb : Below w.heap.size w w') : BlkOut w n d (.returned (.tuple #[.slice none 0 0, .int .i64 1])) w' := by
  unfold BlkOut blkE blkB
  rw [if_neg h, if_neg h]
  exact ⟨none, 0, 0, rfl, rfl, ⟨rfl, .inl ⟨rfl, rfl⟩⟩, hb⟩

set_option maxHeartbeats 1000000 in
theorem refblock_any (n : Int) (A : Option Addr) (N c : Nat) (d : List UInt8) (w : World) (hd : Lies w A c N d) (hN : N ≤ 1073741824) : Calls Try.prog 10 #[.int .i64 n, .slice A N c] w (BlkOut w n d) := by
  have HD := Lib.hid hd
  have HLN := Lib.hid hd.len
  clear hd
  by_cases h1 : Lsn n
  · have hl1 := fun W => lsn_any n W
    rw [decide_eq_true h1] at hl1
    by_cases h2 : N = 32
    · subst h2
      have HP := Lib.hid (show Lsn n ∧ d.length = 32 from ⟨h1, HLN.out⟩)
      obtain ⟨X, rfl⟩ : ∃ X : Nat, n = (X : Int) := ⟨n.toNat, (Int.toNat_of_nonneg h1.1).symm⟩
      have hX : X ≤ 2199023255552 := by have := h1.2; omega
      have hwX : IntKind.u64.wrap (X : Int) = (X : Int) := by rw [IntWalk.u64_in _ ⟨by omega, by omega⟩]
      clear h1 hN
      obtain ⟨i0, hi, hz0, hz1, hz2⟩ := info_parts byte_facts
      have HI := Lib.hid (And.intro hi (And.intro hz0 (And.intro hz1 hz2)))
      clear hi hz0 hz1 hz2
      have HLS := Lib.hid hl1
      clear hl1
      go_enter Try.func10, Try.ntmps10
      go_wp2_with fail
      refine (HLS.out w).mono ?_
      rintro e w1 ⟨rfl, rfl⟩
      go_upto_region 4 with fail
      generalize hK : (Question.appendCap 2 0 5).cut (w1.tape w1.drawn (Question.appendCap 2 0 5)) = c3 at *
      have hK2 : 2 ≤ c3 := by rw [← hK]; exact grownCap_ge w1 2 0 5
      have hKm : c3 ≤ maxLen := by rw [← hK]; exact grownCap_le_maxLen w1 2 0 5 (by unfold maxLen; omega)
      generalize hW : (((w1.alloc (.cells #[] 5)).alloc (.cells #[.int .u8 66, .int .u8 0] 5)).alloc (.cells (#[.int .u8 66, .int .u8 0] ++ Builtin.zeroCells #[.int .u8 0] (c3 - 2)) 5)).drew = w3 at *
      generalize hA : (some ⟨w1.heap.size + 1 + 1, 0, none⟩ : Option Addr) = A3 at *
      have hlit := own_lit2 w1 c3 66 0 66 0 rfl rfl hK2 hKm w3 hW.symm
      rw [hA] at hlit
      have HO3 : Hid (Owns w3 w1.heap.size A3 c3 2 [66, 0]) := Lib.hid hlit.1
      have HB3 := Lib.hid hlit.2
      clear hlit hK hK2 hKm hW hA
      focus
        go_wp2_with fail
        refine (refput_core A3 c3 2 [66, 0] (Lib.hid rfl) X 6 6 _ HO3.out.read (by omega) (by omega) (by omega) (.inr (.inl ⟨by omega, by omega, by omega⟩))).mono ?_
        rintro e w4 ⟨A4, c4, rfl, ho4, hb4⟩
        have HO4 : Hid (Owns w4 w1.heap.size A4 c4 8 ([66, 0] ++ putB 6 X)) := Lib.hid (ho4.base_le HB3.out.size)
        have HB4 := Lib.hid (HB3.out.trans (hb4.mono HB3.out.size))
        have HD4 := Lib.hid (HD.out.up HB4.out)
        clear ho4 hb4 HO3 HB3
        go_wp2_with (at_builtin; refine wpList_append_rd rfl (.tmp 22) (.tmp 23) _ rfl w1.heap.size i0 Try.underlying22 HI.out.1 HI.out.2.1 HI.out.2.2.1 HI.out.2.2.2 (.slice A4 8 c4) 8 _ rfl HO4.out _ _ d 32 c rfl HD4.out.rd HLN.out (by omega) HB4.out.size ?_; intro v5 w5 hown5 hg5 hat5)
        all_goals
          obtain ⟨A5, c5, rfl, ho5, hb5⟩ := append_step' HO4.out HB4.out HB4.out.size hown5 hg5
          have HO5 : Hid (Owns w5 w1.heap.size A5 c5 40 (blkH X d)) := Lib.hid ho5
          have HB5 := Lib.hid hb5
          clear ho5 hb5 hown5 hg5 hat5 HO4 HB4 HD4
          go_wp2_with fail
          refine (refsealed_any w1.heap.size A5 c5 40 _ (by omega) w5 HB5.out.size HO5.out).mono ?_
          rintro e w6 ⟨A6, c6, rfl, ho6, hb6⟩
          have HO6 := Lib.hid ho6
          have HB6 := Lib.hid (HB5.out.trans hb6)
          clear ho6 hb6
          go_wp2_with fail
          go_ret2
          unfold BlkOut blkE blkB
          rw [if_pos HP.out, if_pos HP.out]
          exact ⟨A6, 64, c6, rfl, (length_blk X d HP.out.2).symm, HO6.out, HB6.out⟩
    · have HP := Lib.hid (show ¬ (Lsn n ∧ d.length = 32) from fun h => h2 (HLN.out.symm.trans h.2))
      have hd1 : decide ((N : Int) = 32) = false := decide_eq_false (by omega)
      have HLS := Lib.hid hl1
      clear hl1
      go_enter Try.func10, Try.ntmps10
      go_wp2_with fail
      refine (HLS.out w).mono ?_
      rintro e w1 ⟨rfl, rfl⟩
      go_wp2_with fail
      go_ret2
      exact blk_no HP.out (Below.refl _ _)
  · have hl1 := fun W => lsn_any n W
    rw [decide_eq_false h1] at hl1
    have HP := Lib.hid (show ¬ (Lsn n ∧ d.length = 32) from fun h => h1 h.1)
    have HLS := Lib.hid hl1
    clear hl1
    go_enter Try.func10, Try.ntmps10
    go_wp2_with fail
    refine (HLS.out w).mono ?_
    rintro e w1 ⟨rfl, rfl⟩
    go_wp2_with fail
    go_ret2
    exact blk_no HP.out (Below.refl _ _)

end Go.Proofs.Ytknjkihcpcimpaa
