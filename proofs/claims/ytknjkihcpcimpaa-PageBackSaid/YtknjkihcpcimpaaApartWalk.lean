/-
  PageApart: the walk, over the words.
-/
import Derived.Test.YtknjkihcpcimpaaPlacesWalk
namespace Go.Proofs.Ytknjkihcpcimpaa
set_option maxRecDepth 100000
set_option linter.unusedVariables false
set_option linter.unusedSimpArgs false
open Go.RowKit Crc Wm Pg

theorem blk_ok {n : Int} {d : List UInt8} (hn : Lsn n) (hd : d.length = 32) : blkE n d = 0 ∧ blkB n d = sect (blkH n d) := ⟨if_pos ⟨hn, hd⟩, if_pos ⟨hn, hd⟩⟩
theorem cel_ok {x : C3} (hm : x.May) : celE x = 0 ∧ celS x = sect (celTo x 3) := ⟨if_pos hm, if_pos hm⟩

/-- a block's sector that may be: the call's answer in full -/
theorem block_ok (P : PageOk) {n : Int} {A : Option Addr} {c : Nat} {d : List UInt8} {w : World} (hn : Lsn n) (hd : Lies w A c 32 d) : Calls Try.prog 9 #[.int .i64 n, .slice A 32 c] w fun e w' =>
    ∃ A' c', e = .returned (.tuple #[.slice A' 64 c', .int .i64 0]) ∧ Owns w' w.heap.size A' c' 64 (sect (blkH n d)) ∧ Below w.heap.size w w' := by
  refine (P.block n A 32 c d w ⟨by have := hn.1; omega, by have := hn.2; omega⟩ hd (by omega)).mono ?_
  rintro e w' ⟨A1, n1, c1, rfl, hn1, ho1, hb1⟩
  obtain ⟨e1, e2⟩ := blk_ok hn hd.len
  rw [e2] at hn1 ho1
  rw [e1]
  rw [length_blk n d hd.len] at hn1
  subst hn1
  exact ⟨A1, c1, rfl, ho1, hb1⟩
theorem cells_ok (P : PageOk) {x : C3} {w : World} (hx : x.Wf) (hm : x.May) : Calls Try.prog 11 #[c3V x] w fun e w' =>
    ∃ A' c', e = .returned (.tuple #[.slice A' 64 c', .int .i64 0]) ∧ Owns w' w.heap.size A' c' 64 (sect (celTo x 3)) ∧ Below w.heap.size w w' := by
  refine (P.cells x w hx).mono ?_
  rintro e w' ⟨A1, n1, c1, rfl, hn1, ho1, hb1⟩
  obtain ⟨e1, e2⟩ := cel_ok hm
  rw [e2] at hn1 ho1
  rw [e1]
  rw [length_cel x] at hn1
  subst hn1
  exact ⟨A1, c1, rfl, ho1, hb1⟩

def ap3 (m n : Int) : C3 := ⟨⟨m, 1⟩, ⟨n, 0⟩, ⟨0, 0⟩⟩
theorem ap3_wf {m n : Int} (hm : okI m) (hn : okI n) : (ap3 m n).Wf := by
  unfold okI at *
  unfold ap3 C3.Wf Ce.Wf
  dsimp only
  omega
theorem ap3_may (m n : Int) : (ap3 m n).May := by
  unfold ap3 C3.May Lsn
  dsimp only
  omega

set_option maxHeartbeats 2000000 in
theorem apart_walk (P : PageOk) (A B : Option Addr) (c1 n1 c2 n2 : Nat) (l1 l2 : List UInt8) (m n : Int) (hm : okI m) (hn : okI n) (w : World) (ha : Lies w A c1 n1 l1) (hb : Lies w B c2 n2 l2) :
    Calls Try.prog 7 #[.slice A n1 c1, .slice B n2 c2, .int .i64 m, .int .i64 n] w fun e w' => e = .returned (.bool true) ∧ Below w.heap.size w w' := by
  have HP := Lib.hid P
  have HA := Lib.hid ha
  have HB := Lib.hid hb
  clear P ha hb
  go_enter Try.func7, Try.ntmps7
  go_wp2_with fail
  refine (awake_any HP.out w).mono ?_
  rintro e w1 ⟨rfl, hb1⟩
  have HB1 := Lib.hid hb1
  clear hb1
  by_cases h1 : n1 = 32
  · by_cases h2 : n2 = 32
    · subst h1; subst h2
      obtain ⟨x, hx, hxm⟩ := low m 16777215 24 (by decide) (by omega)
      obtain ⟨y, hy, hyn⟩ := low n 16777215 24 (by decide) (by omega)
      have hlx : Lsn (x : Int) := ⟨by omega, by omega⟩
      have hly : Lsn (y : Int) := ⟨by omega, by omega⟩
      have HLX := Lib.hid hlx
      have HLY := Lib.hid hly
      have HC := Lib.hid (fun W => show Calls Try.prog 11 #[.agg #[.int .i64 m, .int .i64 1, .int .i64 n, .int .i64 0, .int .i64 0, .int .i64 0]] W fun e w' => ∃ A' c', e = .returned (.tuple #[.slice A' 64 c', .int .i64 0]) ∧ Owns w' W.heap.size A' c' 64 (sect (celTo (ap3 m n) 3)) ∧ Below W.heap.size W w' from cells_ok HP.out (x := ap3 m n) (ap3_wf hm hn) (ap3_may m n))
      have HD := Lib.hid (fun W => show Calls Try.prog 11 #[.agg #[.int .i64 n, .int .i64 1, .int .i64 m, .int .i64 0, .int .i64 0, .int .i64 0]] W fun e w' => ∃ A' c', e = .returned (.tuple #[.slice A' 64 c', .int .i64 0]) ∧ Owns w' W.heap.size A' c' 64 (sect (celTo (ap3 n m) 3)) ∧ Below W.heap.size W w' from cells_ok HP.out (x := ap3 n m) (ap3_wf hn hm) (ap3_may n m))
      have HS := Lib.hid (blk_apart x y l1 l2 hlx hly HA.out.len HB.out.len)
      have HT := Lib.hid (cel_apart (ap3 m n) (ap3 n m) (ap3_wf hm hn) (ap3_wf hn hm) (ap3_may m n) (ap3_may n m))
      clear hx hy hlx hly hm hn
      go_wp2_with fail
      refine (block_ok HP.out HLX.out (HA.out.up HB1.out)).mono ?_
      rintro e w2 ⟨A2, k2, rfl, ho2, hb2⟩
      have HO2 := Lib.hid ho2.lies
      have HB2 := Lib.hid (HB1.out.trans (hb2.mono HB1.out.size))
      clear ho2 hb2 HB1
      go_wp2_with fail
      refine (block_ok HP.out HLY.out (HB.out.up HB2.out)).mono ?_
      rintro e w3 ⟨A3, k3, rfl, ho3, hb3⟩
      have HO3 := Lib.hid ho3.lies
      have HB3 := Lib.hid (HB2.out.trans (hb3.mono HB2.out.size))
      have HO2 := Lib.hid (HO2.out.up hb3)
      clear ho3 hb3 HB2
      go_wp2_with fail
      refine (HC.out w3).mono ?_
      rintro e w4 ⟨A4, k4, rfl, ho4, hb4⟩
      have HO4 := Lib.hid ho4.lies
      have HB4 := Lib.hid (HB3.out.trans (hb4.mono HB3.out.size))
      have HO2 := Lib.hid (HO2.out.up hb4)
      have HO3 := Lib.hid (HO3.out.up hb4)
      clear ho4 hb4 HB3
      go_wp2_with fail
      refine (HD.out w4).mono ?_
      rintro e w5 ⟨A5, k5, rfl, ho5, hb5⟩
      have HB5 := Lib.hid (HB4.out.trans (hb5.mono HB4.out.size))
      have q2 := (HO2.out.up hb5).conv
      have q3 := (HO3.out.up hb5).conv
      have q4 := (HO4.out.up hb5).conv
      have q5 := ho5.lies.conv
      have qa := (HA.out.up HB5.out).conv
      have qb := (HB.out.up HB5.out).conv
      generalize sect (blkH x l1) = s1 at *
      generalize sect (blkH y l2) = s2 at *
      generalize sect (celTo (ap3 m n) 3) = t1 at *
      generalize sect (celTo (ap3 n m) 3) = t2 at *
      have hT : t1 = t2 ↔ m = n := HT.out.trans ⟨fun h => by injection h with h1 h2 h3; injection h1, fun h => by rw [h]⟩
      have HT2 := Lib.hid hT
      clear hT HT ho5 hb5 HO2 HO3 HO4 HC HD HB4
      obtain ⟨p, hp⟩ : ∃ p, (l1 == l2) = p := ⟨_, rfl⟩
      obtain ⟨q, hq⟩ : ∃ q, ((x : Int) == (y : Int)) = q := ⟨_, rfl⟩
      obtain ⟨r, hr⟩ : ∃ r, (m == n) = r := ⟨_, rfl⟩
      have hs : (s1 == s2) = (p && q) := by
        rw [← hp, ← hq, Bool.eq_iff_iff]
        simp only [beq_iff_eq, Bool.and_eq_true]
        exact HS.out
      have ht : (t1 == t2) = r := by
        rw [← hr, Bool.eq_iff_iff]
        simp only [beq_iff_eq]
        exact HT2.out
      clear HS HT2
      cases p <;> cases q <;> cases r <;> (simp only [Bool.and_true, Bool.true_and, Bool.and_false, Bool.false_and] at hs; go_wp2_with fail; go_ret; exact ⟨rfl, HB5.out⟩)
    · have hd : decide ((n2 : Int) = 32) = false := decide_eq_false (by omega)
      subst h1
      go_wp2_with fail
      go_ret
      exact ⟨rfl, HB1.out⟩
  · have hd : decide ((n1 : Int) = 32) = false := decide_eq_false (by omega)
    go_wp2_with fail
    go_ret
    exact ⟨rfl, HB1.out⟩

end Go.Proofs.Ytknjkihcpcimpaa
