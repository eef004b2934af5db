/-
  What the program's calls are to answer, as words; the document's Place; the law's example over these words.
-/
import Derived.Test.YtknjkihcpcimpaaLw
import Derived.BigQuiet
namespace Go.Proofs.Ytknjkihcpcimpaa
set_option maxRecDepth 100000
set_option linter.unusedVariables false
open Go.RowKit Crc Wm Pg

theorem wpList_make_run {P : Program} {ops : Array Oper} {rest : List Oper} {o : Oper} {a : Act} {w w' : World} {Q : Exit → Act → World → Prop} (hgd : o.guard = none) (t : TypeId) (l c : Operand) (ho : o.op = .makeSlice t l c) {x y v : Value} (hl : a.eval l = x) (hc : a.eval c = y)
    (hrun : (Instr.makeSlice t x y).run P w = .ok v w') (h : wpList P ops Q rest (a.put o.dst v) w') : wpList P ops Q (o :: rest) a w :=
  wpList_plain hgd fun _ hK => wp_make t l c ho hl hc hrun (hK _ _ h)

def okI (n : Int) : Prop := -9223372036854775808 ≤ n ∧ n ≤ 9223372036854775807

def BlockOk : Prop := ∀ (n : Int) (A : Option Addr) (N c : Nat) (d : List UInt8) (w : World), okI n → Lies w A c N d → N ≤ 1000 → Calls Try.prog 9 #[.int .i64 n, .slice A N c] w (BlkOut w n d)
def OfBlockOk : Prop := ∀ (A : Option Addr) (c n : Nat) (l : List UInt8) (w : World), Lies w A c n l → n ≤ 1000 → Calls Try.prog 14 #[.slice A n c] w (ObOut w l)
def CellsOk : Prop := ∀ (x : C3) (w : World), x.Wf → Calls Try.prog 11 #[c3V x] w (CelOut w x)
def OfCellsOk : Prop := ∀ (A : Option Addr) (c n : Nat) (l : List UInt8) (w : World), Lies w A c n l → n ≤ 1000 → Calls Try.prog 16 #[.slice A n c] w (OcOut w l)
/-- which sector, which cell -/
def plS (n : Int) : Int := if n < 0 then -1 else n / 3
def plC (n : Int) : Int := if n < 0 then -1 else n % 3
def PlaceOk : Prop := ∀ (n : Int) (w : World), okI n → Calls Try.prog 18 #[.int .i64 n] w fun e w' => e = .returned (.tuple #[.int .i64 (plS n), .int .i64 (plC n)]) ∧ Below w.heap.size w w'
def NewerOk : Prop := ∀ (n a : Int) (w : World), Calls Try.prog 21 #[.int .i64 n, .int .i64 a] w fun e w' => e = .returned (.bool (decide (n < a))) ∧ Below w.heap.size w w'
structure PageOk : Prop where
  block : BlockOk
  ofblock : OfBlockOk
  cells : CellsOk
  ofcells : OfCellsOk
  place : PlaceOk
  newer : NewerOk

theorem refplace_any (n : Int) (w : World) (hn : okI n) : Calls Try.prog 19 #[.int .i64 n] w fun e w' => e = .returned (.tuple #[.int .i64 (plS n), .int .i64 (plC n)]) ∧ Below w.heap.size w w' := by
  obtain ⟨h1, h2⟩ := hn
  by_cases h : n < 0
  · have e1 : plS n = -1 := if_pos h
    have e2 : plC n = -1 := if_pos h
    rw [e1, e2]
    clear e1 e2
    go_enter Try.func19, Try.ntmps19
    go_wp2_with fail
    go_ret2
    exact ⟨rfl, Below.refl _ _⟩
  · have e1 : plS n = n / 3 := if_neg h
    have e2 : plC n = n % 3 := if_neg h
    rw [e1, e2]
    clear e1 e2
    obtain ⟨X, rfl⟩ : ∃ X : Nat, n = (X : Int) := ⟨n.toNat, (Int.toNat_of_nonneg (by omega)).symm⟩
    have hd : decide ((X : Int) < 0) = false := decide_eq_false h
    have t1 : Int.tdiv (X : Int) 3 = (X : Int) / 3 := Int.tdiv_eq_ediv_of_nonneg (by omega)
    have t2 : Int.tmod (X : Int) 3 = (X : Int) % 3 := Int.tmod_eq_emod_of_nonneg (by omega)
    go_enter Try.func19, Try.ntmps19
    go_wp2_with fail
    go_ret2
    refine ⟨?_, Below.refl _ _⟩
    first | rfl | (simp; done) | (simp; omega)

def z32 : List UInt8 := List.replicate 32 0
theorem blk5 : blkE 5 z32 = 0 ∧ blkB 5 z32 = sect (blkH 5 z32) := by
  have h : Lsn 5 ∧ z32.length = 32 := ⟨⟨by decide, by decide⟩, List.length_replicate⟩
  exact ⟨if_pos h, if_pos h⟩

set_option maxHeartbeats 1000000 in
theorem awake_any (P : PageOk) (w : World) : Calls Try.prog 8 #[] w fun e w' => e = .returned (.bool true) ∧ Below w.heap.size w w' := by
  have HP := Lib.hid P
  clear P
  obtain ⟨w7, hmk, ho7, hb7⟩ := run_zeros w 32 (by omega)
  have HMK := Lib.hid hmk
  have HB7 := Lib.hid hb7
  have HL7 := Lib.hid ho7.lies
  clear hmk hb7 ho7
  go_enter Try.func8, Try.ntmps8
  go_wp2_with (at_make; refine wpList_make_run rfl 22 _ _ rfl rfl rfl HMK.out ?_)
  refine (HP.out.block 5 _ 32 32 z32 w7 ⟨by decide, by decide⟩ HL7.out (by omega)).mono ?_
  rintro e w1 ⟨A1, n1, c1, rfl, hn1, ho1, hb1⟩
  rw [blk5.1]
  rw [blk5.2] at hn1 ho1
  have hz : (sect (blkH 5 z32)).length = 64 := length_blk 5 z32 List.length_replicate
  rw [hz] at hn1
  subst hn1
  have HL1 := Lib.hid ho1.lies
  have HB1 := Lib.hid (HB7.out.trans (hb1.mono HB7.out.size))
  clear hz ho1 hb1 HMK HL7 HB7
  go_wp2_with fail
  refine (HP.out.ofblock A1 c1 64 _ w1 HL1.out (by omega)).mono ?_
  rintro e w2 ⟨A2, n2, c2, rfl, hn2, ho2, hb2⟩
  obtain ⟨b1, b2, b3, _⟩ := blk_back 5 z32 ⟨by decide, by decide⟩ List.length_replicate
  rw [b1, b2]
  rw [b3] at hn2
  replace hn2 : n2 = 32 := by rw [hn2]; exact List.length_replicate
  subst hn2
  have HB2 := Lib.hid (HB1.out.trans (hb2.mono HB1.out.size))
  clear ho2 hb2 b1 b2 b3 HL1 HB1
  have HN := fun W => HP.out.newer 5 6 W
  have HM := fun W => HP.out.newer 5 5 W
  have e1 : decide ((5 : Int) < 6) = true := by decide
  have e2 : decide ((5 : Int) < 5) = false := by decide
  simp only [e1] at HN
  simp only [e2] at HM
  have HN := Lib.hid HN
  have HM := Lib.hid HM
  clear e1 e2
  go_wp2_with fail
  refine (HN.out _).mono ?_
  rintro e w3 ⟨rfl, hb3⟩
  have HB3 := Lib.hid (HB2.out.trans (hb3.mono HB2.out.size))
  clear hb3
  go_wp2_with fail
  refine (HM.out _).mono ?_
  rintro e w4 ⟨rfl, hb4⟩
  have HB4 := Lib.hid (HB3.out.trans (hb4.mono HB3.out.size))
  clear hb4
  go_wp2_with fail
  go_ret
  exact ⟨rfl, HB4.out⟩

end Go.Proofs.Ytknjkihcpcimpaa
