/-
  What the program's own reader answers, whatever bytes it stands over and wherever its place is: the next number, the next bytes, how many are left; and that its place moves just where a call is OK.
-/
import Derived.Test.YtofekbipbndbbaaPutOne
import Derived.Deep.QuietTactic
import Derived.BigQuiet
import Derived.Laws.BitsAllLaws
namespace Go.Proofs.Ytofekbipbndbbaa
open Go.RowKit Wm

theorem hide2 {p : Prop} (h : p) : Hid p := h
theorem setCell_grown (w : World) (g o : Nat) (u : Value) : w.grownBy (w.setCell ⟨g, o, none⟩ u) (some g) :=
  ⟨rfl, rfl, rfl, by simp [World.setCell], fun k _ hk => Below.heap_setCell w ⟨g, o, none⟩ u k (fun e => hk (by rw [e]))⟩

theorem grown_drewN {w W : World} {q : Nat} {r : Option Nat} (h : (w.drewN q).grownBy W r) : w.grownBy W r := ⟨h.os, h.tape, h.output, h.size, h.block⟩

theorem grown_then_drewN {w W : World} {r : Option Nat} (h : w.grownBy W r) (q : Nat) : w.grownBy (W.drewN q) r := ⟨h.os, h.tape, h.output, h.size, h.block⟩
theorem grown_trans {a b c : World} {r : Option Nat} (h : a.grownBy b r) (k : b.grownBy c r) : a.grownBy c r :=
  ⟨k.os.trans h.os, k.tape.trans h.tape, k.output.trans h.output, Nat.le_trans h.size k.size, fun i hi hr => (k.block i (Nat.lt_of_lt_of_le hi h.size) hr).trans (h.block i hi hr)⟩

/-- a block that holds bytes and a place: a reader's, or a cursor's, the block's type t -/
structure Cur (w : World) (g : Nat) (t : TypeId) (A : Option Addr) (cap n k : Nat) (l : List UInt8) : Prop where
  blk : w.heap[g]? = some (.cells #[.slice A n cap, .int .i64 (k : Int)] t (0, 0))
  le : k ≤ n
  len : l.length = n
  cap_ : n ≤ cap
  nm : n ≤ 4611686018427387904
  rd : Rd w g A l

section
variable {w w' : World} {g t cap n k : Nat} {A : Option Addr} {l : List UInt8}
theorem Cur.lt (h : Cur w g t A cap n k l) : g < w.heap.size := lt_of_block h.blk
theorem Cur.c0 (h : Cur w g t A cap n k l) : w.cell? ⟨g, 0, none⟩ = some (.slice A n cap) := by rw [cell_of_row _ _ _ _ _ _ h.blk]; rfl
theorem Cur.c1 (h : Cur w g t A cap n k l) : w.cell? ⟨g, 1, none⟩ = some (.int .i64 (k : Int)) := by rw [cell_of_row _ _ _ _ _ _ h.blk]; rfl
theorem Cur.fr (h : Cur w g t A cap n k l) (i : Nat) : w.frozen? ⟨g, i, none⟩ = false := frozen_of_row _ _ _ _ _ h.blk
theorem Cur.keep (h : Cur w g t A cap n k l) {r : Nat} (hg : w.grownBy w' (some r)) (hr : g < r) : Cur w' g t A cap n k l :=
  ⟨(hg.block g h.lt (by intro e; injection e with e; omega)).trans h.blk, h.le, h.len, h.cap_, h.nm, h.rd.grown hg (Nat.le_of_lt h.lt) (by omega)⟩
theorem Cur.below (h : Cur w g t A cap n k l) (hb : Below w.heap.size w w') : Cur w' g t A cap n k l :=
  ⟨(hb.block g h.lt).trans h.blk, h.le, h.len, h.cap_, h.nm, h.rd.below' hb (Nat.le_of_lt h.lt)⟩
/-- the place is set -/
theorem Cur.move (h : Cur w g t A cap n k l) {j : Nat} (hj : j ≤ n) : Cur (w.setCell ⟨g, 1, none⟩ (.int .i64 (j : Int))) g t A cap n j l :=
  ⟨by rw [heap_setCell_same _ _ _ _ _ _ h.blk]; rfl, hj, h.len, h.cap_, h.nm, h.rd.keep fun p hp => World.cell?_setCell_other _ _ _ _ (fun e => by rw [← e] at hp; simp at hp)⟩
theorem Cur.drewN (h : Cur w g t A cap n k l) (m : Nat) : Cur (w.drewN m) g t A cap n k l := ⟨h.blk, h.le, h.len, h.cap_, h.nm, h.rd.keep fun _ _ => rfl⟩
end

set_option maxHeartbeats 400000 in
theorem left_any {w : World} {g t cap n k : Nat} {A : Option Addr} {l : List UInt8} (h : Cur w g t A cap n k l) :
    Calls Try.prog 58 #[.pointer (some ⟨g, 0, none⟩)] w fun e w' => e = .returned (.int .i64 ((n : Int) - (k : Int))) ∧ ∃ m, w' = w.drewN m := by
  have h0 := h.c0
  have h1 := h.c1
  have b1 := h.le
  have b2 := h.cap_
  have b3 := h.nm
  clear h
  go_enter Try.func58, Try.ntmps58
  go_wp2
  go_quiet (fail)
  go_wp2
  go_ret
  exact ⟨rfl, _, rfl⟩

set_option maxHeartbeats 400000 in
theorem take_short {w : World} {g t cap n k : Nat} {A : Option Addr} {l : List UInt8} (h : Cur w g t A cap n k l) (m : Int) (hm : (n : Int) - k < m) :
    Calls Try.prog 57 #[.pointer (some ⟨g, 0, none⟩), .int .i64 m] w fun e w' => e = .returned (.tuple #[.slice none 0 0, .int .i64 2]) ∧ ∃ m, w' = w.drewN m := by
  go_enter Try.func57, Try.ntmps57
  go_wp2_with (go_at_call 58; refine (left_any h).mono ?_; rintro e w' ⟨rfl, q, rfl⟩)
  go_ret2
  exact ⟨rfl, _, rfl⟩

/-- m bytes are taken: they are told where they lie, and the place is behind them -/
def TookOk (w : World) (g t : Nat) (A : Option Addr) (cap n k m : Nat) (l : List UInt8) (e : Ending) (w' : World) : Prop :=
  ∃ A' c', e = .returned (.tuple #[.slice A' m c', .int .i64 0]) ∧ (∀ V B, Rd V B A l → Rd V B A' ((l.drop k).take m)) ∧ Cur w' g t A cap n (k + m) l ∧ w.grownBy w' (some g)

theorem TookOk.mk {w W : World} {g t : Nat} {A : Option Addr} {cap n k m : Nat} {l : List UInt8} (h : Hid (Cur W g t A cap n (k + m) l)) (hg : w.grownBy W (some g)) (q : Nat) {A' : Option Addr} (c' : Nat)
    (hA : A' = if cap = k then A else Option.map (fun x => x.add k) A) {m' : Nat} (hm : m' = m) : TookOk w g t A cap n k m l (.returned (.tuple #[.slice A' m' c', .int .i64 0])) (W.drewN q) := by
  have h := h.out
  subst hm
  refine ⟨A', c', rfl, ?_, h.drewN q, ⟨hg.os, hg.tape, hg.output, hg.size, hg.block⟩⟩
  refine fun V B hV => Rd.cut hV k _ A' fun b o e hk => ?_
  have hne : cap ≠ k := by have := h.len; have := h.cap_; omega
  rw [hA, if_neg hne, e]
  unfold Addr.add
  split
  · next h0 => subst h0; rfl
  · rfl

set_option maxHeartbeats 400000 in
theorem take_ok {w : World} {g t cap n k : Nat} {A : Option Addr} {l : List UInt8} (h : Cur w g t A cap n k l) (m : Nat) (hm : m ≤ n - k) :
    Calls Try.prog 57 #[.pointer (some ⟨g, 0, none⟩), .int .i64 m] w (TookOk w g t A cap n k m l) := by
  have b1 := h.le
  have b2 := h.cap_
  have b3 := h.nm
  go_enter Try.func57, Try.ntmps57
  go_wp2_with fail
  refine (left_any h).mono ?_
  rintro e w' ⟨rfl, q, rfl⟩
  have h1 := h.drewN q
  have c0 := h1.c0
  have c1 := h1.c1
  have f1 := h1.fr 1
  have h2 : Cur ((w.drewN q).setCell ⟨g, 1, none⟩ (.int .i64 ((k : Int) + (m : Int)))) g t A cap n (k + m) l := h1.move (j := k + m) (by omega)
  have hg2 : w.grownBy ((w.drewN q).setCell ⟨g, 1, none⟩ (.int .i64 ((k : Int) + (m : Int)))) (some g) :=
    grown_drewN (setCell_grown (w.drewN q) g 1 (.int .i64 ((k : Int) + (m : Int))))
  go_wp2_with fail
  generalize (w.drewN q).setCell ⟨g, 1, none⟩ (.int .i64 ((k : Int) + (m : Int))) = W at *
  have d0 := h2.c0
  have d1 : W.cell? ⟨g, 1, none⟩ = some (.int .i64 ((k : Int) + (m : Int))) := h2.c1
  clear h c0 c1 f1 h1
  have h3 := hide2 h2
  clear h2
  rcases Nat.lt_or_ge k cap with hck | hck
  · go_quiet (fail)
    go_wp2
    go_ret2
    exact TookOk.mk h3 hg2 _ _ (by rw [if_neg (by omega)]) (by omega)
  · obtain rfl : cap = k := by omega
    clear hck
    go_quiet (fail)
    go_wp2
    go_ret2
    exact TookOk.mk h3 hg2 _ _ (by rw [if_pos rfl]) (by omega)

set_option maxHeartbeats 400000 in
theorem number_short {w : World} {g t cap n k : Nat} {A : Option Addr} {l : List UInt8} (h : Cur w g t A cap n k l) (m : Int) (hm : (n : Int) - k < m) :
    Calls Try.prog 55 #[.pointer (some ⟨g, 0, none⟩), .int .i64 m] w fun e w' => e = .returned (.tuple #[.int .u64 0, .int .i64 2]) ∧ ∃ m, w' = w.drewN m := by
  go_enter Try.func55, Try.ntmps55
  go_wp2_with (go_at_call 57; refine (take_short h m hm).mono ?_; rintro e w' ⟨rfl, q, rfl⟩)
  refine wp_loop_rounds 1 ?_; rw [rounds_succ]
  go_wp2
  go_ret2
  exact ⟨rfl, _, rfl⟩

/-- the next byte of a number, and what the number is with it -/
theorem byte_next {W : World} {B m j : Nat} {A : Option Addr} {bs : List UInt8} (h : Rd W B A bs) (hlen : Hid (bs.length = m)) (hm8 : m ≤ 8) (hj : j < m) :
    ∃ b o y, A = some ⟨b, o, none⟩ ∧ b < B ∧ W.cell? ⟨b, o + j, none⟩ = some (.int .u8 ((y : Nat) : Int)) ∧ y ≤ 255 ∧
      Hid (valB (bs.take j) ||| (y <<< (8 * j)) = valB (bs.take (j + 1)) ∧ y <<< (8 * j) < 18446744073709551616 ∧ valB (bs.take j) < 18446744073709551616) := by
  have hl := hlen.out
  obtain ⟨b, o, e, hb, hc⟩ := h.cell (j := j) (by omega)
  refine ⟨b, o, _, e, hb, hc, by have := bs[j].toNat_lt; omega, ?_, ?_, ?_⟩
  · rw [valB_or _ _ j (by rw [List.length_take]; omega), take_snoc bs j (by omega)]
  · exact byte_shift_lt _ _ (by omega)
  · exact valB_u64 _ (by rw [List.length_take]; omega)

/-- a number is told, and the place is behind it -/
def NumOk (w : World) (g t : Nat) (A : Option Addr) (cap n k m : Nat) (l : List UInt8) (e : Ending) (w' : World) : Prop :=
  e = .returned (.tuple #[.int .u64 (valB ((l.drop k).take m) : Int), .int .i64 0]) ∧ Cur w' g t A cap n (k + m) l ∧ w.grownBy w' (some g)

theorem or_next {a y s c : Nat} (h : a ||| (y <<< s) = c ∧ y <<< s < 18446744073709551616 ∧ a < 18446744073709551616) : bits .or .u64 (a : Int) (IntKind.u64.wrap ((y : Int) * 2 ^ s)) = (c : Int) := by
  obtain ⟨h1, h2, h3⟩ := h
  have e : ((y : Int) * 2 ^ s) = ((y <<< s : Nat) : Int) := by rw [Nat.shiftLeft_eq]; simp
  rw [e]
  clear e
  generalize y <<< s = z at *
  rw [IntWalk.u64_in _ ⟨by omega, by omega⟩, u64_or_nat _ _ h3 h2, h1]

theorem NumOk.mk {w W : World} {g t : Nat} {A : Option Addr} {cap n k m j : Nat} {l bs : List UInt8} (hj : j ≤ m) (hlt : ¬ j < m) (hlen : Hid (bs.length = m)) (HB : Hid ((l.drop k).take m = bs)) (h : Hid (Cur W g t A cap n (k + m) l)) (hg : Hid (w.grownBy W (some g))) :
    NumOk w g t A cap n k m l (.returned (.tuple #[.int .u64 (valB (bs.take j) : Int), .int .i64 0])) W := by
  refine ⟨?_, h.out, hg.out⟩
  rw [HB.out, List.take_of_length_le (by rw [hlen.out]; omega)]

set_option maxHeartbeats 400000 in
theorem number_ok {w : World} {g t cap n k : Nat} {A : Option Addr} {l : List UInt8} (h : Cur w g t A cap n k l) (m : Nat) (hm : m ≤ n - k) (hm8 : m ≤ 8) :
    Calls Try.prog 55 #[.pointer (some ⟨g, 0, none⟩), .int .i64 m] w (NumOk w g t A cap n k m l) := by
  have hlen : Hid (((l.drop k).take m).length = m) := by
    have := h.len; have := h.le
    show _ = _
    rw [List.length_take, List.length_drop]
    omega
  go_enter Try.func55, Try.ntmps55
  go_wp2_with fail
  refine (take_ok h m hm).mono ?_
  rintro e w' ⟨A', c', rfl, hrd0, hcur, hg⟩
  have hrd := hrd0 _ _ hcur.rd
  clear hrd0
  have HC := hide2 hcur
  have HG := hide2 hg
  clear hcur hg h
  generalize hB : (l.drop k).take m = bs at *
  have HB := Lib.hid hB
  clear hB
  go_wp2_with fail
  go_loop [8, 19] (fun v i => ∃ j : Nat, j ≤ m ∧ i = .int .i64 j ∧ v = .int .u64 (valB (bs.take j) : Int)) (fun _ i => m - (intOf i).toNat)
  case atStart => exact ⟨0, Nat.zero_le _, rfl, by simp [valB]⟩
  case round =>
    obtain ⟨j, hj, rfl, rfl⟩ := hrel
    by_cases hlt : j < m
    · obtain ⟨b, o, y, rfl, hb, hc, hy, HN⟩ := byte_next hrd hlen hm8 hlt
      go_wp2
      go_round
      case rel => exact ⟨j + 1, by omega, by go_num, congrArg _ (or_next HN.out)⟩
      case measure => simp [intOf]; omega
    · go_wp2
      go_ret2
      exact NumOk.mk hj hlt hlen HB HC HG

/-- how many bytes the two bytes at the place say -/
def cntB (l : List UInt8) (k : Nat) : Nat := valB ((l.drop k).take 2)
theorem cntB_lt (l : List UInt8) (k : Nat) : cntB l k ≤ 65535 := by
  have h1 := valB_lt ((l.drop k).take 2)
  have h2 : ((l.drop k).take 2).length ≤ 2 := by rw [List.length_take]; omega
  have h3 : 256 ^ ((l.drop k).take 2).length ≤ 256 ^ 2 := Nat.pow_le_pow_right (by omega) h2
  unfold cntB
  omega

/-- a list is refused behind its count -/
def ListNot (w : World) (g t : Nat) (A : Option Addr) (cap n k : Nat) (l : List UInt8) (err : Int) (e : Ending) (w' : World) : Prop :=
  e = .returned (.tuple #[.slice none 0 0, .int .i64 err]) ∧ Cur w' g t A cap n (k + 2) l ∧ w.grownBy w' (some g)

/-- a list is told, and the place is behind it -/
def ListOk (w : World) (g t : Nat) (A : Option Addr) (cap n k m : Nat) (l : List UInt8) (e : Ending) (w' : World) : Prop :=
  ∃ A' c', e = .returned (.tuple #[.slice A' m c', .int .i64 0]) ∧ (∀ V B, Rd V B A l → Rd V B A' ((l.drop (k + 2)).take m)) ∧ Cur w' g t A cap n (k + 2 + m) l ∧ w.grownBy w' (some g)

end Go.Proofs.Ytofekbipbndbbaa
