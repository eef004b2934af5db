/-
  What the program's own reader answers, whatever bytes it stands over and wherever its place is: the next number, the next bytes, how many are left; and that its place moves just where a call is OK.
-/
import Derived.Test.YtjpnihmijnpjcaaPutOne
import Derived.Deep.QuietTactic
import Derived.BigQuiet
import Derived.Laws.BitsAllLaws
import Derived.Laws.ResultCell
import Derived.Test.YtjpnihmijnpjcaaSince
namespace Go.Proofs.Ytjpnihmijnpjcaa
set_option maxRecDepth 100000
open Go.RowKit Wm

theorem hide2 {p : Prop} (h : p) : Hid p := h
theorem setCell_grown (w : World) (g o : Nat) (u : Value) : w.grownBy (w.setCell ⟨g, o, none⟩ u) (some g) :=
  ⟨rfl, rfl, rfl, by simp [World.setCell], fun k _ hk => Below.heap_setCell w ⟨g, o, none⟩ u k (fun e => hk (by rw [e]))⟩

theorem grown_drewN {w W : World} {q : Nat} {r : Option Nat} (h : (w.drewN q).grownBy W r) : w.grownBy W r := ⟨h.os, h.tape, h.output, h.size, h.block⟩

theorem grown_then_drewN {w W : World} {r : Option Nat} (h : w.grownBy W r) (q : Nat) : w.grownBy (W.drewN q) r := ⟨h.os, h.tape, h.output, h.size, h.block⟩
theorem grown_trans {a b c : World} {r : Option Nat} (h : a.grownBy b r) (k : b.grownBy c r) : a.grownBy c r :=
  ⟨k.os.trans h.os, k.tape.trans h.tape, k.output.trans h.output, Nat.le_trans h.size k.size, fun i hi hr => (k.block i (Nat.lt_of_lt_of_le hi h.size) hr).trans (h.block i hi hr)⟩

/-- a block that holds bytes and a place: a reader's, or a cursor's, the block's type t -/
structure Cur (w : World) (g : Nat) (t : TypeId) (A : Option Addr) (cap n k : Nat) (l : List UInt8) : Prop where
  blk : w.heap[g]? = some (.cells #[.slice A n cap, .int .i64 (k : Int)] t (0, 0))
  le : k ≤ n
  len : l.length = n
  cap_ : n ≤ cap
  nm : n ≤ 4611686018427387904
  rd : Rd w g A l

section
variable {w w' : World} {g t cap n k : Nat} {A : Option Addr} {l : List UInt8}
theorem Cur.lt (h : Cur w g t A cap n k l) : g < w.heap.size := lt_of_block h.blk
theorem Cur.c0 (h : Cur w g t A cap n k l) : w.cell? ⟨g, 0, none⟩ = some (.slice A n cap) := by rw [cell_of_row _ _ _ _ _ _ h.blk]; rfl
theorem Cur.c1 (h : Cur w g t A cap n k l) : w.cell? ⟨g, 1, none⟩ = some (.int .i64 (k : Int)) := by rw [cell_of_row _ _ _ _ _ _ h.blk]; rfl
theorem Cur.fr (h : Cur w g t A cap n k l) (i : Nat) : w.frozen? ⟨g, i, none⟩ = false := frozen_of_row _ _ _ _ _ h.blk
theorem Cur.keep (h : Cur w g t A cap n k l) {r : Nat} (hg : w.grownBy w' (some r)) (hr : g < r) : Cur w' g t A cap n k l :=
  ⟨(hg.block g h.lt (by intro e; injection e with e; omega)).trans h.blk, h.le, h.len, h.cap_, h.nm, h.rd.grown hg (Nat.le_of_lt h.lt) (by omega)⟩
theorem Cur.below (h : Cur w g t A cap n k l) (hb : Below w.heap.size w w') : Cur w' g t A cap n k l :=
  ⟨(hb.block g h.lt).trans h.blk, h.le, h.len, h.cap_, h.nm, h.rd.below' hb (Nat.le_of_lt h.lt)⟩
/-- the place is set -/
theorem Cur.move (h : Cur w g t A cap n k l) {j : Nat} (hj : j ≤ n) : Cur (w.setCell ⟨g, 1, none⟩ (.int .i64 (j : Int))) g t A cap n j l :=
  ⟨by rw [heap_setCell_same _ _ _ _ _ _ h.blk]; rfl, hj, h.len, h.cap_, h.nm, h.rd.keep fun p hp => World.cell?_setCell_other _ _ _ _ (fun e => by rw [← e] at hp; simp at hp)⟩
theorem Cur.drewN (h : Cur w g t A cap n k l) (m : Nat) : Cur (w.drewN m) g t A cap n k l := ⟨h.blk, h.le, h.len, h.cap_, h.nm, h.rd.keep fun _ _ => rfl⟩
end

set_option maxHeartbeats 400000 in
theorem left_any {w : World} {g t cap n k : Nat} {A : Option Addr} {l : List UInt8} (h : Cur w g t A cap n k l) :
    Calls Try.prog 59 #[.pointer (some ⟨g, 0, none⟩)] w fun e w' => e = .returned (.int .i64 ((n : Int) - (k : Int))) ∧ ∃ m, w' = w.drewN m := by
  have h0 := h.c0
  have h1 := h.c1
  have b1 := h.le
  have b2 := h.cap_
  have b3 := h.nm
  clear h
  go_enter Try.func59, Try.ntmps59
  go_wp2
  go_quiet (fail)
  go_wp2
  go_ret
  exact ⟨rfl, _, rfl⟩

set_option maxHeartbeats 400000 in
theorem take_short {w : World} {g t cap n k : Nat} {A : Option Addr} {l : List UInt8} (h : Cur w g t A cap n k l) (m : Int) (hm : (n : Int) - k < m) :
    Calls Try.prog 60 #[.pointer (some ⟨g, 0, none⟩), .int .i64 m] w fun e w' => e = .returned (.tuple #[.slice none 0 0, .int .i64 2]) ∧ ∃ m, w' = w.drewN m := by
  go_enter Try.func60, Try.ntmps60
  go_wp2_with (go_at_call 59; refine (left_any h).mono ?_; rintro e w' ⟨rfl, q, rfl⟩)
  go_ret2
  exact ⟨rfl, _, rfl⟩

/-- m bytes are taken: they are told where they lie, and the place is behind them -/
def TookOk (w : World) (g t : Nat) (A : Option Addr) (cap n k m : Nat) (l : List UInt8) (e : Ending) (w' : World) : Prop :=
  ∃ A' c', e = .returned (.tuple #[.slice A' m c', .int .i64 0]) ∧ (∀ V B, Rd V B A l → Rd V B A' ((l.drop k).take m)) ∧ Cur w' g t A cap n (k + m) l ∧ w.grownBy w' (some g)

theorem TookOk.mk {w W : World} {g t : Nat} {A : Option Addr} {cap n k m : Nat} {l : List UInt8} (h : Hid (Cur W g t A cap n (k + m) l)) (hg : w.grownBy W (some g)) (q : Nat) {A' : Option Addr} (c' : Nat)
    (hA : A' = if cap = k then A else Option.map (fun x => x.add k) A) {m' : Nat} (hm : m' = m) : TookOk w g t A cap n k m l (.returned (.tuple #[.slice A' m' c', .int .i64 0])) (W.drewN q) := by
  have h := h.out
  subst hm
  refine ⟨A', c', rfl, ?_, h.drewN q, ⟨hg.os, hg.tape, hg.output, hg.size, hg.block⟩⟩
  refine fun V B hV => Rd.cut hV k _ A' fun b o e hk => ?_
  have hne : cap ≠ k := by have := h.len; have := h.cap_; omega
  rw [hA, if_neg hne, e]
  unfold Addr.add
  split
  · next h0 => subst h0; rfl
  · rfl

set_option maxHeartbeats 400000 in
theorem take_ok {w : World} {g t cap n k : Nat} {A : Option Addr} {l : List UInt8} (h : Cur w g t A cap n k l) (m : Nat) (hm : m ≤ n - k) :
    Calls Try.prog 60 #[.pointer (some ⟨g, 0, none⟩), .int .i64 m] w (TookOk w g t A cap n k m l) := by
  have b1 := h.le
  have b2 := h.cap_
  have b3 := h.nm
  go_enter Try.func60, Try.ntmps60
  go_wp2_with fail
  refine (left_any h).mono ?_
  rintro e w' ⟨rfl, q, rfl⟩
  have h1 := h.drewN q
  have c0 := h1.c0
  have c1 := h1.c1
  have f1 := h1.fr 1
  have h2 : Cur ((w.drewN q).setCell ⟨g, 1, none⟩ (.int .i64 ((k : Int) + (m : Int)))) g t A cap n (k + m) l := h1.move (j := k + m) (by omega)
  have hg2 : w.grownBy ((w.drewN q).setCell ⟨g, 1, none⟩ (.int .i64 ((k : Int) + (m : Int)))) (some g) :=
    grown_drewN (setCell_grown (w.drewN q) g 1 (.int .i64 ((k : Int) + (m : Int))))
  go_wp2_with fail
  generalize (w.drewN q).setCell ⟨g, 1, none⟩ (.int .i64 ((k : Int) + (m : Int))) = W at *
  have d0 := h2.c0
  have d1 : W.cell? ⟨g, 1, none⟩ = some (.int .i64 ((k : Int) + (m : Int))) := h2.c1
  clear h c0 c1 f1 h1
  have h3 := hide2 h2
  clear h2
  rcases Nat.lt_or_ge k cap with hck | hck
  · go_quiet (fail)
    go_wp2
    go_ret2
    exact TookOk.mk h3 hg2 _ _ (by rw [if_neg (by omega)]) (by omega)
  · obtain rfl : cap = k := by omega
    clear hck
    go_quiet (fail)
    go_wp2
    go_ret2
    exact TookOk.mk h3 hg2 _ _ (by rw [if_pos rfl]) (by omega)

set_option maxHeartbeats 400000 in
theorem number_short {w : World} {g t cap n k : Nat} {A : Option Addr} {l : List UInt8} (h : Cur w g t A cap n k l) (m : Int) (hm : (n : Int) - k < m) :
    Calls Try.prog 57 #[.pointer (some ⟨g, 0, none⟩), .int .i64 m] w fun e w' => e = .returned (.tuple #[.int .u64 0, .int .i64 2]) ∧ ∃ m, w' = w.drewN m := by
  go_enter Try.func57, Try.ntmps57
  go_wp2_with (go_at_call 60; refine (take_short h m hm).mono ?_; rintro e w' ⟨rfl, q, rfl⟩)
  refine wp_loop_rounds 1 ?_; rw [rounds_succ]
  go_wp2
  go_ret2
  exact ⟨rfl, _, rfl⟩

/-- the next byte of a number, and what the number is with it -/
theorem byte_next {W : World} {B m j : Nat} {A : Option Addr} {bs : List UInt8} (h : Rd W B A bs) (hlen : Hid (bs.length = m)) (hm8 : m ≤ 8) (hj : j < m) :
    ∃ b o y, A = some ⟨b, o, none⟩ ∧ b < B ∧ W.cell? ⟨b, o + j, none⟩ = some (.int .u8 ((y : Nat) : Int)) ∧ y ≤ 255 ∧
      Hid (valB (bs.take j) ||| (y <<< (8 * j)) = valB (bs.take (j + 1)) ∧ y <<< (8 * j) < 18446744073709551616 ∧ valB (bs.take j) < 18446744073709551616) := by
  have hl := hlen.out
  obtain ⟨b, o, e, hb, hc⟩ := h.cell (j := j) (by omega)
  refine ⟨b, o, _, e, hb, hc, by have := bs[j].toNat_lt; omega, ?_, ?_, ?_⟩
  · rw [valB_or _ _ j (by rw [List.length_take]; omega), take_snoc bs j (by omega)]
  · exact byte_shift_lt _ _ (by omega)
  · exact valB_u64 _ (by rw [List.length_take]; omega)

/-- a number is told, and the place is behind it -/
def NumOk (w : World) (g t : Nat) (A : Option Addr) (cap n k m : Nat) (l : List UInt8) (e : Ending) (w' : World) : Prop :=
  e = .returned (.tuple #[.int .u64 (valB ((l.drop k).take m) : Int), .int .i64 0]) ∧ Cur w' g t A cap n (k + m) l ∧ w.grownBy w' (some g)

theorem or_next {a y s c : Nat} (h : a ||| (y <<< s) = c ∧ y <<< s < 18446744073709551616 ∧ a < 18446744073709551616) : bits .or .u64 (a : Int) (IntKind.u64.wrap ((y : Int) * 2 ^ s)) = (c : Int) := by
  obtain ⟨h1, h2, h3⟩ := h
  have e : ((y : Int) * 2 ^ s) = ((y <<< s : Nat) : Int) := by rw [Nat.shiftLeft_eq]; simp
  rw [e]
  clear e
  generalize y <<< s = z at *
  rw [IntWalk.u64_in _ ⟨by omega, by omega⟩, u64_or_nat _ _ h3 h2, h1]

theorem NumOk.mk {w W : World} {g t : Nat} {A : Option Addr} {cap n k m j : Nat} {l bs : List UInt8} (hj : j ≤ m) (hlt : ¬ j < m) (hlen : Hid (bs.length = m)) (HB : Hid ((l.drop k).take m = bs)) (h : Hid (Cur W g t A cap n (k + m) l)) (hg : Hid (w.grownBy W (some g))) :
    NumOk w g t A cap n k m l (.returned (.tuple #[.int .u64 (valB (bs.take j) : Int), .int .i64 0])) W := by
  refine ⟨?_, h.out, hg.out⟩
  rw [HB.out, List.take_of_length_le (by rw [hlen.out]; omega)]

set_option maxHeartbeats 400000 in
theorem number_ok {w : World} {g t cap n k : Nat} {A : Option Addr} {l : List UInt8} (h : Cur w g t A cap n k l) (m : Nat) (hm : m ≤ n - k) (hm8 : m ≤ 8) :
    Calls Try.prog 57 #[.pointer (some ⟨g, 0, none⟩), .int .i64 m] w (NumOk w g t A cap n k m l) := by
  have hlen : Hid (((l.drop k).take m).length = m) := by
    have := h.len; have := h.le
    show _ = _
    rw [List.length_take, List.length_drop]
    omega
  go_enter Try.func57, Try.ntmps57
  go_wp2_with fail
  refine (take_ok h m hm).mono ?_
  rintro e w' ⟨A', c', rfl, hrd0, hcur, hg⟩
  have hrd := hrd0 _ _ hcur.rd
  clear hrd0
  have HC := hide2 hcur
  have HG := hide2 hg
  clear hcur hg h
  generalize hB : (l.drop k).take m = bs at *
  have HB := Lib.hid hB
  clear hB
  go_wp2_with fail
  go_loop [8, 19] (fun v i => ∃ j : Nat, j ≤ m ∧ i = .int .i64 j ∧ v = .int .u64 (valB (bs.take j) : Int)) (fun _ i => m - (intOf i).toNat)
  case atStart => exact ⟨0, Nat.zero_le _, rfl, by simp [valB]⟩
  case round =>
    obtain ⟨j, hj, rfl, rfl⟩ := hrel
    by_cases hlt : j < m
    · obtain ⟨b, o, y, rfl, hb, hc, hy, HN⟩ := byte_next hrd hlen hm8 hlt
      go_wp2
      go_round
      case rel => exact ⟨j + 1, by omega, by go_num, congrArg _ (or_next HN.out)⟩
      case measure => simp [intOf]; omega
    · go_wp2
      go_ret2
      exact NumOk.mk hj hlt hlen HB HC HG

/-- how many bytes the two bytes at the place say -/
def cntB (l : List UInt8) (k : Nat) : Nat := valB ((l.drop k).take 2)
theorem cntB_lt (l : List UInt8) (k : Nat) : cntB l k ≤ 65535 := by
  have h1 := valB_lt ((l.drop k).take 2)
  have h2 : ((l.drop k).take 2).length ≤ 2 := by rw [List.length_take]; omega
  have h3 : 256 ^ ((l.drop k).take 2).length ≤ 256 ^ 2 := Nat.pow_le_pow_right (by omega) h2
  unfold cntB
  omega

/-- a list is refused behind its count -/
def ListNot (w : World) (g t : Nat) (A : Option Addr) (cap n k : Nat) (l : List UInt8) (err : Int) (e : Ending) (w' : World) : Prop :=
  e = .returned (.tuple #[.slice none 0 0, .int .i64 err]) ∧ Cur w' g t A cap n (k + 2) l ∧ w.grownBy w' (some g)

/-- a list is told, and the place is behind it -/
def ListOk (w : World) (g t : Nat) (A : Option Addr) (cap n k m : Nat) (l : List UInt8) (e : Ending) (w' : World) : Prop :=
  ∃ A' c', e = .returned (.tuple #[.slice A' m c', .int .i64 0]) ∧ (∀ V B, Rd V B A l → Rd V B A' ((l.drop (k + 2)).take m)) ∧ Cur w' g t A cap n (k + 2 + m) l ∧ w.grownBy w' (some g)

end Go.Proofs.Ytjpnihmijnpjcaa

namespace Go.Proofs.Ytjpnihmijnpjcaa
set_option maxRecDepth 100000
open Go.RowKit Wm

theorem below_drewN {B : Nat} {a w : World} (h : Below B a w) (n : Nat) : Below B a (w.drewN n) := ⟨h.os, h.tape, h.output, h.size, h.block⟩

theorem here_nil (w : World) : Calls Try.prog 56 #[.pointer none] w fun e w' => e = .returned (.agg #[.slice none 0 0, .int .i64 0]) ∧ Below w.heap.size w w' := by
  go_enter Try.func56, Try.ntmps56
  go_wp2
  refine bodyPost_ret (v := .agg #[.slice none 0 0, .int .i64 0]) (by simp [results, Try.results56, go_sem]) rfl ⟨rfl, (Below.refl _ _).alloc (Nat.le_refl _) _⟩

set_option maxHeartbeats 400000 in
theorem here_any {w : World} {r cap n k : Nat} {A : Option Addr} {l : List UInt8} (h : Cur w r 82 A cap n k l) :
    Calls Try.prog 56 #[.pointer (some ⟨r, 0, none⟩)] w fun e w' => e = .returned (.agg #[.slice A n cap, .int .i64 (k : Int)]) ∧ Below w.heap.size w w' := by
  have hlt := h.lt
  have c0 : ∀ o, (w.alloc o).cell? ⟨r, 0, none⟩ = some (.slice A n cap) := fun o => (World.cell?_alloc_lt w o ⟨r, 0, none⟩ hlt).trans h.c0
  have c1 : ∀ o, (w.alloc o).cell? ⟨r, 1, none⟩ = some (.int .i64 (k : Int)) := fun o => (World.cell?_alloc_lt w o ⟨r, 1, none⟩ hlt).trans h.c1
  clear h
  go_enter Try.func56, Try.ntmps56
  go_wp2
  refine bodyPost_ret (v := .agg #[.slice A n cap, .int .i64 (k : Int)]) (by simp [results, Try.results56, go_sem]) rfl ⟨rfl, (Below.refl _ _).alloc (Nat.le_refl _) _⟩

theorem new_any {w : World} {A : Option Addr} {n cap : Nat} {l : List UInt8} (hl : Hid (l.length = n)) (hc : n ≤ cap) (hm : n ≤ 4611686018427387904) (hr : Rd w w.heap.size A l) :
    Calls Try.prog 29 #[.slice A n cap] w fun e w' => ∃ r, e = .returned (.pointer (some ⟨r, 0, none⟩)) ∧ Cur w' r 82 A cap n 0 l ∧ Below w.heap.size w w' ∧ w.heap.size ≤ r := by
  go_enter Try.func29, Try.ntmps29
  go_wp2
  go_ret
  exact ⟨w.heap.size, rfl, ⟨heap_alloc_new w _, Nat.zero_le _, hl.out, hc, hm, hr.keep fun p hp => World.cell?_alloc_lt w _ p hp⟩, (Below.refl _ _).alloc (Nat.le_refl _) _, Nat.le_refl _⟩

/-- a copy of a reader's cursor in a block of its own -/
theorem Cur.copy {w w1 : World} {r t cap n k : Nat} {A : Option Addr} {l : List UInt8} (h : Cur w r t A cap n k l) (hb : Below w.heap.size w w1) (u : Nat) :
    Cur (w1.alloc (.cells #[.slice A n cap, .int .i64 (k : Int)] u)) w1.heap.size u A cap n k l := by
  have h1 := h.below hb
  exact ⟨heap_alloc_new w1 _, h.le, h.len, h.cap_, h.nm, (h1.rd.more (Nat.le_of_lt h1.lt)).keep fun p hp => World.cell?_alloc_lt w1 _ p hp⟩
theorem Cur.zero (w1 : World) (u : Nat) : Cur (w1.alloc (.cells #[.slice none 0 0, .int .i64 0] u)) w1.heap.size u none 0 0 0 [] :=
  ⟨heap_alloc_new w1 _, Nat.le_refl _, rfl, Nat.le_refl _, Nat.zero_le _, .nil _ _ _⟩
/-- the cursor is put back, moved -/
theorem Cur.put {w : World} {r t cap n k : Nat} {A : Option Addr} {l : List UInt8} (h : Cur w r t A cap n k l) {j : Nat} (hj : j ≤ n) :
    Cur ((w.setCell ⟨r, 0, none⟩ (.slice A n cap)).setCell ⟨r, 1, none⟩ (.int .i64 (j : Int))) r t A cap n j l := by
  have h1 : Cur (w.setCell ⟨r, 0, none⟩ (.slice A n cap)) r t A cap n k l :=
    ⟨by rw [heap_setCell_same _ _ _ _ _ _ h.blk]; rfl, h.le, h.len, h.cap_, h.nm, h.rd.keep fun p hp => World.cell?_setCell_other _ _ _ _ (fun e => by rw [← e] at hp; simp at hp)⟩
  exact h1.move hj
theorem Cur.put_grown {w : World} {r : Nat} (u v : Value) : w.grownBy ((w.setCell ⟨r, 0, none⟩ u).setCell ⟨r, 1, none⟩ v) (some r) :=
  grown_trans (setCell_grown w r 0 u) (setCell_grown _ r 1 v)

theorem grown_below {a b c : World} {r : Option Nat} (h : a.grownBy b r) (k : Below b.heap.size b c) : a.grownBy c r :=
  ⟨k.os.trans h.os, k.tape.trans h.tape, k.output.trans h.output, Nat.le_trans h.size k.size, fun i hi hr => (k.block i (Nat.lt_of_lt_of_le hi h.size)).trans (h.block i hi hr)⟩

/-- what is made in new blocks, and one of them written: no old block has turned -/
theorem grown_other {w w1 w2 : World} {o : Obj} {r : Nat} (hb : Below w.heap.size w w1) (hg : (w1.alloc o).grownBy w2 (some w1.heap.size)) : w.grownBy w2 (some r) := by
  have h1 : Below w.heap.size w (w1.alloc o) := hb.alloc hb.size o
  refine ⟨hg.os.trans h1.os, hg.tape.trans h1.tape, hg.output.trans h1.output, Nat.le_trans h1.size hg.size, fun i hi _ => ?_⟩
  refine (hg.block i (Nat.lt_of_lt_of_le hi h1.size) (fun e => ?_)).trans (h1.block i hi)
  injection e with e
  have := hb.size
  omega

theorem get_arg (p : Option Addr) (n : Int) (w : World) (hn : n < 1 ∨ 8 < n) :
    Calls Try.prog 51 #[.pointer p, .int .i64 n] w fun e w' => e = .returned (.tuple #[.int .u64 0, .int .i64 1]) ∧ w = w' := by
  rcases hn with hn | hn
  · go_enter Try.func51, Try.ntmps51
    go_wp2
    go_ret2
    exact ⟨rfl, rfl⟩
  · have h1 : ¬ n < 1 := by omega
    go_enter Try.func51, Try.ntmps51
    go_wp2
    go_ret2
    exact ⟨rfl, rfl⟩

set_option maxHeartbeats 400000 in
theorem get_nil (n : Int) (w : World) (h1 : 1 ≤ n) (h2 : n ≤ 8) :
    Calls Try.prog 51 #[.pointer none, .int .i64 n] w fun e w' => e = .returned (.tuple #[.int .u64 0, .int .i64 2]) ∧ Below w.heap.size w w' := by
  go_enter Try.func51, Try.ntmps51
  go_wp2_with fail
  refine (here_nil w).mono ?_
  rintro e w1 ⟨rfl, hb1⟩
  go_wp2_with fail
  refine (number_short (Cur.zero w1 _) n (by omega)).mono ?_
  rintro e w2 ⟨rfl, q, rfl⟩
  go_wp2_with fail
  go_ret2
  exact ⟨rfl, below_drewN (hb1.alloc hb1.size _) _⟩

set_option maxHeartbeats 400000 in
theorem get_short {w : World} {r cap n k : Nat} {A : Option Addr} {l : List UInt8} (h : Cur w r 82 A cap n k l) (m : Int) (h1 : 1 ≤ m) (h2 : m ≤ 8) (hm : (n : Int) - k < m) :
    Calls Try.prog 51 #[.pointer (some ⟨r, 0, none⟩), .int .i64 m] w fun e w' => e = .returned (.tuple #[.int .u64 0, .int .i64 2]) ∧ Below w.heap.size w w' := by
  go_enter Try.func51, Try.ntmps51
  go_wp2_with fail
  refine (here_any h).mono ?_
  rintro e w1 ⟨rfl, hb1⟩
  go_wp2_with fail
  refine (number_short (h.copy hb1 _) m hm).mono ?_
  rintro e w2 ⟨rfl, q, rfl⟩
  go_wp2_with fail
  go_ret2
  exact ⟨rfl, below_drewN (hb1.alloc hb1.size _) _⟩

set_option maxHeartbeats 400000 in
theorem get_ok {w : World} {r cap n k : Nat} {A : Option Addr} {l : List UInt8} (h : Cur w r 82 A cap n k l) (m : Nat) (h1 : 1 ≤ m) (h2 : m ≤ 8) (hm : m ≤ n - k) :
    Calls Try.prog 51 #[.pointer (some ⟨r, 0, none⟩), .int .i64 m] w (NumOk w r 82 A cap n k m l) := by
  go_enter Try.func51, Try.ntmps51
  go_wp2_with fail
  refine (here_any h).mono ?_
  rintro e w1 ⟨rfl, hb1⟩
  go_wp2_with fail
  refine (number_ok (h.copy hb1 _) m hm h2).mono ?_
  rintro e w2 ⟨rfl, hcur, hg⟩
  have hr1 := ((h.below hb1).below ((Below.refl _ _).alloc (Nat.le_refl _) _)).keep hg (by have := (h.below hb1).lt; exact this)
  have hlt : r < w1.heap.size := (h.below hb1).lt
  have HG : Hid (w.grownBy w2 (some r)) := grown_other hb1 hg
  have c0 := hcur.c0
  have c1 : w2.cell? ⟨w1.heap.size, 1, none⟩ = some (.int .i64 ((k : Int) + (m : Int))) := hcur.c1
  have d0 := hr1.c0
  have d1 := hr1.c1
  have f0 := hr1.fr 0
  have f1 := hr1.fr 1
  have H1 := hide2 hr1
  have b1 := h.le
  clear hcur hg hr1 h
  generalize hV : valB ((l.drop k).take m) = v at *
  have HV := Lib.hid hV
  clear hV
  go_wp2_with fail
  go_ret2
  exact ⟨by rw [HV.out]; rfl, H1.out.put (j := k + m) (by omega), grown_trans HG.out (Cur.put_grown _ _)⟩

/-- a number of 64 bits as one that may be below 0 -/
def sgnI (v : Int) : Int := wrap64 v

/-- a signed number is told, and the place is behind it -/
def SgnOk (w : World) (g t : Nat) (A : Option Addr) (cap n k : Nat) (l : List UInt8) (e : Ending) (w' : World) : Prop :=
  e = .returned (.tuple #[.int .i64 (sgnI (valB ((l.drop k).take 8) : Int)), .int .i64 0]) ∧ Cur w' g t A cap n (k + 8) l ∧ w.grownBy w' (some g)

theorem below_of_grown_new {w w1 w2 : World} {o : Obj} (hb : Below w.heap.size w w1) (hg : (w1.alloc o).grownBy w2 (some w1.heap.size)) : Below w.heap.size w w2 :=
  (hb.alloc hb.size o).grown hg (by have := hb.size; simp; omega) (fun k hk => by injection hk with hk; have := hb.size; omega)

/-- a list is told in new memory, and the place is behind it -/
def RListOk (w : World) (r t : Nat) (A : Option Addr) (cap n k m : Nat) (l : List UInt8) (e : Ending) (w' : World) : Prop :=
  ∃ A' c', e = .returned (.tuple #[.slice A' m c', .int .i64 0]) ∧ Owns w' w.heap.size A' c' m ((l.drop (k + 2)).take m) ∧ Cur w' r t A cap n (k + 2 + m) l ∧ w.grownBy w' (some r)



end Go.Proofs.Ytjpnihmijnpjcaa

namespace Go.Proofs.Ytjpnihmijnpjcaa
set_option maxRecDepth 100000
open Go.RowKit Wm

set_option maxHeartbeats 400000 in
theorem refleft_any {w : World} {g t cap n k : Nat} {A : Option Addr} {l : List UInt8} (h : Cur w g t A cap n k l) :
    Calls Try.prog 32 #[.pointer (some ⟨g, 0, none⟩)] w fun e w' => e = .returned (.int .i64 ((n : Int) - (k : Int))) ∧ ∃ m, w' = w.drewN m := by
  have h0 := h.c0
  have h1 := h.c1
  have b1 := h.le
  have b2 := h.cap_
  have b3 := h.nm
  clear h
  go_enter Try.func32, Try.ntmps32
  go_wp2
  go_quiet (fail)
  go_wp2
  go_ret
  exact ⟨rfl, _, rfl⟩

theorem refget_arg (p : Option Addr) (n : Int) (w : World) (hn : n < 1 ∨ 8 < n) :
    Calls Try.prog 31 #[.pointer p, .int .i64 n] w fun e w' => e = .returned (.tuple #[.int .u64 0, .int .i64 1]) ∧ w = w' := by
  rcases hn with hn | hn
  · go_enter Try.func31, Try.ntmps31
    go_wp2
    go_ret2
    exact ⟨rfl, rfl⟩
  · have h1 : ¬ n < 1 := by omega
    go_enter Try.func31, Try.ntmps31
    go_wp2
    go_ret2
    exact ⟨rfl, rfl⟩

set_option maxHeartbeats 400000 in
theorem refget_short {w : World} {r t cap n k : Nat} {A : Option Addr} {l : List UInt8} (h : Cur w r t A cap n k l) (m : Int) (h1 : 1 ≤ m) (h2 : m ≤ 8) (hm : (n : Int) - k < m) :
    Calls Try.prog 31 #[.pointer (some ⟨r, 0, none⟩), .int .i64 m] w fun e w' => e = .returned (.tuple #[.int .u64 0, .int .i64 2]) ∧ ∃ m, w' = w.drewN m := by
  go_enter Try.func31, Try.ntmps31
  go_wp2_with (go_at_call 32; refine (refleft_any h).mono ?_; rintro e w' ⟨rfl, q, rfl⟩)
  go_ret2
  exact ⟨rfl, _, rfl⟩

/-- the number from byte j on -/
def valFrom (l : List UInt8) (k m j : Nat) : Nat := valB ((((l.drop k).take m)).drop j)

theorem valFrom_step {W : World} {B k m j n : Nat} {A : Option Addr} {l : List UInt8} (h : Rd W B A l) (hl : l.length = n) (hm : m ≤ n - k) (hk : k ≤ n) (hm8 : m ≤ 8) (hj : j < m) :
    ∃ b o y, A = some ⟨b, o, none⟩ ∧ b < B ∧ W.cell? ⟨b, o + (k + j), none⟩ = some (.int .u8 ((y : Nat) : Int)) ∧ y ≤ 255 ∧
      valFrom l k m (j + 1) * 256 + y ≤ 18446744073709551615 ∧ Hid (valFrom l k m j = valFrom l k m (j + 1) * 256 + y) := by
  obtain ⟨b, o, e, hb, hc⟩ := h.cell (j := k + j) (by omega)
  have hlen : ((l.drop k).take m).length = m := by rw [List.length_take, List.length_drop]; omega
  have hx : ((l.drop k).take m)[j]'(by omega) = l[k + j]'(by omega) := by simp
  have hd : ((l.drop k).take m).drop j = l[k + j]'(by omega) :: ((l.drop k).take m).drop (j + 1) := by
    rw [List.drop_eq_getElem_cons (by omega), hx]
  have hv : valFrom l k m j = valFrom l k m (j + 1) * 256 + (l[k + j]'(by omega)).toNat := by
    unfold valFrom
    rw [hd, valB]
    omega
  have hu : valFrom l k m j < 18446744073709551616 := valB_u64 _ (by rw [List.length_drop]; omega)
  exact ⟨b, o, _, e, hb, hc, by have := (l[k + j]'(by omega)).toNat_lt; omega, by omega, hv⟩

theorem valFrom_zero (l : List UInt8) (k m : Nat) : valB ((l.drop k).take m) = valFrom l k m 0 := rfl
theorem valFrom_end (l : List UInt8) (k m : Nat) : (Value.int .u64 0) = .int .u64 (valFrom l k m m : Int) := by
  unfold valFrom
  rw [List.drop_eq_nil_of_le (by rw [List.length_take]; omega)]
  rfl

set_option maxHeartbeats 1000000 in
theorem refget_ok {w : World} {r t cap n k : Nat} {A : Option Addr} {l : List UInt8} (h : Cur w r t A cap n k l) (m : Nat) (h1 : 1 ≤ m) (h2 : m ≤ 8) (hm : m ≤ n - k) :
    Calls Try.prog 31 #[.pointer (some ⟨r, 0, none⟩), .int .i64 m] w (NumOk w r t A cap n k m l) := by
  have b1 := h.le
  have b2 := h.nm
  go_enter Try.func31, Try.ntmps31
  go_wp2_with fail
  refine (refleft_any h).mono ?_
  rintro e w' ⟨rfl, q, rfl⟩
  go_wp2_with fail
  go_loopw [6, 7] (fun v i wr => ∃ (j q : Nat), j ≤ m ∧ i = .int .i64 ((j : Int) - 1) ∧ v = .int .u64 (valFrom l k m j : Int) ∧ wr = w.drewN q) (fun _ i _ => (intOf i + 1).toNat)
  case atStart => exact ⟨m, q, Nat.le_refl _, rfl, valFrom_end l k m, rfl⟩
  case round =>
    obtain ⟨j, q', hj, rfl, rfl, rfl⟩ := hrel
    have h' := h.drewN q'
    have c0 := h.c0
    have c1 := h.c1
    rcases Nat.eq_zero_or_pos j with h0 | h0
    · subst h0
      have f1 := h.fr 1
      have HM := hide2 (h'.move (j := k + m) (by omega))
      have HG : Hid (w.grownBy ((w.drewN q').setCell ⟨r, 1, none⟩ (.int .i64 ((k : Int) + (m : Int)))) (some r)) := grown_drewN (setCell_grown (w.drewN q') r 1 _)
      clear h'
      go_wp2_with fail
      go_ret2
      exact ⟨by rw [valFrom_zero]; rfl, HM.out, HG.out⟩
    · obtain ⟨p, rfl⟩ : ∃ p, j = p + 1 := ⟨j - 1, by omega⟩
      have e1 : ((p + 1 : Nat) : Int) - 1 = (p : Int) := by omega
      rw [e1]
      clear e1
      obtain ⟨b, o, y, rfl, hb, hc, hy, hv, HV⟩ := valFrom_step h.rd h.len hm b1 h2 (j := p) (by omega)
      clear h'
      have hkp : (k : Int) + (p : Int) < (n : Int) := by omega
      generalize valFrom l k m (p + 1) = v at *
      go_wp2_with fail
      go_quiet (fail)
      go_wp2
      go_roundw
      case rel => exact ⟨p, q' + nq, by omega, rfl, by rw [HV.out]; go_num, rfl⟩
      case measure => simp [intOf]

/-- the two bytes that say how many -/
theorem cnt_cells {W : World} {B k n : Nat} {A : Option Addr} {l : List UInt8} (h : Rd W B A l) (hl : l.length = n) (hm : 2 ≤ n - k) (hk : k ≤ n) :
    ∃ b o x y, A = some ⟨b, o, none⟩ ∧ b < B ∧ W.cell? ⟨b, o + k, none⟩ = some (.int .u8 ((x : Nat) : Int)) ∧ W.cell? ⟨b, o + (k + 1), none⟩ = some (.int .u8 ((y : Nat) : Int)) ∧ x ≤ 255 ∧ y ≤ 255 ∧ Hid (cntB l k = x + 256 * y) := by
  obtain ⟨b, o, e, hb, hc⟩ := h.cell (j := k) (by omega)
  obtain ⟨b', o', e', _, hc'⟩ := h.cell (j := k + 1) (by omega)
  rw [e] at e'
  injection e' with e'
  injection e' with e1 e2
  subst e1 e2
  refine ⟨b, o, _, _, e, hb, hc, hc', by have := (l[k]'(by omega)).toNat_lt; omega, by have := (l[k + 1]'(by omega)).toNat_lt; omega, ?_⟩
  show cntB l k = _
  unfold cntB
  have hd : l.drop k = l[k]'(by omega) :: l[k + 1]'(by omega) :: l.drop (k + 2) := by
    rw [List.drop_eq_getElem_cons (by omega), List.drop_eq_getElem_cons (by omega)]
  rw [hd]
  show valB [_, _] = _
  simp only [valB]
  omega

theorem wp_append_rd {P : Program} {o : Oper} {a : Act} {w : World} {K : Act → World → Prop} {Q : Exit → Act → World → Prop} (s x : Operand) (t : TypeId)
    (ho : o.op = .call { callee := .builtin .append, args := #[s, x], argTypes := #[t, t] })
    (base : Nat) (i : TypeInfo) (ht : P.underlying t = some (.slice 5)) (hi : P.info? 5 = some i) (hz : i.zero = some (.int .u8 0)) (hsize : i.size = 1) (hby : i.bytes = 1)
    (v : Value) (n : Nat) (xs : List Value) (hs : a.eval s = v) (hown : w.ownsRow base 5 1 v n xs)
    (B : Nat) (A : Option Addr) (l : List UInt8) (m c : Nat) (hx : a.eval x = .slice A m c) (hr : Rd w B A l) (hm : l.length = m)
    (hlen : n + m ≤ 1099511627776) (hbase : base ≤ w.heap.size)
    (h : ∀ v' w', w'.ownsRow base 5 1 v' (n + m) (xs ++ byteVs l) → w.grownBy w' v.ownBlock → (v'.ownBlock = v.ownBlock ∨ v'.ownBlock = some w.heap.size) → K (a.put o.dst v') w') : o.wp P a w K Q := by
  obtain ⟨v', w', hrun, h2, h3, h4⟩ := run_append_rd (P := P) base t o.type i ht hi hz hsize hby hown hr m hm c hlen hbase
  unfold Oper.wp
  simp [execOp, ho, resolve, invoke, builtin, hs, hx, hrun, Result.andThen]
  exact h v' w' h2 h3 h4

theorem RListOk.mk {w W0 w1 : World} {r t cap n k mm : Nat} {A A1 : Option Addr} {c2 : Nat} {l : List UInt8} (HMM : Hid (mm = cntB l k)) (HG : Hid (w.grownBy W0 (some r))) (HO : Hid (Owns w1 W0.heap.size A1 c2 (0 + mm) ([] ++ (l.drop (k + 2)).take mm)))
    (HW : Hid (Cur W0 r t A cap n k l)) (HB : Hid (Below W0.heap.size W0 w1)) (HL : Hid (k + 2 + mm ≤ n)) :
    RListOk w r t A cap n k (cntB l k) l (.returned (.tuple #[.slice A1 mm c2, .int .i64 0])) (w1.setCell ⟨r, 1, none⟩ (.int .i64 ((k : Int) + 2 + (mm : Int)))) := by
  rw [← HMM.out]
  refine ⟨A1, c2, rfl, ?_, (HW.out.below HB.out).move (j := k + 2 + mm) HL.out, grown_trans (grown_below HG.out HB.out) (setCell_grown _ _ _ _)⟩
  have h1 : Owns w1 W0.heap.size A1 c2 mm ((l.drop (k + 2)).take mm) := by simpa using HO.out
  have h2 : Owns (w1.setCell ⟨r, 1, none⟩ (.int .i64 ((k : Int) + 2 + (mm : Int)))) W0.heap.size A1 c2 mm ((l.drop (k + 2)).take mm) := ownsRow_setCell_below h1 (by exact HW.out.lt) _
  exact h2.base_le HG.out.size

end Go.Proofs.Ytjpnihmijnpjcaa

namespace Go.Proofs.Ytjpnihmijnpjcaa
set_option maxRecDepth 100000
open Go.RowKit Wm

/-- what a Get says: 0 where it is OK -/
def getE (n k : Nat) (N : Int) : Int := if N < 1 ∨ 8 < N then 1 else if (n : Int) - k < N then 2 else 0
def getV (l : List UInt8) (n k : Nat) (N : Int) : Nat := if getE n k N = 0 then valB ((l.drop k).take N.toNat) else 0
def getK (n k : Nat) (N : Int) : Nat := if getE n k N = 0 then k + N.toNat else k
def sgnE (n k : Nat) : Int := if n - k < 8 then 2 else 0
def sgnV (l : List UInt8) (n k : Nat) : Int := if n - k < 8 then 0 else sgnI (valB ((l.drop k).take 8) : Int)
def sgnK (n k : Nat) : Nat := if n - k < 8 then k else k + 8
def lstE (l : List UInt8) (n k : Nat) (most : Int) : Int := if n - k < 2 then 2 else if most < (cntB l k : Int) then 3 else if n - (k + 2) < cntB l k then 2 else 0
def lstM (l : List UInt8) (n k : Nat) (most : Int) : Nat := if lstE l n k most = 0 then cntB l k else 0
def lstB (l : List UInt8) (n k : Nat) (most : Int) : List UInt8 := if lstE l n k most = 0 then (l.drop (k + 2)).take (cntB l k) else []
def lstK (l : List UInt8) (n k : Nat) (most : Int) : Nat := if lstE l n k most = 0 then k + 2 + cntB l k else k
def endE (n k : Nat) : Int := if k < n then 3 else 0

theorem getE_cases (n k : Nat) (N : Int) : ((N < 1 ∨ 8 < N) ∧ getE n k N = 1) ∨ (1 ≤ N ∧ N ≤ 8 ∧ (n : Int) - k < N ∧ getE n k N = 2) ∨ (1 ≤ N ∧ N ≤ 8 ∧ N ≤ (n : Int) - k ∧ getE n k N = 0) := by
  unfold getE
  by_cases h1 : N < 1 ∨ 8 < N
  · exact .inl ⟨h1, by rw [if_pos h1]⟩
  · rw [if_neg h1]
    by_cases h2 : (n : Int) - k < N
    · exact .inr (.inl ⟨by omega, by omega, h2, by rw [if_pos h2]⟩)
    · exact .inr (.inr ⟨by omega, by omega, by omega, by rw [if_neg h2]⟩)

/-- a call on a reader at block r: what it answers, where its place is then, and that nothing else has turned -/
def RFn (w : World) (r t : Nat) (A : Option Addr) (cap n j : Nat) (l : List UInt8) (v : Value) (e : Ending) (w' : World) : Prop :=
  e = .returned v ∧ Cur w' r t A cap n j l ∧ w.grownBy w' (some r)

section
variable {w : World} {r t cap n k : Nat} {A : Option Addr} {l : List UInt8}
theorem grown_of_below {w w' : World} (h : Below w.heap.size w w') (row : Option Nat) : w.grownBy w' row := ⟨h.os, h.tape, h.output, h.size, fun i hi _ => h.block i hi⟩
theorem grown_of_drewN (w : World) (m : Nat) (row : Option Nat) : w.grownBy (w.drewN m) row := ⟨rfl, rfl, rfl, Nat.le_refl _, fun _ _ _ => rfl⟩

theorem get_fn (h : Cur w r 82 A cap n k l) (N : Int) :
    Calls Try.prog 51 #[.pointer (some ⟨r, 0, none⟩), .int .i64 N] w (RFn w r 82 A cap n (getK n k N) l (.tuple #[.int .u64 (getV l n k N : Int), .int .i64 (getE n k N)])) := by
  unfold getK getV
  rcases getE_cases n k N with ⟨h1, he⟩ | ⟨h1, h2, h3, he⟩ | ⟨h1, h2, h3, he⟩
  · rw [he, if_neg (by decide), if_neg (by decide)]
    exact (get_arg _ N w h1).mono fun _ _ ⟨e, hw⟩ => by subst hw; exact ⟨e, h, World.grownBy.refl w _⟩
  · rw [he, if_neg (by decide), if_neg (by decide)]
    exact (get_short h N h1 h2 h3).mono fun _ _ ⟨e, hw⟩ => ⟨e, h.below hw, grown_of_below hw _⟩
  · rw [he, if_pos rfl, if_pos rfl]
    obtain ⟨m, rfl⟩ := Int.eq_ofNat_of_zero_le (by omega : 0 ≤ N)
    have hk := h.le
    exact (get_ok h m (by omega) (by omega) (by omega)).mono fun _ _ ⟨e, h4, h5⟩ => ⟨e, h4, h5⟩
theorem refget_fn (h : Cur w r t A cap n k l) (N : Int) :
    Calls Try.prog 31 #[.pointer (some ⟨r, 0, none⟩), .int .i64 N] w (RFn w r t A cap n (getK n k N) l (.tuple #[.int .u64 (getV l n k N : Int), .int .i64 (getE n k N)])) := by
  unfold getK getV
  rcases getE_cases n k N with ⟨h1, he⟩ | ⟨h1, h2, h3, he⟩ | ⟨h1, h2, h3, he⟩
  · rw [he, if_neg (by decide), if_neg (by decide)]
    exact (refget_arg _ N w h1).mono fun _ _ ⟨e, hw⟩ => by subst hw; exact ⟨e, h, World.grownBy.refl w _⟩
  · rw [he, if_neg (by decide), if_neg (by decide)]
    exact (refget_short h N h1 h2 h3).mono fun _ _ ⟨e, m, hw⟩ => by subst hw; exact ⟨e, h.drewN m, grown_of_drewN w m _⟩
  · rw [he, if_pos rfl, if_pos rfl]
    obtain ⟨m, rfl⟩ := Int.eq_ofNat_of_zero_le (by omega : 0 ≤ N)
    have hk := h.le
    exact (refget_ok h m (by omega) (by omega) (by omega)).mono fun _ _ ⟨e, h4, h5⟩ => ⟨e, h4, h5⟩

theorem refleft_fn (h : Cur w r t A cap n k l) :
    Calls Try.prog 32 #[.pointer (some ⟨r, 0, none⟩)] w (RFn w r t A cap n k l (.int .i64 ((n : Int) - (k : Int)))) :=
  (refleft_any h).mono fun _ _ ⟨e, m, hw⟩ => by subst hw; exact ⟨e, h.drewN m, grown_of_drewN w m _⟩
theorem Owns.far {w V : World} {base m c z : Nat} {A : Option Addr} {bs : List UInt8} (h : Owns w base A c m bs) (hz : z < base) (hg : w.grownBy V (some z)) : Owns V base A c m bs := by
  refine World.ownsRow.kept h hg ?_
  rcases A with _ | a
  · exact .inl rfl
  · refine .inr fun e => ?_
    have h1 := (h.block a rfl).1
    have h2 : a.block = z := by simpa [Value.ownBlock] using e
    omega

/-- a List: what it answers reads as these bytes from then on -/
def LFn (w : World) (r t : Nat) (A : Option Addr) (cap n j m : Nat) (l bs : List UInt8) (err : Int) (e : Ending) (w' : World) : Prop :=
  ∃ A' c', e = .returned (.tuple #[.slice A' m c', .int .i64 err]) ∧ Hid (∀ V z, z < w.heap.size → w'.grownBy V (some z) → Rd V V.heap.size A' bs) ∧ Hid (bs.length = m) ∧ Cur w' r t A cap n j l ∧ w.grownBy w' (some r)

theorem lstE_cases (l : List UInt8) (n k : Nat) (most : Int) : (n - k < 2 ∧ lstE l n k most = 2) ∨ (2 ≤ n - k ∧ most < (cntB l k : Int) ∧ lstE l n k most = 3) ∨ (2 ≤ n - k ∧ (cntB l k : Int) ≤ most ∧ n - (k + 2) < cntB l k ∧ lstE l n k most = 2) ∨
    (2 ≤ n - k ∧ (cntB l k : Int) ≤ most ∧ cntB l k ≤ n - (k + 2) ∧ lstE l n k most = 0) := by
  unfold lstE
  by_cases h1 : n - k < 2
  · exact .inl ⟨h1, by rw [if_pos h1]⟩
  · rw [if_neg h1]
    by_cases h2 : most < (cntB l k : Int)
    · exact .inr (.inl ⟨by omega, h2, by rw [if_pos h2]⟩)
    · rw [if_neg h2]
      by_cases h3 : n - (k + 2) < cntB l k
      · exact .inr (.inr (.inl ⟨by omega, by omega, h3, by rw [if_pos h3]⟩))
      · exact .inr (.inr (.inr ⟨by omega, by omega, by omega, by rw [if_neg h3]⟩))

theorem rlistok_fn {m : Nat} {e : Ending} {w' : World} (h : RListOk w r t A cap n k m l e w') : LFn w r t A cap n (k + 2 + m) m l ((l.drop (k + 2)).take m) 0 e w' := by
  obtain ⟨A', c', e, ho, hc, hg⟩ := h
  exact ⟨A', c', e, fun V z hz hV => (ho.far hz hV).read, ho.len, hc, hg⟩

end

end Go.Proofs.Ytjpnihmijnpjcaa
