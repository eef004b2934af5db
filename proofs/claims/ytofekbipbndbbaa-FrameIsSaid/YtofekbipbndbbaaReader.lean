/-
  What the program's own Reader answers, whatever bytes it stands over: its calls one by one, and those of a nil one.
-/
import Derived.Test.YtofekbipbndbbaaRead
import Derived.Laws.ResultCell
namespace Go.Proofs.Ytofekbipbndbbaa
open Go.RowKit Wm

theorem below_drewN {B : Nat} {a w : World} (h : Below B a w) (n : Nat) : Below B a (w.drewN n) := ⟨h.os, h.tape, h.output, h.size, h.block⟩

theorem here_nil (w : World) : Calls Try.prog 54 #[.pointer none] w fun e w' => e = .returned (.agg #[.slice none 0 0, .int .i64 0]) ∧ Below w.heap.size w w' := by
  go_enter Try.func54, Try.ntmps54
  go_wp2
  refine bodyPost_ret (v := .agg #[.slice none 0 0, .int .i64 0]) (by simp [results, Try.results54, go_sem]) rfl ⟨rfl, (Below.refl _ _).alloc (Nat.le_refl _) _⟩

set_option maxHeartbeats 400000 in
theorem here_any {w : World} {r cap n k : Nat} {A : Option Addr} {l : List UInt8} (h : Cur w r 85 A cap n k l) :
    Calls Try.prog 54 #[.pointer (some ⟨r, 0, none⟩)] w fun e w' => e = .returned (.agg #[.slice A n cap, .int .i64 (k : Int)]) ∧ Below w.heap.size w w' := by
  have hlt := h.lt
  have c0 : ∀ o, (w.alloc o).cell? ⟨r, 0, none⟩ = some (.slice A n cap) := fun o => (World.cell?_alloc_lt w o ⟨r, 0, none⟩ hlt).trans h.c0
  have c1 : ∀ o, (w.alloc o).cell? ⟨r, 1, none⟩ = some (.int .i64 (k : Int)) := fun o => (World.cell?_alloc_lt w o ⟨r, 1, none⟩ hlt).trans h.c1
  clear h
  go_enter Try.func54, Try.ntmps54
  go_wp2
  refine bodyPost_ret (v := .agg #[.slice A n cap, .int .i64 (k : Int)]) (by simp [results, Try.results54, go_sem]) rfl ⟨rfl, (Below.refl _ _).alloc (Nat.le_refl _) _⟩

theorem new_any {w : World} {A : Option Addr} {n cap : Nat} {l : List UInt8} (hl : Hid (l.length = n)) (hc : n ≤ cap) (hm : n ≤ 4611686018427387904) (hr : Rd w w.heap.size A l) :
    Calls Try.prog 43 #[.slice A n cap] w fun e w' => ∃ r, e = .returned (.pointer (some ⟨r, 0, none⟩)) ∧ Cur w' r 85 A cap n 0 l ∧ Below w.heap.size w w' ∧ w.heap.size ≤ r := by
  go_enter Try.func43, Try.ntmps43
  go_wp2
  go_ret
  exact ⟨w.heap.size, rfl, ⟨heap_alloc_new w _, Nat.zero_le _, hl.out, hc, hm, hr.keep fun p hp => World.cell?_alloc_lt w _ p hp⟩, (Below.refl _ _).alloc (Nat.le_refl _) _, Nat.le_refl _⟩

/-- a copy of a reader's cursor in a block of its own -/
theorem Cur.copy {w w1 : World} {r t cap n k : Nat} {A : Option Addr} {l : List UInt8} (h : Cur w r t A cap n k l) (hb : Below w.heap.size w w1) (u : Nat) :
    Cur (w1.alloc (.cells #[.slice A n cap, .int .i64 (k : Int)] u)) w1.heap.size u A cap n k l := by
  have h1 := h.below hb
  exact ⟨heap_alloc_new w1 _, h.le, h.len, h.cap_, h.nm, (h1.rd.more (Nat.le_of_lt h1.lt)).keep fun p hp => World.cell?_alloc_lt w1 _ p hp⟩
theorem Cur.zero (w1 : World) (u : Nat) : Cur (w1.alloc (.cells #[.slice none 0 0, .int .i64 0] u)) w1.heap.size u none 0 0 0 [] :=
  ⟨heap_alloc_new w1 _, Nat.le_refl _, rfl, Nat.le_refl _, Nat.zero_le _, .nil _ _ _⟩
/-- the cursor is put back, moved -/
theorem Cur.put {w : World} {r t cap n k : Nat} {A : Option Addr} {l : List UInt8} (h : Cur w r t A cap n k l) {j : Nat} (hj : j ≤ n) :
    Cur ((w.setCell ⟨r, 0, none⟩ (.slice A n cap)).setCell ⟨r, 1, none⟩ (.int .i64 (j : Int))) r t A cap n j l := by
  have h1 : Cur (w.setCell ⟨r, 0, none⟩ (.slice A n cap)) r t A cap n k l :=
    ⟨by rw [heap_setCell_same _ _ _ _ _ _ h.blk]; rfl, h.le, h.len, h.cap_, h.nm, h.rd.keep fun p hp => World.cell?_setCell_other _ _ _ _ (fun e => by rw [← e] at hp; simp at hp)⟩
  exact h1.move hj
theorem Cur.put_grown {w : World} {r : Nat} (u v : Value) : w.grownBy ((w.setCell ⟨r, 0, none⟩ u).setCell ⟨r, 1, none⟩ v) (some r) :=
  grown_trans (setCell_grown w r 0 u) (setCell_grown _ r 1 v)

theorem grown_below {a b c : World} {r : Option Nat} (h : a.grownBy b r) (k : Below b.heap.size b c) : a.grownBy c r :=
  ⟨k.os.trans h.os, k.tape.trans h.tape, k.output.trans h.output, Nat.le_trans h.size k.size, fun i hi hr => (k.block i (Nat.lt_of_lt_of_le hi h.size)).trans (h.block i hi hr)⟩

/-- what is made in new blocks, and one of them written: no old block has turned -/
theorem grown_other {w w1 w2 : World} {o : Obj} {r : Nat} (hb : Below w.heap.size w w1) (hg : (w1.alloc o).grownBy w2 (some w1.heap.size)) : w.grownBy w2 (some r) := by
  have h1 : Below w.heap.size w (w1.alloc o) := hb.alloc hb.size o
  refine ⟨hg.os.trans h1.os, hg.tape.trans h1.tape, hg.output.trans h1.output, Nat.le_trans h1.size hg.size, fun i hi _ => ?_⟩
  refine (hg.block i (Nat.lt_of_lt_of_le hi h1.size) (fun e => ?_)).trans (h1.block i hi)
  injection e with e
  have := hb.size
  omega

theorem get_arg (p : Option Addr) (n : Int) (w : World) (hn : n < 1 ∨ 8 < n) :
    Calls Try.prog 52 #[.pointer p, .int .i64 n] w fun e w' => e = .returned (.tuple #[.int .u64 0, .int .i64 1]) ∧ w = w' := by
  rcases hn with hn | hn
  · go_enter Try.func52, Try.ntmps52
    go_wp2
    go_ret2
    exact ⟨rfl, rfl⟩
  · have h1 : ¬ n < 1 := by omega
    go_enter Try.func52, Try.ntmps52
    go_wp2
    go_ret2
    exact ⟨rfl, rfl⟩

set_option maxHeartbeats 400000 in
theorem get_nil (n : Int) (w : World) (h1 : 1 ≤ n) (h2 : n ≤ 8) :
    Calls Try.prog 52 #[.pointer none, .int .i64 n] w fun e w' => e = .returned (.tuple #[.int .u64 0, .int .i64 2]) ∧ Below w.heap.size w w' := by
  go_enter Try.func52, Try.ntmps52
  go_wp2_with fail
  refine (here_nil w).mono ?_
  rintro e w1 ⟨rfl, hb1⟩
  go_wp2_with fail
  refine (number_short (Cur.zero w1 _) n (by omega)).mono ?_
  rintro e w2 ⟨rfl, q, rfl⟩
  go_wp2_with fail
  go_ret2
  exact ⟨rfl, below_drewN (hb1.alloc hb1.size _) _⟩

set_option maxHeartbeats 400000 in
theorem get_short {w : World} {r cap n k : Nat} {A : Option Addr} {l : List UInt8} (h : Cur w r 85 A cap n k l) (m : Int) (h1 : 1 ≤ m) (h2 : m ≤ 8) (hm : (n : Int) - k < m) :
    Calls Try.prog 52 #[.pointer (some ⟨r, 0, none⟩), .int .i64 m] w fun e w' => e = .returned (.tuple #[.int .u64 0, .int .i64 2]) ∧ Below w.heap.size w w' := by
  go_enter Try.func52, Try.ntmps52
  go_wp2_with fail
  refine (here_any h).mono ?_
  rintro e w1 ⟨rfl, hb1⟩
  go_wp2_with fail
  refine (number_short (h.copy hb1 _) m hm).mono ?_
  rintro e w2 ⟨rfl, q, rfl⟩
  go_wp2_with fail
  go_ret2
  exact ⟨rfl, below_drewN (hb1.alloc hb1.size _) _⟩

set_option maxHeartbeats 400000 in
theorem get_ok {w : World} {r cap n k : Nat} {A : Option Addr} {l : List UInt8} (h : Cur w r 85 A cap n k l) (m : Nat) (h1 : 1 ≤ m) (h2 : m ≤ 8) (hm : m ≤ n - k) :
    Calls Try.prog 52 #[.pointer (some ⟨r, 0, none⟩), .int .i64 m] w (NumOk w r 85 A cap n k m l) := by
  go_enter Try.func52, Try.ntmps52
  go_wp2_with fail
  refine (here_any h).mono ?_
  rintro e w1 ⟨rfl, hb1⟩
  go_wp2_with fail
  refine (number_ok (h.copy hb1 _) m hm h2).mono ?_
  rintro e w2 ⟨rfl, hcur, hg⟩
  have hr1 := ((h.below hb1).below ((Below.refl _ _).alloc (Nat.le_refl _) _)).keep hg (by have := (h.below hb1).lt; exact this)
  have hlt : r < w1.heap.size := (h.below hb1).lt
  have HG : Hid (w.grownBy w2 (some r)) := grown_other hb1 hg
  have c0 := hcur.c0
  have c1 : w2.cell? ⟨w1.heap.size, 1, none⟩ = some (.int .i64 ((k : Int) + (m : Int))) := hcur.c1
  have d0 := hr1.c0
  have d1 := hr1.c1
  have f0 := hr1.fr 0
  have f1 := hr1.fr 1
  have H1 := hide2 hr1
  have b1 := h.le
  clear hcur hg hr1 h
  generalize hV : valB ((l.drop k).take m) = v at *
  have HV := Lib.hid hV
  clear hV
  go_wp2_with fail
  go_ret2
  exact ⟨by rw [HV.out]; rfl, H1.out.put (j := k + m) (by omega), grown_trans HG.out (Cur.put_grown _ _)⟩

/-- a number of 64 bits as one that may be below 0 -/
def sgnI (v : Int) : Int := wrap64 v

/-- a signed number is told, and the place is behind it -/
def SgnOk (w : World) (g t : Nat) (A : Option Addr) (cap n k : Nat) (l : List UInt8) (e : Ending) (w' : World) : Prop :=
  e = .returned (.tuple #[.int .i64 (sgnI (valB ((l.drop k).take 8) : Int)), .int .i64 0]) ∧ Cur w' g t A cap n (k + 8) l ∧ w.grownBy w' (some g)

theorem below_of_grown_new {w w1 w2 : World} {o : Obj} (hb : Below w.heap.size w w1) (hg : (w1.alloc o).grownBy w2 (some w1.heap.size)) : Below w.heap.size w w2 :=
  (hb.alloc hb.size o).grown hg (by have := hb.size; simp; omega) (fun k hk => by injection hk with hk; have := hb.size; omega)

/-- a list is told in new memory, and the place is behind it -/
def RListOk (w : World) (r t : Nat) (A : Option Addr) (cap n k m : Nat) (l : List UInt8) (e : Ending) (w' : World) : Prop :=
  ∃ A' c', e = .returned (.tuple #[.slice A' m c', .int .i64 0]) ∧ Owns w' w.heap.size A' c' m ((l.drop (k + 2)).take m) ∧ Cur w' r t A cap n (k + 2 + m) l ∧ w.grownBy w' (some r)



end Go.Proofs.Ytofekbipbndbbaa
