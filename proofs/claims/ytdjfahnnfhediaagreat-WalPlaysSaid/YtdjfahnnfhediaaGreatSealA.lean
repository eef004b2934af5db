/-
  Bytes sealed with their sum, by the program and by the document; two slices of bytes held against each other.
-/
import Derived.Test.YtdjfahnnfhediaaGreatMore
import Derived.Test.YtdjfahnnfhediaaGreatPutOne
import Derived.Test.YtdjfahnnfhediaaGreatConcat
import Derived.Deep.QuietTactic
import Derived.BigQuiet
import Derived.WalkSmall
import Derived.Lib.SliceRun
import Derived.Test.YtdjfahnnfhediaaGreatSince
import Derived.Lib.SlBytesConst
import Derived.OwnWalk
namespace Go.Proofs.YtdjfahnnfhediaaGreat
set_option maxRecDepth 100000
open Go.RowKit Crc Wm

/-- a sum as its four bytes -/
def sum4 (l : List UInt8) : List UInt8 := putB 4 (ofB l).toNat
def sealB (l : List UInt8) : List UInt8 := l ++ sum4 l

theorem length_sum4 (l : List UInt8) : (sum4 l).length = 4 := length_putB _ _
theorem length_seal (l : List UInt8) : (sealB l).length = l.length + 4 := by unfold sealB; rw [List.length_append, length_sum4]

/-- Concat, called on a slice of its own that holds both -/
theorem seal_concat {A : Option Addr} {c L : Nat} {l : List UInt8} (HL : Hid (l.length = L)) {w : World} (hr : Rd w w.heap.size A l) (hl : L ≤ 1073741824) {m : List UInt8} (H4 : Hid (m.length = 4)) {w1 : World} {A1 : Option Addr} {c1 : Nat} (ho1 : Owns w1 w.heap.size A1 c1 4 m) (hb1 : Below w.heap.size w w1) :
    Calls Tryz.prog 80 #[.slice (some ⟨w1.heap.size, 0, none⟩) 2 2] (w1.alloc (.cells #[.slice A L c, .slice A1 4 c1] 41))
      fun e w2 => ∃ A2 c2, e = .returned (.slice A2 (L + 4) c2) ∧ Owns w2 w.heap.size A2 c2 (L + 4) (l ++ m) ∧ Below w.heap.size w w2 := by
  have hbA : Below w.heap.size w (w1.alloc (.cells #[.slice A L c, .slice A1 4 c1] 41)) := hb1.alloc hb1.size _
  refine (concat_two w1.heap.size 2 A c L l HL A1 c1 4 m H4 _ (by simp) ?_ ?_ (hr.up hbA) (ho1.read.up ((Below.refl _ _).alloc (Nat.le_refl _) _)) hl (by omega) (by omega)).mono ?_
  · rw [cell_of_row _ _ _ _ _ _ (heap_alloc_new w1 _)]; rfl
  · rw [cell_of_row _ _ _ _ _ _ (heap_alloc_new w1 _)]; rfl
  · rintro e w2 ⟨A2, c2, rfl, ho2, hb2⟩
    exact ⟨A2, c2, rfl, ho2.base_le hbA.size, hbA.trans (hb2.mono hbA.size)⟩

set_option maxHeartbeats 400000 in
theorem equal_any (A1 : Option Addr) (c1 L1 : Nat) (l1 : List UInt8) (HL1 : Hid (l1.length = L1)) (A2 : Option Addr) (c2 L2 : Nat) (l2 : List UInt8) (HL2 : Hid (l2.length = L2)) (w : World) (hr1 : Rd w w.heap.size A1 l1) (hr2 : Rd w w.heap.size A2 l2) :
    Calls Tryz.prog 109 #[.slice A1 L1 c1, .slice A2 L2 c2] w fun e w' => e = .returned (.bool (l1 == l2)) ∧ w = w' := by
  have k1 := run_string_rd hr1 _ _ Tryz.underlying41 Tryz.underlying5 Tryz.underlying9 L1 c1 HL1.out
  have k2 := run_string_rd hr2 _ _ Tryz.underlying41 Tryz.underlying5 Tryz.underlying9 L2 c2 HL2.out
  go_enter Tryz.func109, Tryz.ntmps109
  go_wp2_with fail
  go_ret
  exact ⟨rfl, rfl⟩

end Go.Proofs.YtdjfahnnfhediaaGreat

namespace Go.Proofs.YtdjfahnnfhediaaGreat
set_option maxRecDepth 100000
open Go.RowKit Crc Wm

/-- a copy of bytes, in new memory, where there are any or an address -/
theorem clone_any (A : Option Addr) (c L : Nat) (l : List UInt8) (HL : Hid (l.length = L)) (w : World) (hr : Rd w w.heap.size (A) l) (hl : L ≤ 1073741824) :
    Calls Tryz.prog 123 #[.slice A L c] w (Made w L l) := by
  obtain ⟨i0, hi, hz0, hz1, hz2⟩ := info_parts byte_facts
  have hown0 : (w.alloc (.cells #[] 5)).ownsRow w.heap.size 5 1 (.slice (some ⟨w.heap.size, 0, none⟩) 0 0) 0 [] := World.ownsRow_lit w #[] 0 (Nat.le_refl _) (by simp [maxLen]) rfl
  have hb0 : Below w.heap.size w (w.alloc (.cells #[] 5)) := (Below.refl _ _).alloc (Nat.le_refl _) _
  rcases A with _ | ⟨b, o, sp⟩
  · have hnil : l = [] := by
      rcases hr with h | ⟨b, o, e, _⟩
      · exact h
      · cases e
    subst hnil
    obtain rfl : L = 0 := by have := HL.out; simpa using this.symm
    clear hown0 hb0 hi hz0 hz1 hz2
    have hq : (binOp .eql 41 (.slice none 0 c) (.slice none 0 0)).run Tryz.prog w = .ok (.bool true) w := Lib.run_eql_slice_nil w _ _ _ _ _ _ _ Tryz.underlying41
    go_enter Tryz.func123, Tryz.ntmps123
    go_wp2_with fail
    go_ret
    exact ⟨none, 0, rfl, ⟨rfl, .inl ⟨rfl, rfl⟩⟩, Below.refl _ _⟩
  · have hq : (binOp .eql 41 (.slice (some ⟨b, o, sp⟩) L c) (.slice none 0 0)).run Tryz.prog w = .ok (.bool false) w := Lib.run_eql_slice_nil w _ _ _ _ _ _ _ Tryz.underlying41
    go_enter Tryz.func123, Tryz.ntmps123
    go_wp2_with (at_builtin; refine wpList_append_rd rfl (.tmp 5) (.tmp 6) _ rfl w.heap.size i0 Tryz.underlying41 hi hz0 hz1 hz2 (.slice (some ⟨w.heap.size, 0, none⟩) 0 0) 0 [] rfl hown0 w.heap.size _ l L c rfl (hr.below hb0) HL.out (by omega) hb0.size ?_; intro v1 w1 hown1 hg1 hat1; obtain ⟨A1, c1, rfl, ho1, hb1⟩ := append_step' (l := []) hown0 hb0 hb0.size hown1 hg1; clear hown1 hg1 hat1; simp only [Nat.zero_add, List.nil_append] at ho1)
    go_ret
    exact ⟨A1, c1, rfl, ho1, hb1⟩

/-- is what has been sealed what it was sealed as? -/
def whole (l : List UInt8) (n : Nat) : Bool := l.drop n == sum4 (l.take n)

theorem rd_drewN {w : World} {B : Nat} {A : Option Addr} {l : List UInt8} (h : Rd w B A l) (n : Nat) : Rd (w.drewN n) B A l := h.below (below_drewN (Below.refl _ _) n)

/-- what Open answers -/
def Opened (w : World) (n : Nat) (l : List UInt8) (e : Ending) (w' : World) : Prop :=
  ∃ A cap, ∃ E : Int, e = .returned (.tuple #[.slice A (if whole l n = true then n else 0) cap, .int .i64 E]) ∧ E = (if whole l n = true then 0 else 4) ∧
    Owns w' w.heap.size A cap (if whole l n = true then n else 0) (if whole l n = true then l.take n else []) ∧ Below w.heap.size w w'

theorem opened_no {w w' : World} {n : Nat} {l : List UInt8} (h : whole l n = false) (hb : Below w.heap.size w w') : Opened w n l (.returned (.tuple #[.slice none 0 0, .int .i64 4])) w' := by
  refine ⟨none, 0, 4, by simp [h], by simp [h], ?_, hb⟩
  simp only [h]
  exact ⟨rfl, .inl ⟨rfl, rfl⟩⟩
theorem opened_yes {w w' : World} {n : Nat} {l : List UInt8} {A : Option Addr} {cap : Nat} (h : whole l n = true) (ho : Owns w' w.heap.size A cap n (l.take n)) (hb : Below w.heap.size w w') : Opened w n l (.returned (.tuple #[.slice A n cap, .int .i64 0])) w' := by
  refine ⟨A, cap, 0, by simp [h], by simp [h], ?_, hb⟩
  simp only [h]
  exact ho

end Go.Proofs.YtdjfahnnfhediaaGreat

namespace Go.Proofs.YtdjfahnnfhediaaGreat
set_option maxRecDepth 100000
open Go.RowKit Crc Wm

/-- the n bytes l lie there, and there is room for as many at least -/
structure Lies (w : World) (A : Option Addr) (c n : Nat) (l : List UInt8) : Prop where
  rd : Rd w w.heap.size A l
  len : l.length = n
  cap : n ≤ c

theorem Owns.cap_le {w : World} {base : Nat} {A : Option Addr} {cap n : Nat} {l : List UInt8} (h : Owns w base A cap n l) : n ≤ cap := by
  rcases h.2 with ⟨_, hn⟩ | ⟨g, c, cur, e, _, _, hnc, _⟩
  · omega
  · injection e with _ _ e3
    omega
theorem Owns.lies {w : World} {base : Nat} {A : Option Addr} {cap n : Nat} {l : List UInt8} (h : Owns w base A cap n l) : Lies w A cap n l := ⟨h.read, h.len, h.cap_le⟩
theorem Lies.up {w W : World} {A : Option Addr} {c n : Nat} {l : List UInt8} (h : Lies w A c n l) (hb : Below w.heap.size w W) : Lies W A c n l := ⟨h.rd.up hb, h.len, h.cap⟩
theorem Lies.conv {w : World} {A : Option Addr} {c n : Nat} {l : List UInt8} (h : Lies w A c n l) : (convert 41 9 (.slice A n c)).run Tryz.prog w = .ok (.string ⟨l.toArray⟩) w :=
  run_string_rd h.rd _ _ Tryz.underlying41 Tryz.underlying5 Tryz.underlying9 n c h.len

/-- what is sealed is whole -/
theorem whole_sealB (l : List UInt8) (n : Nat) (h : l.length = n) : whole (sealB l) n = true := by
  subst h
  unfold whole sealB
  rw [List.drop_left, List.take_left, beq_self_eq_true]
theorem take_sealB (l : List UInt8) (n : Nat) (h : l.length = n) : (sealB l).take n = l := by
  subst h
  unfold sealB
  rw [List.take_left]

/-- Open of what is sealed: a copy -/
def Back (w : World) (n : Nat) (l : List UInt8) (e : Ending) (w' : World) : Prop :=
  ∃ A cap, e = .returned (.tuple #[.slice A n cap, .int .i64 0]) ∧ Owns w' w.heap.size A cap n l ∧ Below w.heap.size w w'
theorem sum4_inj {a b : List UInt8} (h : sum4 a = sum4 b) : ofB a = ofB b := by
  have h2 := congrArg valB h
  unfold sum4 at h2
  rw [val_putB_fit 4 _ (ofB a).isLt, val_putB_fit 4 _ (ofB b).isLt] at h2
  exact BitVec.eq_of_toNat_eq h2

/-- one byte turned into another: what was sealed is whole no longer -/
theorem turned_spoilt (l : List UInt8) (n i : Nat) (y : UInt8) (hn : l.length = n) (hi : i < (sealB l).length) (hy : y ≠ (sealB l)[i]) : whole ((sealB l).set i y) n = false := by
  subst hn
  unfold whole
  rw [beq_eq_false_iff_ne]
  rcases Nat.lt_or_ge i l.length with h | h
  · have hg : (sealB l)[i] = l[i] := List.getElem_append_left h
    rw [hg] at hy
    have hs : (sealB l).set i y = l.set i y ++ sum4 l := by unfold sealB; rw [List.set_append_left _ _ h]
    rw [hs]
    have hlen : (l.set i y).length = l.length := List.length_set
    rw [← hlen, List.drop_left, List.take_left]
    intro e
    have h1 := sum4_inj e
    have h2 : l = l.take i ++ l[i] :: l.drop (i + 1) := by
      conv => lhs; rw [← List.take_append_drop i l]
      rw [List.drop_eq_getElem_cons h]
    have h3 : l.set i y = l.take i ++ y :: l.drop (i + 1) := List.set_eq_take_append_cons_drop.trans (if_pos h)
    rw [h3] at h1
    conv at h1 => lhs; rw [h2]
    exact hy (ofB_turned _ _ _ _ h1).symm
  · have hs : (sealB l).set i y = l ++ (sum4 l).set (i - l.length) y := by unfold sealB; rw [List.set_append_right _ _ h]
    rw [hs, List.drop_left, List.take_left]
    intro e
    have hlt : i - l.length < (sum4 l).length := by rw [length_sum4]; rw [length_seal] at hi; omega
    have h4 : (sealB l)[i] = (sum4 l)[i - l.length] := List.getElem_append_right h
    apply hy
    rw [h4]
    have h5 : ((sum4 l).set (i - l.length) y)[i - l.length]? = some y := by rw [List.getElem?_set_self hlt]
    rw [e, List.getElem?_eq_getElem hlt] at h5
    injection h5 with h5
    exact h5.symm

/-- the bytes of an owned row of a known length, cell by cell -/
theorem Owns.at_ {w : World} {base : Nat} {A : Option Addr} {cap n : Nat} {l : List UInt8} (h : Owns w base A cap n l) (hn : 0 < n) : ∃ g, A = some ⟨g, 0, none⟩ ∧ g < w.heap.size ∧ base ≤ g ∧ (∀ j x, l[j]? = some x → w.cell? ⟨g, j, none⟩ = some (byteV x)) ∧ ∀ j, w.frozen? ⟨g, j, none⟩ = false := by
  have hlen := h.len
  rcases h.2 with ⟨e, h0⟩ | ⟨g, c, cur, e, hb, hh, _, _, _, _⟩
  · omega
  · injection e with e1 _ e3
    subst e1
    refine ⟨g, rfl, (h.lt g rfl).2, hb, fun j x hx => ?_, fun j => frozen_of_row _ _ _ _ _ hh⟩
    have hj := h.cells (g := g) rfl j (byteV x) (by simp [byteVs, hx])
    unfold Addr.add at hj
    split at hj
    · next h0 => subst h0; exact hj
    · simpa using hj

/-- one byte of an owned row set -/
theorem Owns.set_ {w : World} {base g : Nat} {cap n : Nat} {l : List UInt8} (h : Owns w base (some ⟨g, 0, none⟩) cap n l) (i : Nat) (y : UInt8) (hi : i < n) : Owns (w.setCell ⟨g, i, none⟩ (byteV y)) base (some ⟨g, 0, none⟩) cap n (l.set i y) := by
  have hlen := h.len
  refine ⟨by rw [length_byteVs, List.length_set]; omega, ?_⟩
  rcases h.2 with ⟨e, h0⟩ | ⟨g', c, cur, e, hb, hh, h1, h2, h3, h4⟩
  · omega
  · injection e with e1 _ e3
    injection e1 with e1
    injection e1 with e1 _ _
    subst e1
    refine .inr ⟨g, c, cur.setIfInBounds i (byteV y), by rw [e3], hb, heap_setCell_same _ _ _ _ _ _ hh, h1, h2, by rw [Array.size_setIfInBounds]; exact h3, ?_⟩
    rw [Array.toList_setIfInBounds, List.take_set, h4]
    unfold byteVs
    rw [List.map_set]

theorem Owns.set_other {w : World} {base g : Nat} {cap n : Nat} {l : List UInt8} (h : Owns w base (some ⟨g, 0, none⟩) cap n l) (p : Addr) (v : Value) (hp : g ≠ p.block) : Owns (w.setCell p v) base (some ⟨g, 0, none⟩) cap n l := by
  refine ⟨h.1, ?_⟩
  rcases h.2 with ⟨e, h0⟩ | ⟨g', c, cur, e, hb, hh, rest⟩
  · exact .inl ⟨e, h0⟩
  · have e' := e
    injection e' with e1 _ e3
    injection e1 with e1
    injection e1 with e1 _ _
    subst e1
    exact .inr ⟨g, c, cur, e, hb, by rw [heap_setCell_other _ _ _ _ hp]; exact hh, rest⟩

/-- 'make([]byte, n)' -/
theorem made_zeros {w : World} {base : Nat} {A : Option Addr} {cap n : Nat} (h : w.ownsRow base 5 1 (.slice A n cap) n (madeCells (Value.cells (.int .u8 0)) (n * 1)).toList) : Owns w base A cap n (List.replicate n 0) := by
  have e : (madeCells (Value.cells (.int .u8 0)) (n * 1)).toList = byteVs (List.replicate n 0) := by
    unfold madeCells byteVs
    rw [Array.toList_map, Array.toList_range, List.map_replicate, Nat.mul_one, List.eq_replicate_iff]
    refine ⟨by simp, fun b hb => ?_⟩
    obtain ⟨i, _, rfl⟩ := List.mem_map.1 hb
    simp [Value.cells, byteV, Nat.mod_one]
  rw [e] at h
  exact h

section
variable {w1 W : World} {A : Option Addr} {c n : Nat} {l : List UInt8}
/-- sums in a later world -/
theorem of_since (h : Lies w1 A c n l) (hl : n ≤ 1099511627776) (hb : Since w1 W) : Calls Tryz.prog 95 #[.slice A n c] W fun e W' => e = .returned (.int .u32 (word (ofB l))) ∧ Since w1 W' ∧ Below W.heap.size W W' :=
  (of_any A c n l h.len W (h.up hb).rd hl).mono fun _ _ ⟨he, hb'⟩ => ⟨he, since_trans hb hb', hb'⟩
theorem more_since (s : BitVec 32) (h : Lies w1 A c n l) (hl : n ≤ 1099511627776) (hb : Since w1 W) : Calls Tryz.prog 112 #[.int .u32 (word s), .slice A n c] W fun e W' => e = .returned (.int .u32 (word (more s l))) ∧ Since w1 W' ∧ Below W.heap.size W W' :=
  (more_any s A c n l h.len W (h.up hb).rd hl).mono fun _ _ ⟨he, hb'⟩ => ⟨he, since_trans hb hb', hb'⟩
theorem refof_since (h : Lies w1 A c n l) (hl : n ≤ 1099511627776) (hb : Since w1 W) : Calls Tryz.prog 85 #[.slice A n c] W fun e W' => e = .returned (.int .u32 (word (ofB l))) ∧ Since w1 W' ∧ Below W.heap.size W W' :=
  (refof_any A c n l h.len W (h.up hb).rd hl).mono fun _ _ ⟨he, hb'⟩ => ⟨he, hb' ▸ hb, hb' ▸ Below.refl _ _⟩
theorem refmore_since (s : BitVec 32) (h : Lies w1 A c n l) (hl : n ≤ 1099511627776) (hb : Since w1 W) : Calls Tryz.prog 108 #[.int .u32 (word s), .slice A n c] W fun e W' => e = .returned (.int .u32 (word (more s l))) ∧ Since w1 W' ∧ Below W.heap.size W W' :=
  (refmore_any s A c n l h.len W (h.up hb).rd hl).mono fun _ _ ⟨he, hb'⟩ => ⟨he, hb' ▸ hb, hb' ▸ Below.refl _ _⟩
end

def example9 : List UInt8 := [49, 50, 51, 52, 53, 54, 55, 56, 57]
theorem example_sum : word (ofB example9) = 3421780262 := by kernel_rfl

theorem example_rd (w : World) : Rd (w.alloc (.cells #[.int .u8 49, .int .u8 50, .int .u8 51, .int .u8 52, .int .u8 53, .int .u8 54, .int .u8 55, .int .u8 56, .int .u8 57] 5 (9, 10))) (w.heap.size + 1) (some ⟨w.heap.size, 0, none⟩) example9 := by
  refine .inr ⟨_, 0, rfl, by omega, fun j y hy => ?_⟩
  rw [Nat.zero_add, cell_of_row _ _ _ _ _ _ (heap_alloc_new w _)]
  rcases j with _ | _ | _ | _ | _ | _ | _ | _ | _ | j
  all_goals first | (injection hy with hy; subst hy; rfl) | cases hy

end Go.Proofs.YtdjfahnnfhediaaGreat

namespace Go.Proofs.YtdjfahnnfhediaaGreat
set_option maxRecDepth 100000
open Go.RowKit Crc Wm

structure Pc where
  E : Int
  A : Int
  I : Int
  C : Int
  D : List UInt8

def Pc.none : Pc := ⟨0, 0, 0, 0, []⟩

/-- may a piece be? -/
def Pc.May (p : Pc) : Prop := (0 ≤ p.E ∧ p.E ≤ 4294967295) ∧ (0 ≤ p.A ∧ p.A ≤ 2199023255552) ∧ (1 ≤ p.C ∧ p.C ≤ 1024) ∧ (0 ≤ p.I ∧ p.I ≤ p.C - 1) ∧ (p.D.length = 44 ∨ (p.I = p.C - 1 ∧ p.D.length < 44))
instance (p : Pc) : Decidable p.May := by unfold Pc.May; infer_instance

def zeroB (n : Nat) : List UInt8 := List.replicate n 0

/-- a piece's 60 bytes, and its sector -/
def Pc.head (p : Pc) : List UInt8 := putB 4 p.E.toNat ++ putB 6 p.A.toNat ++ putB 2 p.I.toNat ++ putB 2 p.C.toNat ++ putB 1 p.D.length ++ putB 1 0
def Pc.body (p : Pc) : List UInt8 := p.head ++ p.D ++ zeroB (44 - p.D.length)
def Pc.sector (p : Pc) : List UInt8 := sum4 p.body ++ p.body

def Pc.writeE (p : Pc) : Int := if p.May then 0 else 1
def Pc.writeB (p : Pc) : List UInt8 := if p.May then p.sector else []

theorem length_head (p : Pc) : p.head.length = 16 := by
  unfold Pc.head
  simp only [List.length_append, length_putB]
theorem length_body (p : Pc) (h : p.D.length ≤ 44) : p.body.length = 60 := by
  unfold Pc.body zeroB
  rw [List.length_append, List.length_append, length_head, List.length_replicate]
  omega
theorem Pc.May.len {p : Pc} (h : p.May) : p.D.length ≤ 44 := by
  obtain ⟨_, _, _, _, h⟩ := h
  omega
theorem length_sector (p : Pc) (h : p.D.length ≤ 44) : p.sector.length = 64 := by
  unfold Pc.sector
  rw [List.length_append, length_sum4, length_body p h]

/-- what bytes tell -/
def fieldN (l : List UInt8) (k n : Nat) : Nat := valB ((l.drop k).take n)
def sizeN (l : List UInt8) : Nat := fieldN l 18 1
def tell (l : List UInt8) : Pc := ⟨fieldN l 4 4, fieldN l 8 6, fieldN l 14 2, fieldN l 16 2, (l.drop 20).take (sizeN l)⟩

theorem putB_valB (l : List UInt8) : ∀ k, l.length = k → putB k (valB l) = l := by
  induction l with
  | nil => intro k h; subst h; rfl
  | cons x r ih =>
    intro k h
    subst h
    rw [List.length_cons, putB_succ, valB]
    have hx : x.toNat < 256 := x.toNat_lt
    have e1 : UInt8.ofNat (x.toNat + 256 * valB r) = x := by
      apply UInt8.toNat_inj.1
      rw [toNat_ofNat]
      omega
    have e2 : (x.toNat + 256 * valB r) / 256 = valB r := by omega
    rw [e1, e2, ih _ rfl]

theorem fieldN_lt (l : List UInt8) (k n : Nat) : fieldN l k n < 256 ^ n := by
  unfold fieldN
  refine Nat.lt_of_lt_of_le (valB_lt _) (Nat.pow_le_pow_right (by omega) ?_)
  rw [List.length_take]
  omega
theorem put_field (l : List UInt8) (k n : Nat) (h : k + n ≤ l.length) : putB n (fieldN l k n) = (l.drop k).take n :=
  putB_valB _ n (by rw [List.length_take, List.length_drop]; omega)

/-- what stands behind the first k bytes, in two -/
theorem drop_two (l : List UInt8) (k n : Nat) : l.drop k = (l.drop k).take n ++ l.drop (k + n) := by
  rw [← List.drop_drop, List.take_append_drop]

/-- is all behind the data 0, and the byte behind the size? -/
def Clean (l : List UInt8) : Prop := fieldN l 19 1 = 0 ∧ ∀ x ∈ l.drop (20 + sizeN l), x = 0
instance (l : List UInt8) : Decidable (Clean l) := by unfold Clean; infer_instance

theorem all_zero (l : List UInt8) (n : Nat) (h : l.length = n) : (∀ x ∈ l, x = 0) ↔ l = zeroB n := by
  unfold zeroB
  rw [List.eq_replicate_iff]
  exact ⟨fun g => ⟨h, g⟩, fun g => g.2⟩

theorem tell_D (l : List UInt8) (h : l.length = 64) (hs : sizeN l ≤ 44) : (tell l).D.length = sizeN l := by
  show ((l.drop 20).take (sizeN l)).length = _
  rw [List.length_take, List.length_drop]
  omega

/-- of 64 bytes: what is written of what they tell is they, just if they are clean (and their sum is right) -/
theorem body_tell (l : List UInt8) (h : l.length = 64) (hs : sizeN l ≤ 44) : (tell l).body = l.drop 4 ↔ Clean l := by
  have hD := tell_D l h hs
  have e : (tell l).head = (l.drop 4).take 4 ++ (l.drop 8).take 6 ++ (l.drop 14).take 2 ++ (l.drop 16).take 2 ++ (l.drop 18).take 1 ++ putB 1 0 := by
    unfold Pc.head
    rw [hD]
    show putB 4 ((fieldN l 4 4 : Nat) : Int).toNat ++ putB 6 ((fieldN l 8 6 : Nat) : Int).toNat ++ putB 2 ((fieldN l 14 2 : Nat) : Int).toNat ++ putB 2 ((fieldN l 16 2 : Nat) : Int).toNat ++ putB 1 (fieldN l 18 1) ++ putB 1 0 = _
    rw [Int.toNat_natCast, Int.toNat_natCast, Int.toNat_natCast, Int.toNat_natCast, put_field l 4 4 (by omega), put_field l 8 6 (by omega), put_field l 14 2 (by omega), put_field l 16 2 (by omega), put_field l 18 1 (by omega)]
  have f : l.drop 4 = (l.drop 4).take 4 ++ (l.drop 8).take 6 ++ (l.drop 14).take 2 ++ (l.drop 16).take 2 ++ (l.drop 18).take 1 ++ (l.drop 19).take 1 ++ (l.drop 20).take (sizeN l) ++ l.drop (20 + sizeN l) := by
    conv => lhs; rw [drop_two l 4 4, drop_two l 8 6, drop_two l 14 2, drop_two l 16 2, drop_two l 18 1, drop_two l 19 1, drop_two l 20 (sizeN l)]
    simp only [List.append_assoc]
  unfold Pc.body Clean
  rw [hD, e]
  conv => lhs; rhs; rw [f]
  show _ ++ putB 1 0 ++ (l.drop 20).take (sizeN l) ++ zeroB (44 - sizeN l) = _ ↔ _
  have hz : (l.drop (20 + sizeN l)).length = 44 - sizeN l := by rw [List.length_drop]; omega
  rw [all_zero _ _ hz]
  have hn : (l.drop 19).take 1 = putB 1 (fieldN l 19 1) := (put_field l 19 1 (by omega)).symm
  rw [hn]
  constructor
  · intro g
    have g1 := List.append_inj g (by simp only [List.length_append, List.length_take, List.length_drop, length_putB])
    have g2 := List.append_inj g1.1 (by simp only [List.length_append, List.length_take, List.length_drop, length_putB])
    have g3 := List.append_cancel_left g2.1
    refine ⟨?_, g1.2.symm⟩
    have g4 := congrArg valB g3
    rw [val_putB, val_putB, Nat.mod_eq_of_lt (fieldN_lt l 19 1)] at g4
    simpa using g4.symm
  · rintro ⟨g1, g2⟩
    rw [g1, g2]

/-- Read's error, and what it tells -/
def readE (l : List UInt8) : Int :=
  if l.length < 64 then 2 else if 64 < l.length then 3 else if l.take 4 ≠ sum4 (l.drop 4) then 4 else if sizeN l ≤ 44 ∧ Clean l ∧ (tell l).May then 0 else 3
def readP (l : List UInt8) : Pc := if readE l = 0 then tell l else Pc.none

theorem readE_ok (l : List UInt8) : readE l = 0 ↔ l.length = 64 ∧ l.take 4 = sum4 (l.drop 4) ∧ sizeN l ≤ 44 ∧ Clean l ∧ (tell l).May := by
  unfold readE
  constructor
  · intro h
    split at h
    · omega
    · split at h
      · omega
      · split at h
        · omega
        · split at h
          · next h1 h2 h3 h4 => exact ⟨by omega, Decidable.not_not.1 h3, h4⟩
          · omega
  · rintro ⟨h1, h2, h3⟩
    rw [if_neg (by omega), if_neg (by omega), if_neg (by rw [h2]; exact fun h => h rfl), if_pos h3]
theorem readE_short (l : List UInt8) (h : l.length < 64) : readE l = 2 := by unfold readE; rw [if_pos h]
theorem readE_long (l : List UInt8) (h : 64 < l.length) : readE l = 3 := by unfold readE; rw [if_neg (by omega), if_pos h]
theorem readE_sum (l : List UInt8) (h : l.length = 64) (hs : l.take 4 ≠ sum4 (l.drop 4)) : readE l = 4 := by unfold readE; rw [if_neg (by omega), if_neg (by omega), if_pos hs]
theorem readE_form (l : List UInt8) (h : l.length = 64) (hs : l.take 4 = sum4 (l.drop 4)) (h2 : ¬ (sizeN l ≤ 44 ∧ Clean l ∧ (tell l).May)) : readE l = 3 := by
  unfold readE; rw [if_neg (by omega), if_neg (by omega), if_neg (by rw [hs]; exact fun h => h rfl), if_neg h2]
theorem readE_four (l : List UInt8) : readE l = 0 ∨ readE l = 2 ∨ readE l = 3 ∨ readE l = 4 := by
  unfold readE
  split
  · exact .inr (.inl rfl)
  · split
    · exact .inr (.inr (.inl rfl))
    · split
      · exact .inr (.inr (.inr rfl))
      · split
        · exact .inl rfl
        · exact .inr (.inr (.inl rfl))
theorem readP_not (l : List UInt8) (h : readE l ≠ 0) : readP l = Pc.none := by unfold readP; rw [if_neg h]
theorem readP_ok (l : List UInt8) (h : readE l = 0) : readP l = tell l := by unfold readP; rw [if_pos h]
theorem readP_may (l : List UInt8) (h : readE l = 0) : (readP l).May := by rw [readP_ok l h]; exact ((readE_ok l).1 h).2.2.2.2

/-- what is read is written to the same sector -/
theorem write_read (l : List UInt8) (h : readE l = 0) : (readP l).sector = l := by
  rw [readP_ok l h]
  obtain ⟨h1, h2, h3, h4, h5⟩ := (readE_ok l).1 h
  unfold Pc.sector
  rw [(body_tell l h1 h3).2 h4, ← h2, List.take_append_drop]

/-- the document's Read: what is written of it is it -/
theorem read_by_write (l : List UInt8) (h : l.length = 64) (hs : l.take 4 = sum4 (l.drop 4)) (h2 : sizeN l ≤ 44) : ((tell l).May ∧ (tell l).sector = l) ↔ readE l = 0 := by
  rw [readE_ok]
  constructor
  · rintro ⟨h3, h4⟩
    refine ⟨h, hs, h2, ?_, h3⟩
    rw [← body_tell l h h2]
    have := congrArg (List.drop 4) h4
    unfold Pc.sector at this
    rwa [List.drop_left' (length_sum4 _)] at this
  · intro g
    exact ⟨g.2.2.2.2, by have := write_read l ((readE_ok l).2 g); rwa [readP_ok l ((readE_ok l).2 g)] at this⟩

/-- pieces of a list, where they stand -/
theorem cut_at {a b c : List UInt8} {k n : Nat} (ha : a.length = k) (hb : b.length = n) : ((a ++ (b ++ c)).drop k).take n = b := by
  subst ha hb
  rw [List.drop_left, List.take_left]

/-- a piece that is written is read -/
theorem read_write (p : Pc) (h : p.May) : readE p.sector = 0 ∧ readP p.sector = p := by
  have hl := h.len
  have hS := length_sum4 p.body
  have e : p.sector = sum4 p.body ++ (putB 4 p.E.toNat ++ (putB 6 p.A.toNat ++ (putB 2 p.I.toNat ++ (putB 2 p.C.toNat ++ (putB 1 p.D.length ++ (putB 1 0 ++ (p.D ++ zeroB (44 - p.D.length)))))))) := by
    unfold Pc.sector
    congr 1
  have b1 : fieldN p.sector 4 4 = p.E.toNat := by
    unfold fieldN; rw [e, cut_at hS (length_putB _ _), val_putB_fit]
    have := h.1; omega
  have b2 : fieldN p.sector 8 6 = p.A.toNat := by
    unfold fieldN
    rw [e, ← List.append_assoc, cut_at (by simp only [List.length_append, hS, length_putB]) (length_putB _ _), val_putB_fit]
    have := h.2.1; omega
  have b3 : fieldN p.sector 14 2 = p.I.toNat := by
    unfold fieldN
    rw [e, ← List.append_assoc, ← List.append_assoc, cut_at (by simp only [List.length_append, hS, length_putB]) (length_putB _ _), val_putB_fit]
    have := h.2.2; omega
  have b4 : fieldN p.sector 16 2 = p.C.toNat := by
    unfold fieldN
    rw [e, ← List.append_assoc, ← List.append_assoc, ← List.append_assoc, cut_at (by simp only [List.length_append, hS, length_putB]) (length_putB _ _), val_putB_fit]
    have := h.2.2; omega
  have b5 : sizeN p.sector = p.D.length := by
    unfold sizeN fieldN
    rw [e, ← List.append_assoc, ← List.append_assoc, ← List.append_assoc, ← List.append_assoc, cut_at (by simp only [List.length_append, hS, length_putB]) (length_putB _ _), val_putB_fit]
    omega
  have b6 : (p.sector.drop 20).take p.D.length = p.D := by
    rw [e, ← List.append_assoc, ← List.append_assoc, ← List.append_assoc, ← List.append_assoc, ← List.append_assoc, ← List.append_assoc, cut_at (by simp only [List.length_append, hS, length_putB]) rfl]
  have ht : tell p.sector = p := by
    unfold tell
    rw [b1, b2, b3, b4, b5, b6]
    obtain ⟨h1, h2, h3, h4, _⟩ := h
    rw [Int.toNat_of_nonneg h1.1, Int.toNat_of_nonneg h2.1, Int.toNat_of_nonneg h4.1, Int.toNat_of_nonneg (by omega)]
  have h0 : readE p.sector = 0 := by
    refine (read_by_write p.sector (length_sector p hl) ?_ (by rw [b5]; exact hl)).1 ⟨by rw [ht]; exact h, by rw [ht]⟩
    unfold Pc.sector
    rw [List.take_left' hS, List.drop_left' hS]
  exact ⟨h0, by rw [readP_ok _ h0, ht]⟩

/-- how many pieces so many bytes are -/
def need (n : Int) : Int := if n ≤ 0 then 1 else (n - 1) / 44 + 1

/-- a record's piece at i -/
def pieceAt (epoch at_ : Int) (C : Nat) (b : List UInt8) (i : Nat) : Pc := ⟨epoch, at_ + i, i, C, (b.drop (44 * i)).take 44⟩
def needN (b : List UInt8) : Nat := (need b.length).toNat

theorem needN_eq (b : List UInt8) : ((needN b : Nat) : Int) = need b.length := by
  unfold needN need
  split <;> omega
theorem needN_pos (b : List UInt8) : 1 ≤ needN b := by
  unfold needN need
  split <;> omega
theorem needN_bd (b : List UInt8) : b.length ≤ 44 * needN b ∧ 44 * (needN b - 1) ≤ b.length ∧ (1 < needN b → 44 * (needN b - 1) < b.length) := by
  have h := needN_eq b
  unfold need at h
  split at h <;> omega

def cutE (epoch at_ : Int) (b : List UInt8) : Int :=
  if 1024 < needN b then 13 else if (0 ≤ epoch ∧ epoch ≤ 4294967295) ∧ 0 ≤ at_ ∧ at_ + ((needN b : Int) - 1) ≤ 2199023255552 then 0 else 1
def cutAll (epoch at_ : Int) (b : List UInt8) : List (List UInt8) := (List.range (needN b)).map fun i => (pieceAt epoch at_ (needN b) b i).sector
def cutL (epoch at_ : Int) (b : List UInt8) : List (List UInt8) := if cutE epoch at_ b = 0 then cutAll epoch at_ b else []

theorem piece_len (epoch at_ : Int) (C : Nat) (b : List UInt8) (i : Nat) : (pieceAt epoch at_ C b i).D.length = min 44 (b.length - 44 * i) := by
  show ((b.drop (44 * i)).take 44).length = _
  rw [List.length_take, List.length_drop]

/-- a piece of a record may be, just if its epoch and its place may -/
theorem piece_may (epoch at_ : Int) (b : List UInt8) (i : Nat) (hi : i < needN b) (hn : needN b ≤ 1024) :
    (pieceAt epoch at_ (needN b) b i).May ↔ (0 ≤ epoch ∧ epoch ≤ 4294967295) ∧ 0 ≤ at_ + i ∧ at_ + i ≤ 2199023255552 := by
  have hb := needN_bd b
  have hl := piece_len epoch at_ (needN b) b i
  unfold Pc.May
  rw [hl]
  show (0 ≤ epoch ∧ epoch ≤ 4294967295) ∧ (0 ≤ at_ + (i : Int) ∧ at_ + (i : Int) ≤ 2199023255552) ∧ (1 ≤ (needN b : Int) ∧ (needN b : Int) ≤ 1024) ∧ (0 ≤ (i : Int) ∧ (i : Int) ≤ (needN b : Int) - 1) ∧ (min 44 (b.length - 44 * i) = 44 ∨ ((i : Int) = (needN b : Int) - 1 ∧ min 44 (b.length - 44 * i) < 44)) ↔ _
  constructor
  · rintro ⟨h1, h2, _⟩
    exact ⟨h1, h2⟩
  · rintro ⟨h1, h2⟩
    refine ⟨h1, h2, by omega, by omega, ?_⟩
    rcases Nat.lt_or_ge (i + 1) (needN b) with h | h
    · left; omega
    · omega

/-- the error at a place of a record, whose first piece has this epoch and count -/
def errAt (l : List (List UInt8)) (at_ ep ct : Int) (i : Nat) : Int :=
  match l[i]? with
  | none => 2
  | some x => if readE x ≠ 0 then readE x else if (readP x).A = at_ + i ∧ (readP x).I = i ∧ (readP x).E = ep ∧ (readP x).C = ct then 0 else 3
/-- the first one of the first n -/
def firstErr (l : List (List UInt8)) (at_ ep ct : Int) : Nat → Int
  | 0 => 0
  | n + 1 => if firstErr l at_ ep ct n ≠ 0 then firstErr l at_ ep ct n else errAt l at_ ep ct n
def dataAt (l : List (List UInt8)) (i : Nat) : List UInt8 := (readP (l.getD i [])).D
def datas (l : List (List UInt8)) : Nat → List UInt8
  | 0 => []
  | n + 1 => datas l n ++ dataAt l n
def headP (l : List (List UInt8)) : Pc := readP (l.getD 0 [])
def headE (l : List (List UInt8)) : Int := match l[0]? with | none => 2 | some x => readE x
def gatE (l : List (List UInt8)) (at_ : Int) : Int := if headE l ≠ 0 then headE l else firstErr l at_ (headP l).E (headP l).C (headP l).C.toNat
def gatB (l : List (List UInt8)) (at_ : Int) : List UInt8 := if gatE l at_ = 0 then datas l (headP l).C.toNat else []
def gatEp (l : List (List UInt8)) (at_ : Int) : Int := if gatE l at_ = 0 then (headP l).E else 0
def gatC (l : List (List UInt8)) (at_ : Int) : Int := if gatE l at_ = 0 then (headP l).C else 0

theorem firstErr_le (l : List (List UInt8)) (at_ ep ct : Int) (n : Nat) : ∀ m, n ≤ m → firstErr l at_ ep ct n ≠ 0 → firstErr l at_ ep ct m = firstErr l at_ ep ct n := by
  intro m hm h
  induction m with
  | zero => obtain rfl : n = 0 := by omega
            rfl
  | succ m ih =>
    rcases Nat.lt_or_ge n (m + 1) with h1 | h1
    · have := ih (by omega)
      show (if firstErr l at_ ep ct m ≠ 0 then _ else _) = _
      rw [this, if_pos h]
    · obtain rfl : n = m + 1 := by omega
      rfl
theorem firstErr_zero (l : List (List UInt8)) (at_ ep ct : Int) (n : Nat) : firstErr l at_ ep ct n = 0 ↔ ∀ i, i < n → errAt l at_ ep ct i = 0 := by
  induction n with
  | zero => exact ⟨fun _ i hi => by omega, fun _ => rfl⟩
  | succ n ih =>
    show (if firstErr l at_ ep ct n ≠ 0 then _ else _) = _ ↔ _
    by_cases h : firstErr l at_ ep ct n = 0
    · rw [if_neg (by rw [h]; exact fun h => h rfl)]
      constructor
      · intro g i hi
        rcases Nat.lt_or_ge i n with h1 | h1
        · exact ih.1 h i h1
        · obtain rfl : i = n := by omega
          exact g
      · intro g
        exact g n (by omega)
    · rw [if_pos h]
      constructor
      · intro g; exact absurd g h
      · intro g
        exact absurd (ih.2 fun i hi => g i (by omega)) h
/-- the first error of n and one more -/
theorem firstErr_step (l : List (List UInt8)) (at_ ep ct : Int) (n : Nat) (h : firstErr l at_ ep ct n = 0) : firstErr l at_ ep ct (n + 1) = errAt l at_ ep ct n := by
  show (if firstErr l at_ ep ct n ≠ 0 then _ else _) = _
  rw [if_neg (by rw [h]; exact fun h => h rfl)]
/-- an error at n, none ahead of it: that is what comes of any more -/
theorem firstErr_at (l : List (List UInt8)) (at_ ep ct : Int) (n m : Nat) (hm : n < m) (h : firstErr l at_ ep ct n = 0) (he : errAt l at_ ep ct n ≠ 0) : firstErr l at_ ep ct m = errAt l at_ ep ct n := by
  have h1 := firstErr_step l at_ ep ct n h
  rw [← h1]
  exact firstErr_le l at_ ep ct (n + 1) m hm (by rw [h1]; exact he)

end Go.Proofs.YtdjfahnnfhediaaGreat
