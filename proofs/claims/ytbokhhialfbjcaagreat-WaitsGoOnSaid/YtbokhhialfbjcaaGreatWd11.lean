/-
  Transactions, locks and wants in one struct, behind a pointer.
-/
import Derived.Test.YtbokhhialfbjcaaGreatAw11
namespace Go.Proofs.YtbokhhialfbjcaaGreat
set_option maxRecDepth 100000
set_option linter.unusedVariables false
set_option linter.unusedSimpArgs false
open Go.RowKit Go.Shelf Go.Sort

structure Wp (W : World) (p : Nat) (A : Option Addr) (n k : Nat) (c : Int) (T : Tr) (B : Option Addr) (m kb : Nat) (L : List Lk) (C : Option Addr) (nq kq : Nat) (Q : List Wn) : Prop where
  b : Bk W p #[.slice A n k, .int .i64 c, .slice B m kb, .slice C nq kq] 36
  x : TxAt W A T.l
  hn : T.l.length = n
  hc : T.c = c
  l : LkAt W B L
  hm : L.length = m
  hk : m ≤ kb
  s : Sp B
  q : RW.At W C Q
  hq : Q.length = nq
  hqk : nq ≤ kq
  sq : Sp C
section
variable {W V : World} {p : Nat} {A : Option Addr} {n k : Nat} {c : Int} {T : Tr} {B : Option Addr} {m kb : Nat} {L : List Lk} {C : Option Addr} {nq kq : Nat} {Q : List Wn}
theorem Wp.below (h : Wp W p A n k c T B m kb L C nq kq Q) (hb : Below W.heap.size W V) : Wp V p A n k c T B m kb L C nq kq Q :=
  ⟨h.b.below hb, h.x.below hb, h.hn, h.hc, h.l.below hb, h.hm, h.hk, h.s, h.q.below hb, h.hq, h.hqk, h.sq⟩
theorem Wp.c0 (h : Wp W p A n k c T B m kb L C nq kq Q) : W.cell? ⟨p, 0, none⟩ = some (.slice A n k) := h.b.c 0 _ rfl
theorem Wp.c1 (h : Wp W p A n k c T B m kb L C nq kq Q) : W.cell? ⟨p, 1, none⟩ = some (.int .i64 c) := h.b.c 1 _ rfl
theorem Wp.c2 (h : Wp W p A n k c T B m kb L C nq kq Q) : W.cell? ⟨p, 2, none⟩ = some (.slice B m kb) := h.b.c 2 _ rfl
theorem Wp.c3 (h : Wp W p A n k c T B m kb L C nq kq Q) : W.cell? ⟨p, 3, none⟩ = some (.slice C nq kq) := h.b.c 3 _ rfl
end

theorem hasL_take {Q : List Wn} {i : Nat} {y : Wn} {id : Int} (hy : Q[i]? = some y) (h : hasL (Q.take i) id = false) : hasL (Q.take (i + 1)) id = decide ((y.x : Int) = id) := by
  unfold hasL at h ⊢
  rw [List.take_add_one, hy, List.any_append, h]
  simp

set_option maxHeartbeats 2000000 in
theorem waiting_any (p : Nat) (A : Option Addr) (n k : Nat) (c : Int) (T : Tr) (B : Option Addr) (m kb : Nat) (L : List Lk) (C : Option Addr) (nq kq : Nat) (Q : List Wn) (id : Int) (hnq : nq ≤ 64) (w : World) (hw : Wp w p A n k c T B m kb L C nq kq Q) :
    Calls Tryz.prog 11 #[.pointer (some ⟨p, 0, none⟩), .int .i64 id] w fun e w' => e = .returned (.bool (hasL Q id)) ∧ w' = w := by
  have HW := Lib.hid hw
  have c3 := hw.c3
  clear hw
  obtain ⟨r, hr⟩ : ∃ r, r = hasL Q id := ⟨_, rfl⟩
  have HR := Lib.hid hr
  rw [← hr]
  clear hr
  go_enter Tryz.func11, Tryz.ntmps11
  go_wp2_with fail
  go_loopw [5] (fun iv wr => ∃ i : Nat, iv = .int .i64 (i : Int) ∧ i ≤ nq ∧ Hid (hasL (Q.take i) id = false) ∧ wr = w) (fun iv _ => nq - (intOf iv).toNat)
  case atStart => exact ⟨0, rfl, Nat.zero_le _, (by show hasL (Q.take 0) id = false; rfl), by first | trivial | rfl⟩
  case round =>
    obtain ⟨i, rfl, hi, hno, hw⟩ := hrel
    replace hw := hw.symm
    subst hw
    rcases Nat.lt_or_ge i nq with hlt | hge
    · obtain ⟨y, hy⟩ : ∃ y, Q[i]? = some y := ⟨Q[i]'(by rw [HW.out.hq]; exact hlt), List.getElem?_eq_getElem _⟩
      obtain ⟨b, o, hC, _, hc⟩ := HW.out.q.get rw_ok hy
      have z0 : w.cell? ⟨b, o + i * 3, none⟩ = some (.int .i64 (y.x : Int)) := hc 0 _ rfl
      have HT := Lib.hid (hasL_take hy hno.out)
      have HY := Lib.hid hy
      obtain ⟨u, hu⟩ : ∃ u : Int, u = (y.x : Int) := ⟨_, rfl⟩
      rw [← hu] at z0
      have HU := Lib.hid hu
      subst hC
      clear hc hy hu
      by_cases he : u = id
      · subst he
        have ht : r = true := by
          rw [HR.out]
          unfold hasL
          rw [List.any_eq_true]
          exact ⟨y, List.mem_of_getElem? HY.out, by simpa using HU.out.symm⟩
        subst ht
        go_wp2_with fail
        go_ret
        exact ⟨rfl, rfl⟩
      · have hne : (u == id) = false := by simpa using he
        have HN := Lib.hid (show hasL (Q.take (i + 1)) id = false by rw [HT.out, ← HU.out]; simpa using he)
        clear he
        go_wp2_with fail
        go_roundw
        case rel => exact ⟨i + 1, by simp, by omega, HN.out, by first | trivial | rfl⟩
        case measure => simp [intOf]; omega
    · have hin : i = nq := by omega
      have hf : r = false := by
        rw [HR.out, ← hno.out, List.take_of_length_le (by rw [HW.out.hq]; omega)]
      subst hf
      subst hin
      go_wp2_with fail
      go_ret
      exact ⟨rfl, rfl⟩
end Go.Proofs.YtbokhhialfbjcaaGreat
