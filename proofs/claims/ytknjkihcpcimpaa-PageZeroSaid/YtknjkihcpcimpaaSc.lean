/-
  Bytes opened as a sector; a sector held against what is laid; a reader behind a sector's name.
-/
import Derived.Test.YtknjkihcpcimpaaSb
namespace Go.Proofs.Ytknjkihcpcimpaa
set_option maxRecDepth 100000
set_option linter.unusedVariables false
open Go.RowKit Crc Wm Pg

theorem wpList_eql_sec {w : World} {ops : Array Oper} {rest : List Oper} {o : Oper} {a : Act} {Q : Exit → Act → World → Prop} (hgd : o.guard = none) (x y : Operand) (ty : TypeId) (ho : o.op = .binOp .eql 55 x y ty)
    (s t : List UInt8) (hs : s.length = 64) (ht : t.length = 64) (hx : a.eval x = secV s) (hy : a.eval y = secV t) (b : Bool) (hb : (s == t) = b)
    (k : wpList Try.prog ops Q rest (a.put o.dst (.bool b)) w) : wpList Try.prog ops Q (o :: rest) a w := by
  refine wpList_plain hgd fun K hK => ?_
  unfold Oper.wp execOp
  simp only [ho, hx, hy, Sem.run_bind, Sem.run_pure, run_sec_guard, Result.andThen_ok, run_sec_eql s t hs ht]
  rw [hb]
  exact hK _ _ k

/-- the sector that bytes are, or the one of nothing -/
def opS (l : List UInt8) : List UInt8 := if whyE l = 0 then l else nil64
theorem opS_len {l : List UInt8} : (opS l).length = 64 := by
  unfold opS
  split
  · next h => exact whyE_len h
  · exact length_nil64
theorem opS_no {l : List UInt8} (h : whyE l ≠ 0) : opS l = nil64 := if_neg h
theorem opS_yes {l : List UInt8} (h : whyE l = 0) : opS l = l := if_pos h

def OpenOut (w : World) (l : List UInt8) (e : Ending) (w' : World) : Prop := e = .returned (.tuple #[secV (opS l), .int .i64 (whyE l)]) ∧ Below w.heap.size w w'

set_option maxHeartbeats 1000000 in
theorem opened_any (A : Option Addr) (c n : Nat) (l : List UInt8) (w : World) (hl : Lies w A c n l) (hn : n ≤ 1073741824) : Calls Try.prog 30 #[.slice A n c] w (OpenOut w l) := by
  have HLN := Lib.hid hl.len
  have HL := Lib.hid hl
  clear hl
  rcases Nat.lt_or_ge n 64 with hlt | hge
  · have HE : Hid (whyE l = 2) := Lib.hid (whyE_short (by rw [HLN.out]; exact hlt))
    have HS : Hid (opS l = nil64) := Lib.hid (opS_no (by rw [HE.out]; decide))
    have h1 : decide ((n : Int) < 64) = true := decide_eq_true (by omega)
    go_enter Try.func30, Try.ntmps30
    go_wp2_with (first
      | (refine wpList_alloc_sec 2 rfl rfl rfl ?_; intro g w1 hg hs1 hb1 hz1)
      | (refine wpList_build_sec rfl rfl ?_)
      | (refine wpList_store_sec hs1 rfl (.tmp 2) (.tmp 10) rfl rfl nil64 length_nil64 rfl ?_; intro w4 hs4 hg4))
    exact bodyPost_ret (results_sec2 rfl _ rfl _ rfl hs4) rfl ⟨by rw [HE.out, HS.out]; rfl, hb1.grown hg4 hb1.size (fun k hk => by injection hk with hk; have := hg.out; omega)⟩
  rcases Nat.lt_or_ge 64 n with hgt | hle
  · have HE : Hid (whyE l = 3) := Lib.hid (whyE_long (by rw [HLN.out]; exact hgt))
    have HS : Hid (opS l = nil64) := Lib.hid (opS_no (by rw [HE.out]; decide))
    have h1 : decide ((n : Int) < 64) = false := decide_eq_false (by omega)
    have h2 : decide ((64 : Int) < (n : Int)) = true := decide_eq_true (by omega)
    go_enter Try.func30, Try.ntmps30
    go_wp2_with (first
      | (refine wpList_alloc_sec 2 rfl rfl rfl ?_; intro g w1 hg hs1 hb1 hz1)
      | (refine wpList_build_sec rfl rfl ?_)
      | (refine wpList_store_sec hs1 rfl (.tmp 2) (.tmp 14) rfl rfl nil64 length_nil64 rfl ?_; intro w4 hs4 hg4))
    exact bodyPost_ret (results_sec2 rfl _ rfl _ rfl hs4) rfl ⟨by rw [HE.out, HS.out]; rfl, hb1.grown hg4 hb1.size (fun k hk => by injection hk with hk; have := hg.out; omega)⟩
  obtain rfl : n = 64 := by omega
  clear hge hle hn
  go_enter Try.func30, Try.ntmps30
  go_wp2_with (refine wpList_alloc_sec 2 rfl rfl rfl ?_; intro g w1 hg hs1 hb1 hz1)
  refine (copied_any A c 64 l (by omega) w1 (HL.out.up hb1)).mono ?_
  rintro e w2 ⟨rfl, hb2⟩
  rw [padTo_all HLN.out]
  have HS2 := Lib.hid (hs1.below hb2)
  have HB2 := Lib.hid (below_two hb1 hb2)
  have HG : Hid (w.heap.size ≤ g ∧ g < w2.heap.size) := Lib.hid (by have h1 := hg.out; have h2 := hz1.out; have h3 := hb2.size; omega)
  clear hg hs1 hb1 hz1 hb2
  by_cases hz : l = nil64
  · have hq : (l == nil64) = true := by rw [hz]; exact beq_self_eq_true _
    have HE : Hid (whyE l = 0) := Lib.hid (by rw [hz]; exact whyE_nil)
    have HQ := Lib.hid hq
    clear hz hq
    go_wp2_with (first
      | (refine wpList_alloc_sec 4 rfl rfl rfl ?_; intro u w3 hu hs3 hb3 hz3)
      | (refine wpList_store_sec hs3 rfl (.tmp 4) (.tmp 16) rfl rfl l HLN.out rfl ?_; intro w4 hs4 hg4)
      | (refine wpList_load_sec hs4 rfl (.tmp 4) rfl rfl ?_)
      | (refine wpList_build_sec rfl rfl ?_)
      | (refine wpList_eql_sec rfl (.tmp 17) (.tmp 18) _ rfl l nil64 HLN.out length_nil64 rfl rfl true HQ.out ?_)
      | (refine wpList_store_sec ((HS2.out.below hb3).far hg4 (by have h1 := HG.out; have h2 := hu.out; omega)) rfl (.tmp 2) (.tmp 20) rfl rfl l HLN.out rfl ?_; intro w5 hs5 hg5))
    have HB4 := (below_two HB2.out hb3).grown hg4 (below_two HB2.out hb3).size (fun k hk => by injection hk with hk; have h1 := HG.out; have h2 := hu.out; omega)
    exact bodyPost_ret (results_sec2 rfl _ rfl _ rfl hs5) rfl ⟨by rw [opS_yes HE.out, HE.out]; rfl, HB4.grown hg5 HB4.size (fun k hk => by injection hk with hk; have h1 := HG.out; omega)⟩
  · have HNZ := Lib.hid hz
    have HQ : Hid ((l == nil64) = false) := Lib.hid (beq_eq_false_iff_ne.2 hz)
    clear hz
    go_wp2_with (first
      | (refine wpList_alloc_sec 4 rfl rfl rfl ?_; intro u w3 hu hs3 hb3 hz3)
      | (refine wpList_store_sec hs3 rfl (.tmp 4) (.tmp 16) rfl rfl l HLN.out rfl ?_; intro w4 hs4 hg4)
      | (refine wpList_load_sec hs4 rfl (.tmp 4) rfl rfl ?_)
      | (refine wpList_build_sec rfl rfl ?_)
      | (refine wpList_eql_sec rfl (.tmp 17) (.tmp 18) _ rfl l nil64 HLN.out length_nil64 rfl rfl false HQ.out ?_))
    have HB4 := Lib.hid ((below_two HB2.out hb3).grown hg4 (below_two HB2.out hb3).size (fun k hk => by injection hk with hk; have h1 := HG.out; have h2 := hu.out; omega))
    have HX4 := Lib.hid ((HS2.out.below hb3).far hg4 (by have h1 := HG.out; have h2 := hu.out; omega))
    have HL4 := Lib.hid (HL.out.up HB4.out)
    have HNE : Hid (g ≠ u) := Lib.hid (by have h1 := HG.out; have h2 := hu.out; omega)
    have HS4 := Lib.hid hs4
    clear hs3 hb3 hz3 hg4 hs4 hu
    refine (open_lies (n := 60) HL4.out (by omega)).mono ?_
    rintro e w9 hop
    obtain ⟨A2, c2, E, rfl, hE, _, hb9⟩ := hop
    generalize (if whole l 60 = true then 60 else 0) = n2
    have HE : Hid (whyE l = E) := Lib.hid (by
      rw [hE]
      cases hw : whole l 60 with
      | true => rw [whyE_ok HLN.out hw]; rfl
      | false => rw [whyE_no HLN.out HNZ.out hw]; rfl)
    have HC : Hid (E = 0 ∨ E = 4) := Lib.hid (by rw [hE]; split <;> simp)
    have HB9 := Lib.hid (HB4.out.trans (hb9.mono HB4.out.size))
    have HX9 := Lib.hid (HX4.out.below hb9)
    have HS9 := Lib.hid (HS4.out.below hb9)
    clear hb9 hE HL4 HX4 HS4 HB4 HS2 HB2
    rcases HC.out with h0 | h0
    · subst h0
      go_wp2_with (first
        | (refine wpList_load_sec HS9.out rfl (.tmp 4) rfl rfl ?_)
        | (refine wpList_store_sec HX9.out rfl (.tmp 2) (.tmp 30) rfl rfl l HLN.out rfl ?_; intro w5 hs5 hg5))
      exact bodyPost_ret (results_sec2 rfl _ rfl _ rfl hs5) rfl ⟨by rw [opS_yes HE.out, HE.out]; rfl, HB9.out.grown hg5 HB9.out.size (fun k hk => by injection hk with hk; have h1 := HG.out; omega)⟩
    · subst h0
      have HO : Hid (opS l = nil64) := Lib.hid (opS_no (by rw [HE.out]; decide))
      go_wp2_with (first
        | (refine wpList_build_sec rfl rfl ?_)
        | (refine wpList_store_sec HX9.out rfl (.tmp 2) (.tmp 28) rfl rfl nil64 length_nil64 rfl ?_; intro w5 hs5 hg5))
      exact bodyPost_ret (results_sec2 rfl _ rfl _ rfl hs5) rfl ⟨by rw [HO.out, HE.out]; rfl, HB9.out.grown hg5 HB9.out.size (fun k hk => by injection hk with hk; have h1 := HG.out; omega)⟩

end Go.Proofs.Ytknjkihcpcimpaa
