/-
  The document's Within, of any transactions; why one may not do anything with a counter.
-/
import Derived.Test.YtpphhhalmccnbaaUe
import Derived.Test.YtpphhhalmccnbaaTreeC
namespace Go.Proofs.Ytpphhhalmccnbaa
set_option maxRecDepth 100000
set_option linter.unusedVariables false
set_option linter.unusedSimpArgs false
open Go.RowKit

def RT (e s : TypeId) : Rk Tx := ⟨e, s, 4, 32, .agg #[.int .i64 0, .int .i64 0, .int .i64 0, .int .i64 0], fun p => [.int .i64 p.p, .int .i64 p.s, .int .i64 p.b, .int .i64 p.e]⟩
abbrev RTr := RT 96 25
abbrev RTo := RT 97 53
theorem rt_okr : RTr.Ok := ⟨by decide, by decide, fun _ => rfl, fun x v hv => by simp [RT] at hv; rcases hv with rfl | rfl | rfl | rfl <;> rfl, Try.underlying25, by kernel_rfl, rfl⟩
theorem rt_oko : RTo.Ok := ⟨by decide, by decide, fun _ => rfl, fun x v hv => by simp [RT] at hv; rcases hv with rfl | rfl | rfl | rfl <;> rfl, Try.underlying53, by kernel_rfl, rfl⟩

/-- whatever transactions: their fields are ints, they lie in a row -/
structure TxOk (x : Tx) : Prop where
  p : okI x.p
  s : okI x.s
  b : okI x.b
  e : okI x.e
structure TrAt (W : World) (A : Option Addr) (N : Nat) (T : Tr) : Prop where
  len : T.l.length = N
  ok : ∀ x ∈ T.l, TxOk x
  at_ : RTr.At W A T.l
abbrev trC (A : Option Addr) (N a : Nat) (c : Int) : Array Value := #[.slice A N a, .int .i64 c]
abbrev trV (A : Option Addr) (N a : Nat) (c : Int) : Value := .agg (trC A N a c)
section
variable {W V : World} {A : Option Addr} {N : Nat} {T : Tr}
theorem TrAt.below (h : TrAt W A N T) (hb : Below W.heap.size W V) : TrAt V A N T := ⟨h.len, h.ok, h.at_.below hb⟩
theorem TrAt.get (h : TrAt W A N T) {i : Nat} (hi : i < N) : ∃ b o, A = some ⟨b, o, none⟩ ∧ b < W.heap.size ∧ TxOk (T.tx i) ∧
    W.cell? ⟨b, o + i * 4, none⟩ = some (.int .i64 (T.tx i).p) ∧ W.cell? ⟨b, o + i * 4 + 1, none⟩ = some (.int .i64 (T.tx i).s) ∧
    W.cell? ⟨b, o + i * 4 + 2, none⟩ = some (.int .i64 (T.tx i).b) ∧ W.cell? ⟨b, o + i * 4 + 3, none⟩ = some (.int .i64 (T.tx i).e) := by
  have hl : i < T.l.length := by rw [h.len]; exact hi
  have hx : T.l[i]? = some (T.tx i) := by unfold Tr.tx; rw [List.getD_eq_getElem?_getD, List.getElem?_eq_getElem hl]; rfl
  obtain ⟨b, o, e, hb, hc⟩ := h.at_.get rt_okr hx
  exact ⟨b, o, e, hb, h.ok _ (List.mem_of_getElem? hx), hc 0 _ rfl, hc 1 _ rfl, hc 2 _ rfl, hc 3 _ rfl⟩
end
section
variable {W : World} {g N a : Nat} {A : Option Addr} {c : Int} {t : TypeId}
theorem Bk.r_0 (h : Bk W g (trC A N a c) t) : W.cell? ⟨g, 0, none⟩ = some (.slice A N a) := h.c 0 _ rfl
theorem Bk.r_1 (h : Bk W g (trC A N a c) t) : W.cell? ⟨g, 1, none⟩ = some (.int .i64 c) := h.c 1 _ rfl
end

def Tr.isB (T : Tr) (i : Int) : Bool := decide (0 ≤ i ∧ i < (T.l.length : Int))
/-- the way up, so many steps of it -/
def wayR (T : Tr) : Nat → Int → List Int
  | 0, _ => []
  | f + 1, i => if T.isB i = true then i :: wayR T f (T.tx i.toNat).p else []
/-- does one stand in another one? whatever the parents are -/
def standsR (T : Tr) (i of : Int) : Bool := decide (of ∈ wayR T (T.l.length + 1) i)
theorem wayR_known {T : Tr} : ∀ {f : Nat} {i x : Int}, x ∈ wayR T f i → T.isB x = true
  | 0, i, x, h => by simp [wayR] at h
  | f + 1, i, x, h => by
    unfold wayR at h
    split at h
    · next hi =>
      rcases List.mem_cons.1 h with rfl | h
      · exact hi
      · exact wayR_known h
    · simp at h

theorem refis_any (A : Option Addr) (N a : Nat) (c i : Int) (w : World) :
    Calls Try.prog 58 #[trV A N a c, .int .i64 i] w fun e w' => e = .returned (.bool (decide (0 ≤ i ∧ i < (N : Int)))) ∧ Below w.heap.size w w' := by
  have HB := Lib.hid (below_new w (.cells (trC A N a c) 27))
  by_cases h0 : 0 ≤ i
  · by_cases h1 : i < (N : Int)
    · rw [decide_eq_true ⟨h0, h1⟩]
      go_enter Try.func58, Try.ntmps58
      go_wp2
      go_ret
      exact ⟨rfl, HB.out⟩
    · rw [decide_eq_false (by omega)]
      go_enter Try.func58, Try.ntmps58
      go_wp2
      go_ret
      exact ⟨rfl, HB.out⟩
  · rw [decide_eq_false (by omega)]
    go_enter Try.func58, Try.ntmps58
    go_wp2
    go_ret
    exact ⟨rfl, HB.out⟩

set_option maxHeartbeats 1000000 in
theorem refwithin_any (A : Option Addr) (N a : Nat) (T : Tr) (c i of : Int) (hN : N ≤ 100000) (w : World) (ht : TrAt w A N T) :
    Calls Try.prog 46 #[trV A N a c, .int .i64 i, .int .i64 of] w fun e w' => e = .returned (.bool (standsR T i of)) ∧ Below w.heap.size w w' := by
  have HT := Lib.hid ht
  have HX := Lib.hid (Bk.new w (trC A N a c) 27)
  have HB := Lib.hid (below_new w (.cells (trC A N a c) 27))
  have hi := refis_any A N a c i
  have ho := refis_any A N a c of
  have hIB : ∀ z, T.isB z = decide (0 ≤ z ∧ z < (N : Int)) := fun z => by unfold Tr.isB; rw [ht.len]
  have HIB := Lib.hid hIB
  have HSR : Hid (standsR T i of = decide (of ∈ wayR T (N + 1) i)) := by show _ = _; unfold standsR; rw [ht.len]
  rw [← hIB] at hi ho
  clear ht hIB
  have HNI : Hid (T.isB i = false → standsR T i of = false) := fun h => by
    rw [HSR.out]; unfold wayR; rw [h]; simp
  have HNO : Hid (T.isB of = false → standsR T i of = false) := fun h => by
    rw [HSR.out, decide_eq_false]
    intro h2
    rw [wayR_known h2] at h; cases h
  go_enter Try.func46, Try.ntmps46
  go_wp2_with fail
  refine (hi _).mono ?_
  rintro e w1 ⟨rfl, hb⟩
  replace HX := Lib.hid (HX.out.below hb)
  replace HB := Lib.hid (below_two HB.out hb)
  clear hb hi
  have x0 := HX.out.r_0
  have x1 := HX.out.r_1
  cases hq : T.isB i with
  | false =>
    have HF := Lib.hid (HNI.out hq)
    clear hq
    go_wp2_with fail
    go_ret
    exact ⟨by rw [HF.out]; rfl, HB.out⟩
  | true =>
  go_wp2_with fail
  refine (ho _).mono ?_
  rintro e w2 ⟨rfl, hb⟩
  replace HX := Lib.hid (HX.out.below hb)
  replace HB := Lib.hid (below_two HB.out hb)
  clear hb ho x0 x1 hq
  cases hq : T.isB of with
  | false =>
    have HF := Lib.hid (HNO.out hq)
    clear hq
    go_wp2_with fail
    go_ret
    exact ⟨by rw [HF.out]; rfl, HB.out⟩
  | true =>
  clear hq HNI HNO
  go_wp2_with fail
  go_loopw [1, 7] (fun v u wr => ∃ (j : Nat) (z : Int), v = .int .i64 z ∧ u = .int .i64 (j : Int) ∧ j ≤ N + 1 ∧ Hid (standsR T i of = decide (of ∈ wayR T (N + 1 - j) z)) ∧ Hid (Bk wr w.heap.size (trC A N a c) 27) ∧ Hid (Below w.heap.size w wr)) (fun _ u _ => N + 1 - (intOf u).toNat)
  case atStart => exact ⟨0, i, rfl, rfl, Nat.zero_le _, HSR, HX, HB⟩
  case round =>
    obtain ⟨j, z, rfl, rfl, hj, HS, HXj, HBj⟩ := hrel
    have x0 := HXj.out.r_0
    have x1 := HXj.out.r_1
    rcases Nat.lt_or_ge N j with hgt | hle
    · have d1 : decide ((j : Int) ≤ (N : Int)) = false := decide_eq_false (by omega)
      have d2 : decide (j ≤ N) = false := decide_eq_false (by omega)
      have HF := Lib.hid (show standsR T i of = false from by rw [HS.out, show N + 1 - j = 0 from by omega]; simp [wayR])
      go_wp2_with fail
      go_ret
      exact ⟨by rw [HF.out]; rfl, HBj.out⟩
    · have d1 : decide ((j : Int) ≤ (N : Int)) = true := decide_eq_true (by omega)
      have d2 : decide (j ≤ N) = true := decide_eq_true hle
      have hz := refis_any A N a c z
      rw [← HIB.out z] at hz
      have HST := Lib.hid (show wayR T (N + 1 - j) z = if T.isB z = true then z :: wayR T (N + 1 - (j + 1)) (T.tx z.toNat).p else [] from by
        rw [show N + 1 - j = (N + 1 - (j + 1)) + 1 from by omega]; rfl)
      cases hq : T.isB z with
      | false =>
        rw [hq] at HST hz
        have HF := Lib.hid (show standsR T i of = false from by rw [HS.out, HST.out]; simp)
        clear hq
        go_wp2_with fail
        refine (hz _).mono ?_
        rintro e w4 ⟨rfl, hb⟩
        have HB4 := Lib.hid (HBj.out.trans (hb.mono HBj.out.size))
        clear hb hz x0 x1
        go_wp2_with fail
        go_ret
        exact ⟨by rw [HF.out]; rfl, HB4.out⟩
      | true =>
        rw [hq] at hz
        rw [hq, if_pos rfl] at HST
        have hzk := of_decide_eq_true ((HIB.out z).symm.trans hq)
        obtain ⟨k, rfl⟩ : ∃ k : Nat, z = k := ⟨z.toNat, by omega⟩
        have hk : k < N := by omega
        obtain ⟨b, o, hA, hbl, hok, h0, h1, h2, h3⟩ := HT.out.get hk
        subst hA
        rw [Int.toNat_natCast] at HST
        have HC0 := Lib.hid ((HBj.out.cell (p := ⟨b, o + k * 4, none⟩) hbl).trans h0)
        have HBL := Lib.hid (show b < wr.heap.size from Nat.lt_of_lt_of_le hbl HBj.out.size)
        generalize (T.tx k).p = pz at *
        have hi1 : (k : Int) < (N : Int) := by omega
        clear h0 h1 h2 h3 hbl hok hq hzk
        rcases Classical.em ((k : Int) = of) with he | he
        · have HF := Lib.hid (show standsR T i of = true from by rw [HS.out, HST.out, he]; simp)
          have q1 : ((k : Int) == of) = true := by simpa using he
          clear he
          go_wp2_with fail
          refine (hz _).mono ?_
          rintro e w4 ⟨rfl, hb⟩
          have HB4 := Lib.hid (HBj.out.trans (hb.mono HBj.out.size))
          clear hb hz x0 x1
          go_wp2_with fail
          go_ret
          exact ⟨by rw [HF.out]; rfl, HB4.out⟩
        · have HF := Lib.hid (show standsR T i of = decide (of ∈ wayR T (N + 1 - (j + 1)) pz) from by
            rw [HS.out, HST.out]
            congr 1
            rw [List.mem_cons]
            exact propext ⟨fun h => h.resolve_left (fun e => he e.symm), .inr⟩)
          have q1 : ((k : Int) == of) = false := by simpa using he
          clear he
          go_wp2_with fail
          refine (hz _).mono ?_
          rintro e w4 ⟨rfl, hb⟩
          have HX4 := Lib.hid (HXj.out.below hb)
          have c0 := (hb.cell (p := ⟨b, o + k * 4, none⟩) HBL.out).trans HC0.out
          have HB4 := Lib.hid (HBj.out.trans (hb.mono HBj.out.size))
          clear hb hz x0 x1
          have x0 := HX4.out.r_0
          have x1 := HX4.out.r_1
          go_wp2_with fail
          exact ⟨⟨j + 1, pz, rfl, rfl, by omega, HF, HX4, HB4⟩, by simp [intOf]; omega⟩
end Go.Proofs.Ytpphhhalmccnbaa
