/-
  WalPlays: things to do that came in: as they lie there, and how a statement's argument is opened to them; whether they are small.
-/
import Derived.Test.YtdjfahnnfhediaaGreatPlays7A
import Derived.Test.YtdjfahnnfhediaaGreatRow7
import Derived.Test.YtdjfahnnfhediaaGreatWsame
import Derived.Test.YtdjfahnnfhediaaGreatPlays7B
namespace Go.Proofs.YtdjfahnnfhediaaGreat
set_option maxRecDepth 100000
open Go.RowKit

/-- what is done lies there -/
def DeedAt (w : World) (b o : Nat) (x : Deed) : Prop :=
  w.cell? ⟨b, o, none⟩ = some (.int .i64 x.what) ∧ w.cell? ⟨b, o + 1, none⟩ = some (.int .i64 x.N) ∧ w.cell? ⟨b, o + 2, none⟩ = some (.int .u8 (x.c.toNat : Int)) ∧ w.cell? ⟨b, o + 3, none⟩ = some (.int .i64 x.up) ∧
  (∃ A c, w.cell? ⟨b, o + 4, none⟩ = some (.slice A x.b.length c) ∧ Rd w w.heap.size A x.b) ∧
  (∃ K c, w.cell? ⟨b, o + 5, none⟩ = some (.slice K x.kn c) ∧ BoolsAt w K x.kn x.keep)
def Deeds (w : World) (a : Option Addr) (len : Nat) (X : Nat → Deed) : Prop :=
  len = 0 ∨ ∃ b o, a = some ⟨b, o, none⟩ ∧ b < w.heap.size ∧ ∀ i, i < len → DeedAt w b (o + i * 6) (X i)
theorem Deeds.up {w W : World} {a : Option Addr} {len : Nat} {X : Nat → Deed} (h : Deeds w a len X) (hb : Below w.heap.size w W) : Deeds W a len X := by
  rcases h with h0 | ⟨b, o, e, hl, hc⟩
  · exact .inl h0
  · refine .inr ⟨b, o, e, Nat.lt_of_lt_of_le hl hb.size, fun i hi => ?_⟩
    obtain ⟨c0, c1, c2, c3, ⟨A, c, c4, hr⟩, K, c', c5, hk⟩ := hc i hi
    exact ⟨(hb.cell (p := ⟨b, o + i * 6, none⟩) hl).trans c0, (hb.cell (p := ⟨b, o + i * 6 + 1, none⟩) hl).trans c1, (hb.cell (p := ⟨b, o + i * 6 + 2, none⟩) hl).trans c2, (hb.cell (p := ⟨b, o + i * 6 + 3, none⟩) hl).trans c3, ⟨A, c, (hb.cell (p := ⟨b, o + i * 6 + 4, none⟩) hl).trans c4, hr.up hb⟩, K, c', (hb.cell (p := ⟨b, o + i * 6 + 5, none⟩) hl).trans c5, hk.below hb⟩

/-- 'small', of things that came in -/
def smallB (X : Nat → Deed) : Nat → Bool
  | 0 => true
  | m + 1 => smallB X m && (decide ((X m).b.length ≤ 100) && decide ((X m).kn ≤ 100))

set_option maxHeartbeats 1000000 in
theorem small_any (w : World) (a : Option Addr) (len cap : Nat) (X : Nat → Deed) (hX : Deeds w a len X) : Calls Tryz.prog 5 #[.slice a len cap] w fun e w' => e = .returned (.bool (decide (len ≤ 30) && smallB X len)) ∧ w' = w := by
  by_cases hl : len ≤ 30
  · have d1 : decide ((30 : Int) < (len : Int)) = false := decide_eq_false (by omega)
    rw [decide_eq_true hl, Bool.true_and]
    go_enter Tryz.func5, Tryz.ntmps5
    go_wp2_with fail
    go_loopw [3] (fun u wr => ∃ j : Nat, u = .int .i64 (j : Int) ∧ j ≤ len ∧ Hid (smallB X j = true) ∧ w = wr) (fun u _ => len - (intOf u).toNat)
    case atStart => exact ⟨0, rfl, by omega, rfl, rfl⟩
    case round =>
      obtain ⟨j, rfl, hj, HS, hw⟩ := hrel
      subst hw
      rcases Nat.lt_or_ge j len with hlt | hge
      · rcases hX with h0 | ⟨b, o, rfl, hb, hc⟩
        · omega
        obtain ⟨_, _, _, _, ⟨A, c, hcb, _⟩, K, ck, hck, _⟩ := hc j hlt
        have hdj : decide ((j : Int) < (len : Int)) = true := decide_eq_true (by omega)
        obtain ⟨bl, hbl⟩ : ∃ bl, bl = (X j).b.length := ⟨_, rfl⟩
        obtain ⟨kl, hkl⟩ : ∃ kl, kl = (X j).kn := ⟨_, rfl⟩
        have HBL := Lib.hid hbl
        have HKL := Lib.hid hkl
        rw [← hbl] at hcb
        rw [← hkl] at hck
        clear hbl hkl hc
        have hno : (100 < bl ∨ 100 < kl) → smallB X len = false := fun h => by
          have h1 : smallB X (j + 1) = false := by
            show (smallB X j && (decide ((X j).b.length ≤ 100) && decide ((X j).kn ≤ 100))) = false
            rw [← HBL.out, ← HKL.out]
            rcases h with h | h
            · rw [decide_eq_false (show ¬ bl ≤ 100 by omega), Bool.false_and, Bool.and_false]
            · rw [decide_eq_false (show ¬ kl ≤ 100 by omega), Bool.and_false, Bool.and_false]
          have h2 : ∀ m, smallB X (j + 1 + m) = false := fun m => by
            induction m with
            | zero => exact h1
            | succ m ih => show (smallB X (j + 1 + m) && _) = false; rw [ih, Bool.false_and]
          have := h2 (len - (j + 1))
          rw [show j + 1 + (len - (j + 1)) = len from by omega] at this
          exact this
        have HNO := Lib.hid hno
        clear hno
        by_cases h1 : 100 < bl
        · have d2 : decide ((100 : Int) < (bl : Int)) = true := decide_eq_true (by omega)
          go_wp2_with fail
          go_ret
          exact ⟨by rw [HNO.out (.inl h1)]; rfl, rfl⟩
        · have d2 : decide ((100 : Int) < (bl : Int)) = false := decide_eq_false (by omega)
          by_cases h2 : 100 < kl
          · have d3 : decide ((100 : Int) < (kl : Int)) = true := decide_eq_true (by omega)
            go_wp2_with fail
            go_ret
            exact ⟨by rw [HNO.out (.inr h2)]; rfl, rfl⟩
          · have d3 : decide ((100 : Int) < (kl : Int)) = false := decide_eq_false (by omega)
            have HS2 : Hid (smallB X (j + 1) = true) := Lib.hid (by
              show (smallB X j && (decide ((X j).b.length ≤ 100) && decide ((X j).kn ≤ 100))) = true
              rw [← HBL.out, ← HKL.out, HS.out, decide_eq_true (show bl ≤ 100 by omega), decide_eq_true (show kl ≤ 100 by omega)]
              rfl)
            clear HNO h1 h2
            go_wp2_with fail
            refine ⟨⟨j + 1, by go_num, by omega, HS2, by trivial⟩, by simp [intOf]; omega⟩
      · obtain rfl : j = len := by omega
        have hdj : decide ((j : Int) < (j : Int)) = false := decide_eq_false (by omega)
        go_wp2_with fail
        go_ret
        exact ⟨by rw [HS.out]; rfl, rfl⟩
  · have d1 : decide ((30 : Int) < (len : Int)) = true := decide_eq_true (by omega)
    rw [decide_eq_false hl, Bool.false_and]
    go_enter Tryz.func5, Tryz.ntmps5
    go_wp2_with fail
    go_ret
    exact ⟨rfl, rfl⟩

section
open Go.ChangeShapes Go.WideShapes Go.ChangeAt
variable {H : Type} {enc : TypeId × Value → H} {W : World} {spare : Nat → Bool} {held : Bool}

theorem cells_bytes_ : Tryz.prog.cellsOf 41 = 1 := by kernel_rfl
theorem cells_bools : Tryz.prog.cellsOf 42 = 1 := by kernel_rfl
theorem cells_byte_ : Tryz.prog.cellsOf 5 = 1 := by kernel_rfl
theorem cells_act : Tryz.prog.cellsOf 44 = 6 := by kernel_rfl

theorem bytes_of_trod {n : Nat} {v : Value} {y : DataW H × List MemPlace} (h : DataW.trod enc Tryz.prog W 0 spare held n 41 [v] = some y) : ∃ (A : Option Addr) (C : Nat) (X : List UInt8), v = .slice A X.length C ∧ Rd W W.heap.size A X := by
  rcases open_ints Tryz.underlying41 Tryz.underlying5 cells_u8 h with ⟨hcs, _⟩ | ⟨x, n, c, zs, hcs, _, hl, hm, hz, _, hcell, hwz⟩
  · simp at hcs
    exact ⟨none, 0, [], hcs, .nil _ _ _⟩
  · simp at hcs
    have hlen : n ≤ zs.length := by rw [hz]; split <;> omega
    obtain ⟨l, hl1, hl2⟩ := bytes_of_wf zs hwz
    refine ⟨some x, c, l.take n, by rw [hcs, List.length_take]; congr 1; omega, cells_bytes fun i y hy => ?_⟩
    rw [List.getElem?_take] at hy
    split at hy
    · rw [hcell i (by omega), hl2 i y hy]; rfl
    · cases hy

theorem byte_wf {z : Int} (h : (Lit.int .u8 z).wf = true) : ∃ c : UInt8, z = (c.toNat : Int) := by
  simp [Lit.wf] at h
  have h1 : (0 : Int) ≤ z := h.1
  have h2 : z ≤ (255 : Int) := h.2
  exact ⟨UInt8.ofNat z.toNat, by rw [Wm.toNat_ofNat]; omega⟩

theorem deed_fields : ∃ f0 f1 f2 f3 f4 f5 : Field, Tryz.prog.underlying 44 = some (.struct #[f0, f1, f2, f3, f4, f5]) ∧ (f0.offset = 0 ∧ f1.offset = 1 ∧ f2.offset = 2 ∧ f3.offset = 3 ∧ f4.offset = 4 ∧ f5.offset = 5) ∧ (f0.type = 3 ∧ f1.type = 3 ∧ f2.type = 5 ∧ f3.type = 3 ∧ f4.type = 41 ∧ f5.type = 42) :=
  ⟨_, _, _, _, _, _, Tryz.underlying44, ⟨rfl, rfl, rfl, rfl, rfl, rfl⟩, rfl, rfl, rfl, rfl, rfl, rfl⟩

theorem open_deeds {ts : List TypeId} {ds : List (DataW H)} {d : DataW H} {p : List MemPlace} {a : Option Addr} {len cap : Nat}
    (h : DataW.Trod enc Tryz.prog W 0 spare held 22 (.slice a len cap) d p) (_ : (DataW.weightsEach Tryz.prog ts ds).all (· ≤ reachBytes) = true) {j : Nat} (_ : ts[j]? = some 22) (_ : ds[j]? = some d) : ∃ X, Deeds W a len X := by
  obtain ⟨fuel, hf⟩ := h
  obtain ⟨f0, f1, f2, f3, f4, f5, hu, ⟨o0, o1, o2, o3, o4, o5⟩, t0, t1, t2, t3, t4, t5⟩ := deed_fields
  rcases Go.Deep.open_slice Tryz.underlying22 hf with ⟨hcs, _⟩ | ⟨x, n, c, m, k, D, Pl, hcs, _, hl, hm, hmm, _, hi⟩
  · simp [Value.cells] at hcs
    obtain ⟨rfl, rfl, rfl⟩ := hcs
    exact ⟨fun _ => ⟨0, 0, 0, 0, [], 0, fun _ => false⟩, .inl rfl⟩
  · simp [Value.cells] at hcs
    obtain ⟨rfl, rfl, rfl⟩ := hcs
    have hlm : len ≤ m := by rw [hmm]; split <;> omega
    have each : ∀ i, ∃ q : Deed, i < len → (W.cell? (x.add (i * 6)) = some (.int .i64 q.what) ∧ W.cell? (x.add (i * 6 + 1)) = some (.int .i64 q.N) ∧ W.cell? (x.add (i * 6 + 2)) = some (.int .u8 (q.c.toNat : Int)) ∧ W.cell? (x.add (i * 6 + 3)) = some (.int .i64 q.up) ∧
        (∃ A c, W.cell? (x.add (i * 6 + 4)) = some (.slice A q.b.length c) ∧ Rd W W.heap.size A q.b) ∧ (∃ K c, W.cell? (x.add (i * 6 + 5)) = some (.slice K q.kn c) ∧ BoolsAt W K q.kn q.keep)) := fun i => by
      by_cases hil : i < len
      · obtain ⟨cs', h1, h2⟩ := hi i (by omega)
        rw [cells_act] at h1
        obtain ⟨_, hlen, hcell⟩ := World.cells?_some h1
        obtain ⟨xs, k', _, _, _, hxl, hf⟩ := DataW.trod_struct hu h2
        match xs, hxl, cs', hlen with
        | [y0, y1, y2, y3, y4, y5], _, [v0, v1, v2, v3, v4, v5], _ =>
          have g0 := hf 0 f0 rfl
          have g1 := hf 1 f1 rfl
          have g2 := hf 2 f2 rfl
          have g3 := hf 3 f3 rfl
          have g4 := hf 4 f4 rfl
          have g5 := hf 5 f5 rfl
          simp [o0, o1, o2, o3, o4, o5, t0, t1, t2, t3, t4, t5, cells_int, cells_byte_, cells_bytes_, cells_bools] at g0 g1 g2 g3 g4 g5
          have e0 := hcell 0 (by omega)
          have e1 := hcell 1 (by omega)
          have e2 := hcell 2 (by omega)
          have e3 := hcell 3 (by omega)
          have e4 := hcell 4 (by omega)
          have e5 := hcell 5 (by omega)
          rw [Go.Deep.add_add] at e0 e1 e2 e3 e4 e5
          obtain ⟨z0, w0, _, _⟩ := DataW.trod_int Tryz.underlying3 g0
          obtain ⟨z1, w1, _, _⟩ := DataW.trod_int Tryz.underlying3 g1
          obtain ⟨z2, w2, _, hw2⟩ := DataW.trod_int Tryz.underlying5 g2
          obtain ⟨z3, w3, _, _⟩ := DataW.trod_int Tryz.underlying3 g3
          obtain ⟨A, C, X, w4, hX⟩ := bytes_of_trod g4
          obtain ⟨K, N, C', f, w5, hK⟩ := bools_of_trod g5
          obtain ⟨cc, hcc⟩ := byte_wf hw2
          simp at w0 w1 w2 w3
          subst hcc
          subst w0 w1 w2 w3 w4 w5
          exact ⟨⟨z0, z1, cc, z3, X, N, f⟩, fun _ => ⟨by simpa using e0, by simpa using e1, by simpa using e2, by simpa using e3, ⟨A, C, by simpa using e4, hX⟩, ⟨K, C', by simpa using e5, hK⟩⟩⟩
      · exact ⟨⟨0, 0, 0, 0, [], 0, fun _ => false⟩, fun h => absurd h hil⟩
    obtain ⟨q, hq⟩ := Classical.skolem.1 each
    refine ⟨q, ?_⟩
    rcases Nat.eq_zero_or_pos len with h0 | h0
    · exact .inl h0
    · have hc0 := (hq 0 h0).1
      have hs : x.spot = none := by simpa [Addr.add] using World.cell?_spot hc0
      have hb : x.block < W.heap.size := by simpa [Addr.add] using block_lt_of_cell hc0
      obtain ⟨b, o, s⟩ := x
      simp only at hs
      subst hs
      refine .inr ⟨b, o, rfl, hb, fun i hil => ?_⟩
      have h1 := hq i hil
      simp only [addr_add, ← Nat.add_assoc] at h1
      exact h1
end

end Go.Proofs.YtdjfahnnfhediaaGreat

namespace Go.Proofs.YtdjfahnnfhediaaGreat
set_option maxRecDepth 100000
open Go.RowKit Crc Wm

theorem wdo_any {w W : World} {z p L M m a b c q x : Nat} {D : Dv} {G : Lg} {s : Sl} (h : Wd w W z p L M m a b c q x D D G G s) (o : Deed) (A K : Option Addr) (ca ck : Nat) (F S : Int) (hsp : D.spent ≤ 100000) (hA : Rd w w.heap.size A o.b) (hK : BoolsAt w K o.kn o.keep) (hE : 0 ≤ s.E ∧ s.E ≤ 1000000) :
    Calls Tryz.prog 9 #[ptr z, .agg #[.int .i64 o.what, .int .i64 o.N, .int .u8 (o.c.toNat : Int), .int .i64 o.up, .slice A o.b.length ca, .slice K o.kn ck], .int .i64 F, .int .i64 S] W (WDoOut w z p L M m a b c D s.E) := by
  by_cases h5 : o.what = 5
  · exact wdo_budget h o A K ca ck F S hsp (by rw [h5]; rfl)
  have h5' : (o.what == 5) = false := beq_eq_false_iff_ne.2 h5
  by_cases h6 : o.what = 6
  · exact wdo_crash h o A K ca ck F S hsp h5' (by rw [h6]; rfl) hK hE
  have h6' : (o.what == 6) = false := beq_eq_false_iff_ne.2 h6
  by_cases h7 : o.what = 7
  · exact wdo_write h o A K ca ck F S hsp h5' h6' (by rw [h7]; rfl) hA
  have h7' : (o.what == 7) = false := beq_eq_false_iff_ne.2 h7
  by_cases he : s.e = 0
  case neg => exact wdo_shut h o A K ca ck F S hsp h5' h6' h7' he
  by_cases hr : 0 ≤ o.what ∧ o.what ≤ 2
  · exact wdo_append h o A K ca ck F S hsp h5' h6' h7' he hr
  by_cases h3 : o.what = 3
  · exact wdo_force h o A K ca ck F S hsp h5' h6' h7' he (Lib.hid h3)
  by_cases h4 : o.what = 4
  · exact wdo_drop h o A K ca ck F S hsp h5' h6' h7' he (Lib.hid h4)
  exact wdo_none h o A K ca ck F S hsp h5' h6' h7' he (by omega) (beq_eq_false_iff_ne.2 h3) (beq_eq_false_iff_ne.2 h4)

/-- the struct is made -/
theorem Wo.start {w w1 w2 : World} {p L M m a b c : Nat} (h : Dr w w1 p L M (.fresh 24)) (hr : IsRef w2 m a b c (.fresh 24)) (hb : Below w1.heap.size w1 w2) (h1 : w1.heap.size ≤ m) (h2 : w1.heap.size ≤ a) (h3 : w1.heap.size ≤ b) (H : Int) :
    Wo w (w2.alloc (.cells #[ptr p, ptr m, .pointer none, .pointer none, .slice none 0 0, .slice none 0 0, .int .i64 0, .int .i64 0, .int .i64 H, .int .i64 1] 38)) w2.heap.size p L M m a b c (.fresh 24) H 1 := by
  have hd2 := h.below hb
  have hb3 := below_new w2 (.cells #[ptr p, ptr m, .pointer none, .pointer none, .slice none 0 0, .slice none 0 0, .int .i64 0, .int .i64 0, .int .i64 H, .int .i64 1] 38)
  have hd3 := hd2.below hb3
  exact ⟨⟨_, _, _, _, _, _, heap_alloc_new w2 _⟩, hd3.dev, hr.below hb3, hd3.bel, h.lo, ⟨w1.heap.size, h.dev.lt, ⟨h1, h2, h3⟩, hr.lt⟩⟩

set_option maxHeartbeats 2000000 in
theorem plays_walk (fr sz hd : Int) (A : Option Addr) (len cap : Nat) (X : Nat → Deed) (w : World) (hX : Deeds w A len X) :
    Calls Tryz.prog 3 #[.int .i64 fr, .int .i64 sz, .int .i64 hd, .slice A len cap] w fun e w' => e = .returned (.bool true) ∧ Below w.heap.size w w' := by
  obtain ⟨f, hf, hfb⟩ := low fr 7 3 (by decide) (by omega)
  obtain ⟨n, hn, hnb⟩ := low sz 31 5 (by decide) (by omega)
  clear hf hn
  have HAWK := Lib.hid (awake_any w)
  have hsm := fun (W : World) (hX : Deeds W A len X) => small_any W A len cap X hX
  cases hsmall : (decide (len ≤ 30) && smallB X len)
  · rw [hsmall] at hsm
    have HSM := Lib.hid hsm
    clear hsm hsmall
    go_enter Tryz.func3, Tryz.ntmps3
    go_wp2_with fail
    refine HAWK.out.mono ?_
    rintro e w0 ⟨rfl, hb0⟩
    have HB0 := Lib.hid hb0
    clear hb0
    go_wp2_with fail
    refine (HSM.out w0 (hX.up HB0.out)).mono ?_
    rintro e w' ⟨rfl, hw⟩
    replace hw := hw.symm
    subst hw
    go_wp2_with fail
    go_ret
    exact ⟨rfl, HB0.out⟩
  · have hlen : len ≤ 30 := by
      rw [Bool.and_eq_true] at hsmall
      exact of_decide_eq_true hsmall.1
    rw [hsmall] at hsm
    have HSM := Lib.hid hsm
    have HX := Lib.hid hX
    clear hsm hsmall hX
    go_enter Tryz.func3, Tryz.ntmps3
    go_wp2_with fail
    refine HAWK.out.mono ?_
    rintro e w0 ⟨rfl, hb0⟩
    have HB0 := Lib.hid hb0
    clear hb0
    go_wp2_with fail
    refine (HSM.out w0 (HX.out.up HB0.out)).mono ?_
    rintro e w' ⟨rfl, hw⟩
    replace hw := hw.symm
    subst hw
    go_wp2_with fail
    refine (newdr (w := w) HB0.out 24 (by omega) (by omega)).mono ?_
    rintro e w1 ⟨p, L, M, rfl, hd1, _, _, _, _⟩
    have HD1 := Lib.hid hd1
    clear hd1 HB0 HAWK HSM
    go_wp2_with fail
    refine (refnew_any w1 24 (by omega) (by omega)).mono ?_
    rintro e w2 ⟨m, a, b, c, rfl, hr2, hb2, g1, g2, g3⟩
    have HO := Lib.hid (Wo.start HD1.out hr2 hb2 g1 g2 g3 hd)
    clear hr2 hb2 g1 g2 g3 HD1
    go_upto_region 7 with fail
    generalize w2.alloc (.cells #[ptr p, ptr m, .pointer none, .pointer none, .slice none 0 0, .slice none 0 0, .int .i64 0, .int .i64 0, .int .i64 hd, .int .i64 1] 38) = w3 at *
    generalize w2.heap.size = z at *
    go_wp2_with fail
    refine (wopen_any HO.out (f : Int) (n : Int)).mono ?_
    rintro e w4 ⟨rfl, q, x, G, s, h4, _, e2⟩
    have HW4 := Lib.hid h4
    have HE4 := Lib.hid e2
    have HSP4 : Hid ((Dv.fresh 24).spent ≤ 100 * 0) := Nat.le_refl _
    generalize Dv.fresh 24 = D at *
    clear h4 e2 HO hfb hnb
    go_wp2_with fail
    go_loopg [17] len (fun gn u wr => ∃ (j q x : Nat) (D : Dv) (G : Lg) (s : Sl), u = .int .i64 (j : Int) ∧ j + gn = len ∧ Hid (D.spent ≤ 100 * j) ∧ Hid (0 ≤ s.E ∧ s.E ≤ 1 + 3 * (j : Int)) ∧ Hid (Wd w wr z p L M m a b c q x D D G G s))
    case atStart => exact ⟨0, _, _, _, _, _, rfl, by omega, HSP4, Lib.hid (by have := HE4.out; omega), HW4⟩
    case round =>
      obtain ⟨j, q', x', D', G', s', rfl, hj, HS, HE, HW⟩ := hrel
      clear HW4 HE4 HSP4
      rcases Nat.lt_or_ge j len with hlt | hge
      · rcases HX.out with h0 | ⟨bb, o, rfl, hb, hc⟩
        · omega
        obtain ⟨y, hy⟩ : ∃ y, X j = y := ⟨_, rfl⟩
        have hcj := hc j hlt
        rw [hy] at hcj
        obtain ⟨hc0, hc1, hc2, hc3, ⟨A2, ca, hc4, hrb⟩, K, ck, hc5, hkb⟩ := hcj
        have k0 := (HW.out.bel.cell (p := ⟨bb, o + j * 6, none⟩) hb).trans hc0
        have k1 := (HW.out.bel.cell (p := ⟨bb, o + j * 6 + 1, none⟩) hb).trans hc1
        have k2 := (HW.out.bel.cell (p := ⟨bb, o + j * 6 + 2, none⟩) hb).trans hc2
        have k3 := (HW.out.bel.cell (p := ⟨bb, o + j * 6 + 3, none⟩) hb).trans hc3
        have k4 := (HW.out.bel.cell (p := ⟨bb, o + j * 6 + 4, none⟩) hb).trans hc4
        have k5 := (HW.out.bel.cell (p := ⟨bb, o + j * 6 + 5, none⟩) hb).trans hc5
        have hdj : decide ((j : Int) < (len : Int)) = true := decide_eq_true (by omega)
        have hdj2 : decide (j < len) = true := decide_eq_true (by omega)
        have HDO := Lib.hid (wdo_any HW.out y A2 K ca ck (f : Int) (n : Int) (by have := HS.out; omega) hrb hkb (by have := HE.out; omega))
        clear hc hc0 hc1 hc2 hc3 hc4 hc5 hy hrb hkb hb
        go_wp2_with fail
        refine HDO.out.mono ?_
        rintro e w5 ⟨rfl, q5, x5, D5, G5, s5, h5, e1, e2, e3⟩
        have HW5 := Lib.hid h5
        have HS5 : Hid (D5.spent ≤ 100 * (j + 1)) := by show _ ≤ _; have := HS.out; omega
        have HE5 : Hid (0 ≤ s5.E ∧ s5.E ≤ 1 + 3 * ((j + 1 : Nat) : Int)) := by show _ ∧ _; have := HE.out; omega
        clear h5 e1 e2 e3 HDO HW k0 k1 k2 k3 k4 k5
        go_wp2_with fail
        refine (wsame_any HW5.out).mono ?_
        rintro e w6 ⟨rfl, h6, _⟩
        have HW6 := Lib.hid h6
        clear h6 HW5
        go_wp2_with fail
        go_roundg (gk - 1)
        case measure => omega
        case rel => exact ⟨j + 1, _, _, _, _, _, by go_num, by omega, HS5, HE5, HW6⟩
      · obtain rfl : j = len := by omega
        have hdj : decide ((j : Int) < (j : Int)) = false := decide_eq_false (by omega)
        have hdj2 : decide (j < j) = false := decide_eq_false (by omega)
        go_wp2_with fail
        refine (wsame_any HW.out).mono ?_
        rintro e w6 ⟨rfl, h6, _⟩
        have HB6 := Lib.hid h6.bel
        clear h6 HW
        go_wp2_with fail
        go_ret
        exact ⟨rfl, HB6.out⟩

end Go.Proofs.YtdjfahnnfhediaaGreat
