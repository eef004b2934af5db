/-
  The document's may and Need; the program's next number of a body, and whether bytes are all 0; a piece's stamp.
-/
import Derived.Test.YtdjfahnnfhediaaGreatSmall6
import Derived.Test.YtdjfahnnfhediaaGreatConcat
namespace Go.Proofs.YtdjfahnnfhediaaGreat
set_option maxRecDepth 100000
open Go.RowKit Crc Wm

set_option maxHeartbeats 2000000 in
set_option maxRecDepth 100000 in
theorem refmay_any (p : Pv) (hn : p.n ≤ 4611686018427387904) (w : World) : Calls Tryz.prog 86 #[pvV p] w fun e w' => e = .returned (.bool (decide (MayN p.E p.A p.I p.C p.n))) ∧ Below w.heap.size w w' := by
  have HX := Lib.hid (Bp.new w p 109)
  have HB := Lib.hid (below_new w (.cells (pvC p) 109))
  obtain ⟨E, A, I, C, ad, n, c⟩ := p
  replace hn : n ≤ 4611686018427387904 := hn
  have c0 := HX.out.c0
  have c1 := HX.out.c1
  have c2 := HX.out.c2
  have c3 := HX.out.c3
  have c4 := HX.out.c4
  show Calls _ _ _ _ fun e w' => e = .returned (.bool (decide (MayN E A I C n))) ∧ _
  have ht : ∃ b, (I == C - 1) = b ∧ Hid (b = true ↔ I = C - 1) := ⟨_, rfl, Lib.hid (by simp)⟩
  obtain ⟨b, ht, HT⟩ := ht
  cases b
  all_goals
    go_enter Tryz.func86, Tryz.ntmps86
    go_wp2_with fail
    all_goals
      go_ret
      refine ⟨congrArg (fun b => Ending.returned (.bool b)) ?_, HB.out⟩
      have h5 := HT.out
      simp only [Bool.false_eq_true, false_iff, true_iff] at h5
      clear c0 c1 c2 c3 c4 HX HB HT ht
      first
        | (symm; rw [decide_eq_false_iff_not]; unfold MayN; omega)
        | (symm; rw [decide_eq_true_iff]; unfold MayN; omega)
        | (rw [Bool.eq_iff_iff]; simp only [Bool.or_eq_true, beq_iff_eq, decide_eq_true_eq]; unfold MayN; omega)

set_option maxHeartbeats 1000000 in
theorem refneed_any (n : Int) (h0 : -9223372036854775808 ≤ n) (h1 : n ≤ 9223372036854775807) : Says 69 #[.int .i64 n] (.int .i64 (need n)) := by
  intro w
  obtain ⟨N, hN⟩ : ∃ N : Nat, Hid ((N : Int) = 100000) := ⟨100000, Lib.hid rfl⟩
  go_enter Tryz.func69, Tryz.ntmps69
  go_wp2_with fail
  go_loopw [3] (fun u wr => ∃ k : Nat, u = .int .i64 (k : Int) ∧ 1 ≤ k ∧ k ≤ N ∧ (k = 1 ∨ 44 * ((k : Int) - 1) < n) ∧ wr = w) (fun u _ => N - (intOf u).toNat)
  case atStart => exact ⟨1, rfl, by omega, by have := hN.out; omega, .inl rfl, rfl⟩
  case round =>
    obtain ⟨k, rfl, hk1, hk2, hk, rfl⟩ := hrel
    have hk3 : (k : Int) ≤ 1000000 := by have := hN.out; omega
    rcases Int.lt_or_le (44 * (k : Int)) n with h | h
    · rcases Nat.lt_or_ge k N with h2 | h2
      · have hd : decide ((k : Int) < 100000) = true := decide_eq_true (by have := hN.out; omega)
        go_wp2_with fail
        refine ⟨⟨k + 1, by go_num, by omega, by omega, .inr (by omega), trivial⟩, by simp [intOf]; omega⟩
      · have hd : decide ((k : Int) < 100000) = false := decide_eq_false (by have := hN.out; omega)
        go_wp2_with fail
        go_ret
        exact ⟨by unfold need; rw [if_neg (by omega)]; rfl, rfl⟩
    · have e : need n = k := by unfold need; split <;> omega
      go_wp2_with fail
      go_ret
      exact ⟨rfl, rfl⟩

set_option maxHeartbeats 1000000 in
theorem zeros_any (A : Option Addr) (c L : Nat) (l : List UInt8) (HL : Hid (l.length = L)) (w : World) (hr : Rd w w.heap.size A l) (hl : L ≤ 1073741824) :
    Calls Tryz.prog 122 #[.slice A L c] w fun e w' => e = .returned (.bool (decide (∀ x ∈ l, x = 0))) ∧ w = w' := by
  go_enter Tryz.func122, Tryz.ntmps122
  go_wp2_with fail
  go_loopw [7] (fun u wr => ∃ k : Nat, u = .int .i64 (k : Int) ∧ k ≤ L ∧ Hid (∀ x ∈ l.take k, x = 0) ∧ wr = w) (fun u _ => L - (intOf u).toNat)
  case atStart => exact ⟨0, rfl, by omega, Lib.hid (by simp), rfl⟩
  case round =>
    obtain ⟨k, rfl, hk, HZ, rfl⟩ := hrel
    rcases Nat.lt_or_ge k L with hlt | hge
    · have hkl : k < l.length := by rw [HL.out]; exact hlt
      obtain ⟨b, o, rfl, hbb, hc⟩ := hr.cell hkl
      have HT := Lib.hid (List.take_succ_eq_append_getElem hkl)
      have HM := Lib.hid (List.getElem_mem hkl)
      generalize l[k] = x at hc HT HM
      replace hc : wr.cell? ⟨b, o + k, none⟩ = some (.int .u8 (x.toNat : Int)) := hc
      have hx : x.toNat < 256 := x.toNat_lt
      clear hkl
      by_cases hx0 : x = 0
      · have ht : ((x.toNat : Int) != 0) = false := by rw [hx0]; rfl
        go_wp2_with fail
        refine ⟨⟨k + 1, by go_num, by omega, Lib.hid ?_, trivial⟩, by simp [intOf]; omega⟩
        intro y hy
        rw [HT.out, List.mem_append, List.mem_singleton] at hy
        rcases hy with hy | rfl
        · exact HZ.out y hy
        · exact hx0
      · have ht : ((x.toNat : Int) != 0) = true := by
          rw [bne_iff_ne]
          intro h
          apply hx0
          apply UInt8.toNat_inj.1
          show x.toNat = 0
          omega
        go_wp2_with fail
        go_ret
        refine ⟨?_, rfl⟩
        have hno : ¬ ∀ x ∈ l, x = 0 := fun h => hx0 (h x HM.out)
        rw [decide_eq_false hno]
        rfl
    · obtain rfl : k = L := by omega
      go_wp2_with fail
      go_ret
      refine ⟨?_, rfl⟩
      have hz := HZ.out
      rw [List.take_of_length_le (by rw [HL.out]; exact Nat.le_refl _)] at hz
      rw [decide_eq_true hz]
      rfl

theorem valB_bd (l : List UInt8) (m : Nat) (hm : m ≤ 6) (hl : l.length ≤ m) : valB l < 281474976710656 := by
  refine Nat.lt_of_lt_of_le (valB_lt l) (Nat.le_trans (Nat.pow_le_pow_right (by omega) (Nat.le_trans hl hm)) (by decide))

/-- the next number is told as an int, and the place is behind it -/
def NextOk (w : World) (g t : Nat) (A : Option Addr) (cap n k m : Nat) (l : List UInt8) (e : Ending) (w' : World) : Prop :=
  e = .returned (.int .i64 (fieldN l k m : Int)) ∧ Cur w' g t A cap n (k + m) l ∧ w.grownBy w' (some g)

set_option maxHeartbeats 1000000 in
theorem next_any {w : World} {r cap n k : Nat} {A : Option Addr} {l : List UInt8} (h : Cur w r 177 A cap n k l) (m : Nat) (h1 : 1 ≤ m) (h2 : m ≤ 6) (hm : m ≤ n - k) :
    Calls Tryz.prog 121 #[.pointer (some ⟨r, 0, none⟩), .int .i64 m] w (NextOk w r 177 A cap n k m l) := by
  have hb : fieldN l k m < 281474976710656 := valB_bd _ m h2 (by rw [List.length_take]; omega)
  have HV : Hid (fieldN l k m = valB ((l.drop k).take m)) := Lib.hid rfl
  go_enter Tryz.func121, Tryz.ntmps121
  go_wp2_with fail
  refine (get_ok h m h1 (by omega) hm).mono ?_
  rintro e w1 ⟨rfl, hc, hg⟩
  have HC := Lib.hid hc
  have HG := Lib.hid hg
  clear hc hg h
  rw [← HV.out]
  generalize hz : fieldN l k m = z at *
  have HZ := Lib.hid hz
  clear hz HV
  go_wp2_with fail
  go_ret
  exact ⟨by rw [HZ.out]; rfl, HC.out, HG.out⟩

end Go.Proofs.YtdjfahnnfhediaaGreat

namespace Go.Proofs.YtdjfahnnfhediaaGreat
set_option maxRecDepth 100000
open Go.RowKit Crc Wm

/-- slices of bytes lie in a row, in block g from o on -/
def Parts (w : World) (g o : Nat) (ls : List (List UInt8)) : Prop := g < w.heap.size ∧ ∀ j x, ls[j]? = some x → ∃ A n c, w.cell? ⟨g, o + j, none⟩ = some (.slice A n c) ∧ Lies w A c n x
theorem Parts.up {w W : World} {g o : Nat} {ls : List (List UInt8)} (h : Parts w g o ls) (hb : Below w.heap.size w W) : Parts W g o ls :=
  ⟨Nat.lt_of_lt_of_le h.1 hb.size, fun j x hx => by obtain ⟨A, n, c, h1, h2⟩ := h.2 j x hx; exact ⟨A, n, c, (hb.cell h.1).trans h1, h2.up hb⟩⟩

theorem flat_step {ls : List (List UInt8)} {j : Nat} {x : List UInt8} (h : ls[j]? = some x) : (ls.take (j + 1)).flatten = (ls.take j).flatten ++ x := by
  rw [List.take_add_one, h, List.flatten_append]
  simp
theorem flat_le (ls : List (List UInt8)) (j : Nat) : ((ls.take j).flatten).length ≤ (ls.flatten).length := by
  conv => rhs; rw [← List.take_append_drop j ls, List.flatten_append, List.length_append]
  omega

set_option maxHeartbeats 2000000 in
theorem concat_any (g o cs m : Nat) (ls : List (List UInt8)) (HM : Hid (ls.length = m)) (hm : m ≤ 1000000) (w : World) (hp : Hid (Parts w g o ls)) (T : Nat) (HT : Hid ((ls.flatten).length = T)) (h1 : 1 ≤ T) (h2 : T ≤ 4294967296) :
    Calls Tryz.prog 80 #[.slice (some ⟨g, o, none⟩) m cs] w (Made w T ls.flatten) := by
  obtain ⟨i0, hi, hz0, hz1, hz2⟩ := info_parts byte_facts
  have HI := Lib.hid (show _ ∧ _ ∧ _ ∧ _ from ⟨hi, hz0, hz1, hz2⟩)
  clear hi hz0 hz1 hz2
  go_enter Tryz.func80, Tryz.ntmps80
  go_wp2_with fail
  go_loop [3, 11] (fun s i => ∃ j S : Nat, i = .int .i64 (j : Int) ∧ s = .int .i64 (S : Int) ∧ j ≤ m ∧ S ≤ T ∧ Hid (S = ((ls.take j).flatten).length)) (fun _ i => m - (intOf i).toNat)
  case atStart => exact ⟨0, 0, rfl, rfl, by omega, by omega, Lib.hid (by simp)⟩
  case round =>
    obtain ⟨j, S, rfl, rfl, hj, hS, HS⟩ := hrel
    rcases Nat.lt_or_ge j m with hlt | hge
    · have hjl : j < ls.length := by rw [HM.out]; exact hlt
      obtain ⟨A, n, c, hc, hl⟩ := hp.out.2 j _ (List.getElem?_eq_getElem hjl)
      have HF := Lib.hid (flat_step (List.getElem?_eq_getElem hjl))
      have HL := Lib.hid (flat_le ls (j + 1))
      have hn : S + n ≤ T ∧ Hid (S + n = ((ls.take (j + 1)).flatten).length) := by
        have e : S + n = ((ls.take (j + 1)).flatten).length := by rw [HF.out, List.length_append, ← HS.out, hl.len]
        exact ⟨by rw [e, ← HT.out]; exact HL.out, Lib.hid e⟩
      obtain ⟨hn, HN⟩ := hn
      clear hl HF HL hjl
      go_wp2_with fail
      all_goals
        go_round
        case rel => exact ⟨j + 1, S + n, by go_num, by go_num, by omega, hn, HN⟩
        case measure => simp [intOf]; omega
    · obtain rfl : j = m := by omega
      obtain rfl : S = T := by rw [HS.out, ← HT.out, List.take_of_length_le (by rw [HM.out]; exact Nat.le_refl _)]
      have HC := Lib.hid (grow_nil S w h1 h2)
      go_wp2_with (go_at_call 94; refine (HC.out).mono ?_; rintro e w1 ⟨A0, c0, rfl, ho0, hb0⟩)
      have HB := Lib.hid hb0
      have HO := Lib.hid ho0
      clear hb0 ho0 HC
      go_loopw [6, 27] (fun v i wr => ∃ (k U : Nat) (A' : Option Addr) (c' : Nat), i = .int .i64 (k : Int) ∧ k ≤ j ∧ v = .slice A' U c' ∧ U ≤ S ∧ Hid (U = ((ls.take k).flatten).length) ∧ Hid (Owns wr w.heap.size A' c' U ((ls.take k).flatten)) ∧ Hid (Below w.heap.size w wr)) (fun _ i _ => j - (intOf i).toNat)
      case atStart => exact ⟨0, 0, A0, c0, rfl, by omega, rfl, by omega, Lib.hid (by simp), Lib.hid (by simpa using HO.out), HB⟩
      case round =>
        clear HB HO
        obtain ⟨k, U, A', c', rfl, hk, rfl, hU, HU, HO, HB⟩ := hrel
        rcases Nat.lt_or_ge k j with hlt | hge
        · have hjl : k < ls.length := by rw [HM.out]; exact hlt
          obtain ⟨A, n, c, hc, hl⟩ := (hp.out.up HB.out).2 k _ (List.getElem?_eq_getElem hjl)
          have HF := Lib.hid (flat_step (List.getElem?_eq_getElem hjl))
          have HL := Lib.hid (flat_le ls (k + 1))
          have hn : U + n ≤ S ∧ Hid (U + n = ((ls.take (k + 1)).flatten).length) := by
            have e : U + n = ((ls.take (k + 1)).flatten).length := by rw [HF.out, List.length_append, ← HU.out, hl.len]
            exact ⟨by rw [e, ← HT.out]; exact HL.out, Lib.hid e⟩
          obtain ⟨hn, HN⟩ := hn
          have HA := Lib.hid hl
          generalize ls[k] = x at *
          clear hl HL hjl
          obtain ⟨hi, hz0, hz1, hz2⟩ := HI.out
          have hwr := HB.out.size
          go_wp2_with (at_builtin; refine wpList_append_rd rfl (.tmp 31) (.tmp 32) _ rfl w.heap.size i0 Tryz.underlying41 hi hz0 hz1 hz2 (.slice A' U c') U _ rfl HO.out _ _ x n _ rfl HA.out.rd HA.out.len (by omega) hwr ?_; intro v2 w2 hown2 hg2 hat2; obtain ⟨A3, c3, rfl, ho3, hb3⟩ := append_step' HO.out HB.out hwr hown2 hg2; clear hown2 hg2 hat2)
          all_goals
            go_roundw
            case rel => exact ⟨k + 1, U + n, A3, c3, by go_num, by omega, rfl, hn, HN, by rw [HF.out]; exact Lib.hid ho3, Lib.hid hb3⟩
            case measure => simp [intOf]; omega
        · obtain rfl : k = j := by omega
          obtain rfl : U = S := by rw [HU.out, ← HT.out, List.take_of_length_le (by rw [HM.out]; exact Nat.le_refl _)]
          have ho := HO.out
          rw [List.take_of_length_le (by rw [HM.out]; exact Nat.le_refl _)] at ho
          have HO2 := Lib.hid ho
          clear ho
          go_wp2_with fail
          go_ret
          exact ⟨A', c', rfl, HO2.out, HB.out⟩

end Go.Proofs.YtdjfahnnfhediaaGreat

namespace Go.Proofs.YtdjfahnnfhediaaGreat
set_option maxRecDepth 100000
open Go.RowKit Crc Wm

/-- 'make([]byte, n)', in any world -/
theorem run_zeros (w : World) (n : Nat) (hn : n ≤ 1000000) : ∃ w', (Instr.makeSlice 41 (.int .i64 (n : Int)) (.int .i64 (n : Int))).run Tryz.prog w = .ok (.slice (some ⟨w.heap.size, 0, none⟩) n n) w' ∧
    Owns w' w.heap.size (some ⟨w.heap.size, 0, none⟩) n n (zeroB n) ∧ Below w.heap.size w w' := by
  obtain ⟨i0, hi, hz0, hz1, hz2⟩ := info_parts byte_facts
  obtain ⟨w2, hmk, hown, hgr⟩ := run_make_full (P := Tryz.prog) w w.heap.size 41 5 i0 (.int .u8 0) 1 Tryz.underlying41 hi hz0 hz1 .i64 .i64 n (by rw [hz2]; omega) (by unfold maxLen; omega) (Nat.le_refl _)
  exact ⟨w2, hmk, made_zeros hown, (Below.refl _ _).grown hgr (Nat.le_refl _) (by simp)⟩

/-- a number of k bytes is put behind others -/
theorem put_k {A : Option Addr} {c L B : Nat} {l : List UInt8} {w : World} (ho : Owns w B A c L l) (v k : Nat) (n : Int) (hn : n = k) (hk : k ≤ 8) (hl : L ≤ 1073741824) (hv : v ≤ 18446744073709551615) :
    Calls Tryz.prog 93 #[.slice A L c, .int .u64 v, .int .i64 n] w (Made w (L + k) (l ++ putB k v)) :=
  put_core A c L l (Lib.hid ho.len) v n k w ho.read hl hv hk (.inr (.inl (by omega)))

/-- three slices laid side by side for a call -/
theorem parts_three {w : World} {A1 A2 A3 : Option Addr} {n1 c1 n2 c2 n3 c3 : Nat} {l1 l2 l3 : List UInt8} (h1 : Lies w A1 c1 n1 l1) (h2 : Lies w A2 c2 n2 l2) (h3 : Lies w A3 c3 n3 l3) (t : TypeId) (g : Nat) (hg : w.heap.size = g) :
    Parts (w.alloc (.cells #[.slice A1 n1 c1, .slice A2 n2 c2, .slice A3 n3 c3] t)) g 0 [l1, l2, l3] := by
  subst hg
  have hb := below_new w (.cells #[.slice A1 n1 c1, .slice A2 n2 c2, .slice A3 n3 c3] t)
  refine ⟨by simp, fun j x hx => ?_⟩
  rw [Nat.zero_add, cell_of_row _ _ _ _ _ _ (heap_alloc_new w _)]
  match j, hx with
  | 0, hx => simp at hx; subst hx; exact ⟨_, _, _, rfl, h1.up hb⟩
  | 1, hx => simp at hx; subst hx; exact ⟨_, _, _, rfl, h2.up hb⟩
  | 2, hx => simp at hx; subst hx; exact ⟨_, _, _, rfl, h3.up hb⟩
  | j + 3, hx => simp at hx
theorem parts_two {w : World} {A1 A2 : Option Addr} {n1 c1 n2 c2 : Nat} {l1 l2 : List UInt8} (h1 : Lies w A1 c1 n1 l1) (h2 : Lies w A2 c2 n2 l2) (t : TypeId) (g : Nat) (hg : w.heap.size = g) :
    Parts (w.alloc (.cells #[.slice A1 n1 c1, .slice A2 n2 c2] t)) g 0 [l1, l2] := by
  subst hg
  have hb := below_new w (.cells #[.slice A1 n1 c1, .slice A2 n2 c2] t)
  refine ⟨by simp, fun j x hx => ?_⟩
  rw [Nat.zero_add, cell_of_row _ _ _ _ _ _ (heap_alloc_new w _)]
  match j, hx with
  | 0, hx => simp at hx; subst hx; exact ⟨_, _, _, rfl, h1.up hb⟩
  | 1, hx => simp at hx; subst hx; exact ⟨_, _, _, rfl, h2.up hb⟩
  | j + 2, hx => simp at hx

/-- the same call, its own memory counted from an earlier world on -/
theorem Made.from {w w1 : World} {n : Nat} {l : List UInt8} {e : Ending} {w2 : World} (hb : Below w.heap.size w w1) (h : Made w1 n l e w2) : Made w n l e w2 := by
  obtain ⟨A, c, he, ho, hb2⟩ := h
  exact ⟨A, c, he, ho.base_le hb.size, below_two hb hb2⟩

set_option maxHeartbeats 4000000 in
set_option maxRecDepth 100000 in
theorem body_any (p : Pv) (D : List UInt8) (w : World) (hl : Lies w p.ad p.c p.n D) (hm : MayN p.E p.A p.I p.C p.n) :
    Calls Tryz.prog 79 #[pvV p] w (Made w 60 (Pc.body ⟨p.E, p.A, p.I, p.C, D⟩)) := by
  have HX := Lib.hid (Bp.new w p 105)
  have HB := Lib.hid (below_new w (.cells (pvC p) 105))
  have HLN := Lib.hid hl.len
  obtain ⟨E, A, I, C, ad, n, c⟩ := p
  obtain ⟨⟨e0, e1⟩, ⟨a0, a1⟩, ⟨k0, k1⟩, ⟨i0', i1⟩, hn⟩ := hm
  simp only at e0 e1 a0 a1 k0 k1 i0' i1 hn hl HLN
  obtain ⟨E, rfl⟩ := Int.eq_ofNat_of_zero_le e0
  obtain ⟨A, rfl⟩ := Int.eq_ofNat_of_zero_le a0
  obtain ⟨I, rfl⟩ := Int.eq_ofNat_of_zero_le i0'
  obtain ⟨C, rfl⟩ := Int.eq_ofNat_of_zero_le (by omega : 0 ≤ C)
  have hn44 : n ≤ 44 := by omega
  have h4 : E ≤ 4294967295 := by omega
  have h5 : A ≤ 2199023255552 := by omega
  have h6 : I ≤ 1024 := by omega
  have h7 : C ≤ 1024 := by omega
  obtain ⟨R, hR⟩ : ∃ R : Nat, (R : Int) = 44 - (n : Int) := ⟨44 - n, by omega⟩
  have hRw : IntKind.i64.wrap (44 - (n : Int)) = (R : Int) := by rw [IntKind.wrap_i64]; omega
  have HR := Lib.hid hR
  have hc60 : Hid ([putB 4 E ++ putB 6 A ++ putB 2 I ++ putB 2 C ++ putB 1 n ++ putB 1 0, D, zeroB R].flatten = Pc.body ⟨(E : Int), (A : Int), (I : Int), (C : Int), D⟩) := by
    show _ = _
    unfold Pc.body Pc.head
    simp only [List.flatten_cons, List.flatten_nil, List.append_nil, Int.toNat_natCast, HLN.out]
    rw [show 44 - n = R from by omega]
    simp only [List.append_assoc]
  have hc60l : Hid (([putB 4 E ++ putB 6 A ++ putB 2 I ++ putB 2 C ++ putB 1 n ++ putB 1 0, D, zeroB R].flatten).length = 60) := by
    show _ = _
    rw [hc60.out, length_body _ (by show D.length ≤ 44; rw [HLN.out]; omega)]
  have HL := Lib.hid hl
  clear hl e0 a0 i0' k0 e1 a1 i1 k1 hn hR
  have c0 := HX.out.c0
  go_enter Tryz.func79, Tryz.ntmps79
  go_wp2_with fail
  refine (put_core none 0 0 [] (Lib.hid rfl) E 4 4 _ (Rd.nil _ _ _) (by omega) (by omega) (by omega) (.inr (.inl (by omega)))).mono ?_
  rintro e w1 ⟨A1, b1, rfl, ho, hb⟩
  replace HX := Lib.hid (HX.out.below hb)
  replace HB := Lib.hid (below_two HB.out hb)
  have HO := Lib.hid ho
  clear ho hb c0
  have c0 := HX.out.c1
  go_wp2_with fail
  refine (put_k HO.out A 6 6 rfl (by omega) (by omega) (by omega)).mono ?_
  rintro e w2 ⟨A2, b2, rfl, ho, hb⟩
  replace HX := Lib.hid (HX.out.below hb)
  replace HB := Lib.hid (below_two HB.out hb)
  replace HO := Lib.hid ho
  clear ho hb c0
  have c0 := HX.out.c2
  go_wp2_with fail
  refine (put_k HO.out I 2 2 rfl (by omega) (by omega) (by omega)).mono ?_
  rintro e w3 ⟨A3, b3, rfl, ho, hb⟩
  replace HX := Lib.hid (HX.out.below hb)
  replace HB := Lib.hid (below_two HB.out hb)
  replace HO := Lib.hid ho
  clear ho hb c0
  have c0 := HX.out.c3
  go_wp2_with fail
  refine (put_k HO.out C 2 2 rfl (by omega) (by omega) (by omega)).mono ?_
  rintro e w4 ⟨A4, b4, rfl, ho, hb⟩
  replace HX := Lib.hid (HX.out.below hb)
  replace HB := Lib.hid (below_two HB.out hb)
  replace HO := Lib.hid ho
  clear ho hb c0
  have c0 := HX.out.c4
  go_wp2_with fail
  refine (put_k HO.out n 1 1 rfl (by omega) (by omega) (by omega)).mono ?_
  rintro e w5 ⟨A5, b5, rfl, ho, hb⟩
  replace HX := Lib.hid (HX.out.below hb)
  replace HB := Lib.hid (below_two HB.out hb)
  replace HO := Lib.hid ho
  clear ho hb c0
  go_wp2_with fail
  refine (put_k HO.out 0 1 1 rfl (by omega) (by omega) (by omega)).mono ?_
  rintro e w6 ⟨A6, b6, rfl, ho, hb⟩
  replace HX := Lib.hid (HX.out.below hb)
  replace HB := Lib.hid (below_two HB.out hb)
  replace HO := Lib.hid ho
  clear ho hb
  go_wp2_with fail
  have c0 : ∀ V, Since w6 V → V.cell? ⟨w.heap.size, 4, none⟩ = some (.slice ad n c) := fun V hV => (HX.out.below hV).c4
  obtain ⟨w7, hmk, hoz, hb7⟩ := run_zeros (World.drew w6) R (by have := HR.out; omega)
  have HMK := Lib.hid hmk
  have HZ := Lib.hid hoz
  have HB7 := Lib.hid hb7
  clear hmk hoz hb7
  have HB67 : Hid (Below w6.heap.size w6 w7) := Lib.hid (((Below.refl _ _).drew).trans HB7.out)
  simp only [List.nil_append, Nat.zero_add, Nat.reduceAdd] at HO
  have hl1 := Lib.hid (HO.out.lies.up HB67.out)
  have hl2 := Lib.hid ((HL.out.up HB.out).up HB67.out)
  have hl3 := Lib.hid (HZ.out.lies)
  refine wp_region_since (by kernel_rfl) ?_
  have hS : Since w6 (World.drew w6) := (Below.refl _ _).drew
  refine wpAnyH_take (i := 0) (oi := ⟨some 31, _, _, _, _, _⟩) (v := ?_) rfl (by kernel_rfl) (by kernel_rfl) (by kernel_rfl) (fun _ _ _ h => h) (Or.inl ⟨by rfl, ?_⟩) hS ?_
  rotate_left
  · intro W hW; go_simp; with_reducible rfl
  try simp only [Act.put, List.setIfInBounds_toArray, List.set_cons_zero, List.set_cons_succ]
  refine wpAnyH_take (i := 1) (oi := ⟨some 32, _, _, _, _, _⟩) (v := ?_) rfl (by kernel_rfl) (by kernel_rfl) (by kernel_rfl) (fun _ _ _ h => h) (Or.inl ⟨by rfl, ?_⟩) hS ?_
  rotate_left
  · intro W hW; go_simp; with_reducible rfl
  try simp only [Act.put, List.setIfInBounds_toArray, List.set_cons_zero, List.set_cons_succ]
  refine wpAnyH_take (i := 2) (oi := ⟨some 33, _, _, _, _, _⟩) (v := ?_) rfl (by kernel_rfl) (by kernel_rfl) (by kernel_rfl) (fun _ _ _ h => h) (Or.inl ⟨by rfl, ?_⟩) hS ?_
  rotate_left
  · intro W hW; go_simp; with_reducible rfl
  try simp only [Act.put, List.setIfInBounds_toArray, List.set_cons_zero, List.set_cons_succ]
  refine wpAnyH_take (i := 3) (oi := ⟨some 34, _, _, _, _, _⟩) (v := ?_) rfl (by kernel_rfl) (by kernel_rfl) (by kernel_rfl) (fun _ _ _ h => h) (Or.inl ⟨by rfl, ?_⟩) hS ?_
  rotate_left
  · intro W hW; go_simp; with_reducible rfl
  try simp only [Act.put, List.setIfInBounds_toArray, List.set_cons_zero, List.set_cons_succ]
  refine wpAnyH_take (i := 4) (oi := ⟨some 35, _, _, _, _, _⟩) (v := ?_) rfl (by kernel_rfl) (by kernel_rfl) (by kernel_rfl) (fun _ _ _ h => h) (Or.inl ⟨by rfl, ?_⟩) hS ?_
  rotate_left
  · intro W hW; go_simp; with_reducible rfl
  try simp only [Act.put, List.setIfInBounds_toArray, List.set_cons_zero, List.set_cons_succ]
  refine wpAnyH_take (i := 5) (oi := ⟨some 36, _, _, _, _, _⟩) (v := ?_) rfl (by kernel_rfl) (by kernel_rfl) (by kernel_rfl) (fun _ _ _ h => h) (Or.inl ⟨by rfl, ?_⟩) hS ?_
  rotate_left
  · intro W hW; go_simp; with_reducible rfl
  try simp only [Act.put, List.setIfInBounds_toArray, List.set_cons_zero, List.set_cons_succ]
  refine wpAnyH_take (i := 6) (oi := ⟨some 37, _, _, _, _, _⟩) (v := ?_) rfl (by kernel_rfl) (by kernel_rfl) (by kernel_rfl) (fun _ _ _ h => h) (Or.inl ⟨by rfl, ?_⟩) hS ?_
  rotate_left
  · intro W hW; go_simp; with_reducible rfl
  try simp only [Act.put, List.setIfInBounds_toArray, List.set_cons_zero, List.set_cons_succ]
  refine wpAnyH_ready (rs := [7]) (by kernel_rfl) (by simp) ?_
  refine AllReadyH.cons (o := ⟨some 38, _, _, _, _, _⟩) rfl (fun Kr hKr => ?_) AllReadyH.nil
  -- operation 7: a step
  rw [if_pos (by kernel_rfl)]
  refine wp_make 41 _ _ rfl rfl rfl HMK.out ?_
  show Kr _ _
  refine hKr.out _ _ ?_ (fun _ => ?_)
  · exact HB67.out
  clear hKr Kr
  replace hS : Since w6 w7 := HB67.out
  try simp only [Act.put, List.setIfInBounds_toArray, List.set_cons_zero, List.set_cons_succ]
  refine wpAnyH_ready (rs := [8]) (by kernel_rfl) (by simp) ?_
  refine AllReadyH.cons (o := ⟨some 39, _, _, _, _, _⟩) rfl (fun Kr hKr => ?_) AllReadyH.nil
  -- operation 8: a step
  go_simp
  show Kr _ _
  refine hKr.out _ _ ?_ (fun _ => ?_)
  · exact below_two HB67.out (below_new w7 _)
  clear hKr Kr
  replace hS : Since w6 (w7.alloc (.cells #[.slice A6 16 b6, .slice ad n c, .slice (some ⟨(World.drew w6).heap.size, 0, none⟩) R R] 41)) := below_two HB67.out (below_new w7 _)
  try simp only [Act.put, List.setIfInBounds_toArray, List.set_cons_zero, List.set_cons_succ]
  refine wpAnyH_ready (rs := [9]) (by kernel_rfl) (by simp) ?_
  refine AllReadyH.cons (o := ⟨some 40, _, _, _, _, _⟩) rfl (fun Kr hKr => ?_) AllReadyH.nil
  -- operation 9: a call
  go_simp
  refine (concat_any w7.heap.size 0 3 3 _ (Lib.hid rfl) (by omega) _ (Lib.hid (parts_three hl1.out hl2.out hl3.out _ _ rfl)) 60 hc60l (by omega) (by omega)).mono ?_
  rintro e w8 ⟨A8, b8, rfl, ho8, hb8⟩
  have HB8 := Lib.hid (below_two HB67.out (below_two (below_new w7 _) hb8))
  have HO8 := Lib.hid ho8
  clear ho8 hb8
  show Kr _ _
  refine hKr.out _ _ ?_ (fun _ => ?_)
  · exact HB8.out
  clear hKr Kr
  replace hS : Since w6 w8 := HB8.out
  try simp only [Act.put, List.setIfInBounds_toArray, List.set_cons_zero, List.set_cons_succ]
  refine wpAnyH_take (i := 10) (oi := ⟨some 2, _, _, _, _, _⟩) (v := ?_) rfl (by kernel_rfl) (by kernel_rfl) (by kernel_rfl) (fun _ _ _ h => h) (Or.inl ⟨by rfl, ?_⟩) hS ?_
  rotate_left
  · intro W hW; go_simp; with_reducible rfl
  try simp only [Act.put, List.setIfInBounds_toArray, List.set_cons_zero, List.set_cons_succ]
  refine wpAnyH_done (by kernel_rfl) ?_ _
  clear c0
  go_wp2_with fail
  go_ret
  refine ⟨A8, b8, rfl, ?_, below_two HB.out HB8.out⟩
  rw [← hc60.out]
  refine HO8.out.base_le ?_
  have h1 := HB.out.size
  have h2 := HB67.out.size
  simp
  omega

end Go.Proofs.YtdjfahnnfhediaaGreat

namespace Go.Proofs.YtdjfahnnfhediaaGreat
set_option maxRecDepth 100000
open Go.RowKit Crc Wm

set_option maxHeartbeats 400000 in
theorem sumbytes6_any (A : Option Addr) (c L : Nat) (l : List UInt8) (HL : Hid (l.length = L)) (w : World) (hr : Rd w w.heap.size A l) (hl : L ≤ 1073741824) :
    Calls Tryz.prog 81 #[.slice A L c] w (Made w 4 (sum4 l)) := by
  have hof := of_any A c L l HL w hr (by omega)
  obtain ⟨h0, h1⟩ := word_bd (ofB l)
  have HS : Hid (sum4 l = [] ++ putB (clampN 4) (word (ofB l)).toNat) := rfl
  rw [HS.out]
  generalize word (ofB l) = x at hof h0 h1
  have HOF := Lib.hid hof
  clear hof HS
  go_enter Tryz.func81, Tryz.ntmps81
  go_wp2_with (first
    | (go_at_call 95; refine (HOF.out).mono ?_; rintro e w1 ⟨rfl, hb1⟩)
    | (go_at_call 93; refine (put_any none 0 0 [] rfl _ _ w1 (Rd.nil _ _ _) (by omega) h0 (by omega)).mono ?_; rintro e w2 ⟨A2, c2, rfl, ho2, hb2⟩))
  go_ret
  exact ⟨A2, c2, rfl, ho2.base_le hb1.size, hb1.trans (hb2.mono hb1.size)⟩

/-- a call answers bytes of its own, and an error -/
def Gives (w : World) (l : List UInt8) (E : Int) (e : Ending) (w' : World) : Prop :=
  ∃ A n c, e = .returned (.tuple #[.slice A n c, .int .i64 E]) ∧ Owns w' w.heap.size A c n l ∧ Below w.heap.size w w'

def Pv.pc (p : Pv) (D : List UInt8) : Pc := ⟨p.E, p.A, p.I, p.C, D⟩
theorem pc_may (p : Pv) (D : List UInt8) (h : D.length = p.n) : (p.pc D).May ↔ MayN p.E p.A p.I p.C p.n := by
  rw [may_iff]
  show MayN p.E p.A p.I p.C D.length ↔ _
  rw [h]

theorem Gives.no {w w' : World} {p : Pv} {D : List UInt8} (h : D.length = p.n) (hm : ¬ MayN p.E p.A p.I p.C p.n) (hb : Below w.heap.size w w') : Gives w (p.pc D).writeB (p.pc D).writeE (.returned (.tuple #[.slice none 0 0, .int .i64 1])) w' := by
  have h1 : ¬ (p.pc D).May := fun g => hm ((pc_may p D h).1 g)
  unfold Pc.writeB Pc.writeE
  rw [if_neg h1, if_neg h1]
  exact ⟨none, 0, 0, rfl, ⟨rfl, .inl ⟨rfl, rfl⟩⟩, hb⟩
theorem Gives.yes {w w' : World} {p : Pv} {D : List UInt8} {A : Option Addr} {n c : Nat} (h : D.length = p.n) (hm : MayN p.E p.A p.I p.C p.n) (ho : Owns w' w.heap.size A c n (p.pc D).sector) (hb : Below w.heap.size w w') : Gives w (p.pc D).writeB (p.pc D).writeE (.returned (.tuple #[.slice A n c, .int .i64 0])) w' := by
  have h1 : (p.pc D).May := (pc_may p D h).2 hm
  unfold Pc.writeB Pc.writeE
  rw [if_pos h1, if_pos h1]
  exact ⟨A, n, c, rfl, ho, hb⟩

set_option maxHeartbeats 2000000 in
set_option maxRecDepth 100000 in
theorem write_any (p : Pv) (D : List UInt8) (w : World) (hl : Lies w p.ad p.c p.n D) (hn : p.n ≤ 4611686018427387904) :
    Calls Tryz.prog 63 #[pvV p] w (Gives w (p.pc D).writeB (p.pc D).writeE) := by
  have HX := Lib.hid (Bp.new w p 105)
  have HB := Lib.hid (below_new w (.cells (pvC p) 105))
  have HL := Lib.hid hl
  have HM := Lib.hid (may_any p hn)
  have HF := Lib.hid (body_any p D)
  have HY := Lib.hid (fun W W' A n c => @Gives.yes W W' p D A n c hl.len)
  have HN := Lib.hid (fun W W' => @Gives.no W W' p D hl.len)
  have HS : Hid (p.pc D = ⟨p.E, p.A, p.I, p.C, D⟩) := Lib.hid rfl
  obtain ⟨q, hq⟩ : ∃ q, q = p.pc D := ⟨_, rfl⟩
  rw [← hq] at HY HN HS ⊢
  clear hq hn hl
  rw [← HS.out] at HF
  obtain ⟨E, A, I, C, ad, n, c⟩ := p
  simp only at HL HM HF HY HN
  have c0 := HX.out.c0
  have c1 := HX.out.c1
  have c2 := HX.out.c2
  have c3 := HX.out.c3
  have c4 := HX.out.c4
  simp only at c0 c1 c2 c3 c4
  go_enter Tryz.func63, Tryz.ntmps63
  go_wp2_with fail
  refine (HM.out _).mono ?_
  rintro e w1 ⟨rfl, hb⟩
  replace HX := Lib.hid (HX.out.below hb)
  replace HB := Lib.hid (below_two HB.out hb)
  clear hb c0 c1 c2 c3 c4
  have c0 := HX.out.c0
  have c1 := HX.out.c1
  have c2 := HX.out.c2
  have c3 := HX.out.c3
  have c4 := HX.out.c4
  simp only at c0 c1 c2 c3 c4
  by_cases hm : MayN E A I C n
  · have hd : decide (MayN E A I C n) = true := decide_eq_true hm
    have HMM := Lib.hid hm
    clear hm
    rw [hd]
    clear hd
    go_wp2_with fail
    refine (HF.out w1 (HL.out.up HB.out) HMM.out).mono ?_
    rintro e w2 ⟨A2, b2, rfl, ho, hb⟩
    replace HX := Lib.hid (HX.out.below hb)
    replace HB := Lib.hid (below_two HB.out hb)
    have HO := Lib.hid ho
    clear ho hb c0 c1 c2 c3 c4
    go_wp2_with fail
    refine (sumbytes6_any A2 b2 60 _ (Lib.hid HO.out.len) w2 HO.out.read (by omega)).mono ?_
    rintro e w3 ⟨A3, b3, rfl, ho3, hb⟩
    have HO2 := Lib.hid (HO.out.lies.up hb)
    replace HB := Lib.hid (below_two HB.out hb)
    have HO3 := Lib.hid ho3
    clear hb ho3
    go_wp2_with fail
    refine (concat_any w3.heap.size 0 2 2 _ (Lib.hid rfl) (by omega) _ (Lib.hid (parts_two HO3.out.lies HO2.out _ _ rfl)) 64 (Lib.hid ?_) (by omega) (by omega)).mono ?_
    · have h1 := HO3.out.len
      have h2 := HO2.out.len
      simp only [List.flatten_cons, List.flatten_nil, List.append_nil, List.length_append, h1, h2]
    rintro e w4 ⟨A4, b4, rfl, ho4, hb⟩
    have HB3 := Lib.hid (below_two HB.out (below_new w3 (.cells #[.slice A3 4 b3, .slice A2 60 b2] 41)))
    have HB4 := Lib.hid (below_two HB3.out hb)
    have HO4 := Lib.hid (ho4.base_le HB3.out.size)
    clear hb ho4
    go_wp2_with fail
    go_ret2
    refine HY.out _ _ _ _ _ HMM.out ?_ HB4.out
    have h := HO4.out
    simp only [List.flatten_cons, List.flatten_nil, List.append_nil] at h
    exact h
  · have hd : decide (MayN E A I C n) = false := decide_eq_false hm
    have HMM := Lib.hid hm
    clear hm
    rw [hd]
    clear hd
    go_wp2_with fail
    go_ret2
    exact HN.out _ _ HMM.out HB.out

end Go.Proofs.YtdjfahnnfhediaaGreat
