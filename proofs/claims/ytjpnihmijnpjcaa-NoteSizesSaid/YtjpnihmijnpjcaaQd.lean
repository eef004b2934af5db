/-
  The program's reader of a note: number, signed number, count, a block's bytes, an image, an op; each ends by panic where the bytes end.
-/
import Derived.Test.YtjpnihmijnpjcaaQc
namespace Go.Proofs.Ytjpnihmijnpjcaa
set_option maxRecDepth 100000
set_option linter.unusedVariables false
set_option linter.unusedSimpArgs false
open Go.RowKit Wm Nn

/-- the panic that stands for an error -/
def errP (E : Int) : List PanicEntry := [{ v := .iface 29 (.int .i64 E), recovered := false }]
theorem ty_reader : STy 62 1 := ⟨⟨_, Try.underlying62⟩, by kernel_rfl⟩
/-- a reader of notes, as a value -/
def rdV (g : Nat) : Value := .agg #[.pointer (some ⟨g, 0, none⟩)]
/-- a call that ends by panic, and turns the reader's block alone -/
def Bad (w : World) (g : Nat) (E : Int) (e : Ending) (w' : World) : Prop := e = .panicked (errP E) ∧ Hid (w.grownBy w' (some g))

theorem must_ok (w : World) : Calls Try.prog 45 #[.int .i64 0] w fun e w' => e = .returned (.tuple #[]) ∧ w = w' := by
  obtain ⟨f1, f2⟩ := ne_yes (show (0 : Int) = 0 from rfl)
  go_enter Try.func45, Try.ntmps45
  go_wp2_with fail
  refine bodyPost_end (results_none rfl _ _ _) rfl ?_
  exact ⟨rfl, rfl⟩
theorem must_no (E : Int) (w : World) (h : E ≠ 0) : Calls Try.prog 45 #[.int .i64 E] w fun e w' => e = .panicked (errP E) ∧ w = w' := by
  obtain ⟨f1, f2⟩ := ne_no h
  clear h
  go_enter Try.func45, Try.ntmps45
  go_wp2_with fail
  exact ⟨rfl, rfl, rfl⟩

section
variable {w : World} {g c n k : Nat} {A : Option Addr} {l : List UInt8}
set_option maxHeartbeats 400000 in
theorem rsigned_short (h : Cur w g 82 A c n k l) (hm : (n : Int) - k < 8) :
    Calls Try.prog 58 #[.pointer (some ⟨g, 0, none⟩)] w fun e w' => e = .returned (.tuple #[.int .i64 0, .int .i64 2]) ∧ Below w.heap.size w w' := by
  go_enter Try.func58, Try.ntmps58
  go_wp2_with fail
  refine (get_short h 8 (by omega) (by omega) hm).mono ?_
  rintro e w2 ⟨rfl, hb⟩
  have HB := Lib.hid hb
  clear hb
  go_wp2_with fail
  go_ret2
  exact ⟨rfl, HB.out⟩

/-- the reader's struct, boxed -/
theorem rd_boxed (h : Cur w g 82 A c n k l) : Hid (Cur (w.alloc (.cells #[.pointer (some ⟨g, 0, none⟩)] 62)) g 82 A c n k l) ∧ Hid (Below w.heap.size w (w.alloc (.cells #[.pointer (some ⟨g, 0, none⟩)] 62))) ∧ Hid (Bk (w.alloc (.cells #[.pointer (some ⟨g, 0, none⟩)] 62)) w.heap.size #[.pointer (some ⟨g, 0, none⟩)] 62) :=
  ⟨Lib.hid (h.below (below_new _ _)), Lib.hid (below_new _ _), Lib.hid (Bk.new _ _ _)⟩

set_option maxHeartbeats 1000000 in
theorem number_yes (h : Cur w g 82 A c n k l) (N : Int) (m j : Nat) (hN : N = (m : Int)) (h1 : 1 ≤ m) (h6 : m ≤ 6) (hj : k + m = j) (hle : j ≤ n) :
    Calls Try.prog 41 #[rdV g, .int .i64 N] w fun e w' => e = .returned (.int .i64 (num l k m : Nat)) ∧ Hid (Cur w' g 82 A c n j l) ∧ Hid (w.grownBy w' (some g)) := by
  subst hN hj
  obtain ⟨HC, HB, HK⟩ := rd_boxed h
  clear h
  unfold rdV
  go_enter Try.func41, Try.ntmps41
  go_upto_region 1 with fail
  generalize w.alloc (.cells #[.pointer (some ⟨g, 0, none⟩)] 62) = w0 at *
  have k0 : w0.cell? ⟨w.heap.size, 0, none⟩ = some (.pointer (some ⟨g, 0, none⟩)) := HK.out.c 0 _ rfl
  go_wp2_with fail
  refine (get_ok HC.out m h1 (by omega) (by omega)).mono ?_
  rintro e w1 ⟨rfl, hc1, hg1⟩
  have HC1 := Lib.hid hc1
  have HG1 := Lib.hid hg1
  have hv : num l k m ≤ 281474976710655 := by
    have h := num_lt l k m
    have h2 : 256 ^ m ≤ 256 ^ 6 := Nat.pow_le_pow_right (by omega) h6
    have h3 : (256 : Nat) ^ 6 = 281474976710656 := by decide
    omega
  have hvv : valB ((l.drop k).take m) = num l k m := rfl
  rw [hvv]
  clear hc1 hg1 k0 hvv
  obtain ⟨v, hve⟩ : ∃ v, v = num l k m := ⟨_, rfl⟩
  have HVE := Lib.hid hve
  rw [← hve] at hv ⊢
  clear hve
  go_wp2_with fail
  refine (must_ok w1).mono ?_
  rintro e w2 ⟨rfl, rfl⟩
  go_wp2_with fail
  go_ret
  exact ⟨by rw [← HVE.out]; rfl, HC1, Lib.hid (grown_trans (grown_of_below HB.out _) HG1.out)⟩
set_option maxHeartbeats 1000000 in
theorem number_no (h : Cur w g 82 A c n k l) (N : Int) (h1 : 1 ≤ N) (h6 : N ≤ 6) (hle : (n : Int) - k < N) :
    Calls Try.prog 41 #[rdV g, .int .i64 N] w (Bad w g 2) := by
  obtain ⟨HC, HB, HK⟩ := rd_boxed h
  clear h
  unfold rdV
  go_enter Try.func41, Try.ntmps41
  go_upto_region 1 with fail
  generalize w.alloc (.cells #[.pointer (some ⟨g, 0, none⟩)] 62) = w0 at *
  have k0 : w0.cell? ⟨w.heap.size, 0, none⟩ = some (.pointer (some ⟨g, 0, none⟩)) := HK.out.c 0 _ rfl
  go_wp2_with fail
  refine (get_short HC.out N h1 (by omega) hle).mono ?_
  rintro e w1 ⟨rfl, hb1⟩
  have HB1 := Lib.hid hb1
  clear hb1 k0
  go_wp2_with fail
  refine (must_no 2 w1 (by omega)).mono ?_
  rintro e w2 ⟨rfl, rfl⟩
  go_wp2_with fail
  exact ⟨rfl, rfl, Lib.hid (grown_of_below (HB.out.trans (HB1.out.mono HB.out.size)) _)⟩
set_option maxHeartbeats 1000000 in
theorem signed_yes (h : Cur w g 82 A c n k l) (j : Nat) (hj : k + 8 = j) (hle : j ≤ n) :
    Calls Try.prog 53 #[rdV g] w fun e w' => e = .returned (.int .i64 (sgnI (num l k 8 : Nat))) ∧ Hid (Cur w' g 82 A c n j l) ∧ Hid (w.grownBy w' (some g)) := by
  subst hj
  obtain ⟨HC, HB, HK⟩ := rd_boxed h
  clear h
  unfold rdV
  go_enter Try.func53, Try.ntmps53
  go_upto_region 1 with fail
  generalize w.alloc (.cells #[.pointer (some ⟨g, 0, none⟩)] 62) = w0 at *
  have k0 : w0.cell? ⟨w.heap.size, 0, none⟩ = some (.pointer (some ⟨g, 0, none⟩)) := HK.out.c 0 _ rfl
  go_wp2_with fail
  refine (rsigned_ok HC.out (by omega)).mono ?_
  rintro e w1 ⟨rfl, hc1, hg1⟩
  have HC1 := Lib.hid hc1
  have HG1 := Lib.hid hg1
  have hvv : valB ((l.drop k).take 8) = num l k 8 := rfl
  rw [hvv]
  clear hc1 hg1 k0 hvv
  obtain ⟨v, hve⟩ : ∃ v, v = sgnI (num l k 8 : Nat) := ⟨_, rfl⟩
  have HVE := Lib.hid hve
  rw [← hve]
  clear hve
  go_wp2_with fail
  refine (must_ok w1).mono ?_
  rintro e w2 ⟨rfl, rfl⟩
  go_wp2_with fail
  go_ret
  exact ⟨by rw [← HVE.out]; rfl, HC1, Lib.hid (grown_trans (grown_of_below HB.out _) HG1.out)⟩
set_option maxHeartbeats 1000000 in
theorem signed_no (h : Cur w g 82 A c n k l) (hle : (n : Int) - k < 8) :
    Calls Try.prog 53 #[rdV g] w (Bad w g 2) := by
  obtain ⟨HC, HB, HK⟩ := rd_boxed h
  clear h
  unfold rdV
  go_enter Try.func53, Try.ntmps53
  go_upto_region 1 with fail
  generalize w.alloc (.cells #[.pointer (some ⟨g, 0, none⟩)] 62) = w0 at *
  have k0 : w0.cell? ⟨w.heap.size, 0, none⟩ = some (.pointer (some ⟨g, 0, none⟩)) := HK.out.c 0 _ rfl
  go_wp2_with fail
  refine (rsigned_short HC.out hle).mono ?_
  rintro e w1 ⟨rfl, hb1⟩
  have HB1 := Lib.hid hb1
  clear hb1 k0
  go_wp2_with fail
  refine (must_no 2 w1 (by omega)).mono ?_
  rintro e w2 ⟨rfl, rfl⟩
  go_wp2_with fail
  exact ⟨rfl, rfl, Lib.hid (grown_of_below (HB.out.trans (HB1.out.mono HB.out.size)) _)⟩
set_option maxHeartbeats 1000000 in
theorem count_yes (h : Cur w g 82 A c n k l) (j : Nat) (hj : k + 2 = j) (hle : j ≤ n) (hm : num l k 2 ≤ 256) :
    Calls Try.prog 42 #[rdV g, .int .i64 256] w fun e w' => e = .returned (.int .i64 (num l k 2 : Nat)) ∧ Hid (Cur w' g 82 A c n j l) ∧ Hid (w.grownBy w' (some g)) := by
  obtain ⟨HC, HB, HK⟩ := rd_boxed h
  clear h
  unfold rdV
  go_enter Try.func42, Try.ntmps42
  go_upto_region 1 with fail
  generalize w.alloc (.cells #[.pointer (some ⟨g, 0, none⟩)] 62) = w0 at *
  go_wp2_with (refine wpList_load_bk ty_reader HK.out rfl rfl (.tmp 2) rfl rfl ?_)
  refine (number_yes HC.out 2 2 j rfl (by omega) (by omega) hj hle).mono ?_
  rintro e w1 ⟨rfl, HC1, HG1⟩
  obtain ⟨v, hve⟩ : ∃ v, v = num l k 2 := ⟨_, rfl⟩
  have HVE := Lib.hid hve
  rw [← hve] at hm ⊢
  clear hve
  obtain ⟨f1, f2⟩ := gt_no (a := (v : Int)) (b := 256) (by omega)
  obtain ⟨f3, f4⟩ := gtn_no (a := v) (b := 256) (by omega)
  go_wp2_with fail
  go_ret
  exact ⟨by rw [← HVE.out]; rfl, HC1, Lib.hid (grown_trans (grown_of_below HB.out _) HG1.out)⟩
set_option maxHeartbeats 1000000 in
theorem count_many (h : Cur w g 82 A c n k l) (hle : k + 2 ≤ n) (hm : 256 < num l k 2) :
    Calls Try.prog 42 #[rdV g, .int .i64 256] w (Bad w g 3) := by
  obtain ⟨HC, HB, HK⟩ := rd_boxed h
  clear h
  unfold rdV
  go_enter Try.func42, Try.ntmps42
  go_upto_region 1 with fail
  generalize w.alloc (.cells #[.pointer (some ⟨g, 0, none⟩)] 62) = w0 at *
  go_wp2_with (refine wpList_load_bk ty_reader HK.out rfl rfl (.tmp 2) rfl rfl ?_)
  refine (number_yes HC.out 2 2 (k + 2) rfl (by omega) (by omega) rfl hle).mono ?_
  rintro e w1 ⟨rfl, HC1, HG1⟩
  have hM : num l k 2 ≤ 65535 := by have := num_lt l k 2; omega
  obtain ⟨v, hve⟩ : ∃ v, v = num l k 2 := ⟨_, rfl⟩
  rw [← hve] at hm hM ⊢
  clear hve
  obtain ⟨f1, f2⟩ := gt_yes (a := (v : Int)) (b := 256) (by omega)
  obtain ⟨f3, f4⟩ := gtn_yes (a := v) (b := 256) (by omega)
  go_wp2_with fail
  exact ⟨rfl, rfl, Lib.hid (grown_trans (grown_of_below HB.out _) HG1.out)⟩
set_option maxHeartbeats 1000000 in
theorem count_short (h : Cur w g 82 A c n k l) (hle : n < k + 2) :
    Calls Try.prog 42 #[rdV g, .int .i64 256] w (Bad w g 2) := by
  obtain ⟨HC, HB, HK⟩ := rd_boxed h
  clear h
  unfold rdV
  go_enter Try.func42, Try.ntmps42
  go_upto_region 1 with fail
  generalize w.alloc (.cells #[.pointer (some ⟨g, 0, none⟩)] 62) = w0 at *
  go_wp2_with (refine wpList_load_bk ty_reader HK.out rfl rfl (.tmp 2) rfl rfl ?_)
  refine (number_no HC.out 2 (by omega) (by omega) (by omega)).mono ?_
  rintro e w1 ⟨rfl, HG1⟩
  go_wp2_with fail
  exact ⟨rfl, rfl, Lib.hid (grown_trans (grown_of_below HB.out _) HG1.out)⟩

/-- the bytes of j words more -/
theorem word_next (b : List UInt8) (k j : Nat) (h : k + 8 * j + 8 ≤ b.length) : (b.drop k).take (8 * j) ++ putB 8 (sgn (sgnI (num b (k + 8 * j) 8 : Nat))) = (b.drop k).take (8 * (j + 1)) := by
  rw [sgn_sgnI _ (num_lt b _ 8), put_num b h, seg, Nat.mul_add]
/-- what 'data' answers -/
def DataOut (w : World) (g : Nat) (A : Option Addr) (c n k : Nat) (l : List UInt8) (e : Ending) (w' : World) : Prop := Hid (w.grownBy w' (some g)) ∧
  ((k + 32 ≤ n ∧ ∃ A' c', e = .returned (.slice A' 32 c') ∧ Hid (Owns w' w.heap.size A' c' 32 ((l.drop k).take 32)) ∧ Hid (Cur w' g 82 A c n (k + 32) l)) ∨ (n < k + 32 ∧ e = .panicked (errP 2)))
set_option maxHeartbeats 2000000 in
theorem data_any (h : Cur w g 82 A c n k l) (hn : n ≤ 100000) : Calls Try.prog 52 #[rdV g] w (DataOut w g A c n k l) := by
  have HLN := Lib.hid h.len
  have HGW := Lib.hid h.lt
  obtain ⟨HC, HB, HK⟩ := rd_boxed h
  have hkn := h.le
  clear h
  unfold rdV
  go_enter Try.func52, Try.ntmps52
  go_upto_region 1 with fail
  generalize w.alloc (.cells #[.pointer (some ⟨g, 0, none⟩)] 62) = w0 at *
  go_wp2_with fail
  go_loopg [3, 4] 4 (fun gn b i wr => ∃ (j L : Nat) (A' : Option Addr) (c' : Nat), i = .int .i64 (j : Int) ∧ b = .slice A' L c' ∧ j + gn = 4 ∧ k + 8 * j ≤ n ∧ L ≤ 32 ∧ Hid (L = 8 * j) ∧ Hid (Owns wr (w.heap.size + 1) A' c' L ((l.drop k).take (8 * j))) ∧ Hid (Cur wr g 82 A c n (k + 8 * j) l) ∧ Hid (w0.grownBy wr (some g)))
  case atStart => exact ⟨0, 0, none, 0, rfl, rfl, by omega, by omega, by omega, Lib.hid rfl, Lib.hid (show Owns w0 _ none 0 0 ((l.drop k).take (8 * 0)) from by simp only [Nat.mul_zero, List.take_zero]; exact World.ownsRow_nil _ _ _ _), HC, Lib.hid ⟨rfl, rfl, rfl, Nat.le_refl _, fun _ _ _ => rfl⟩⟩
  case round =>
    obtain ⟨j, L, A', c', rfl, rfl, hog, hkj, hL, HL, HO, HC, HG⟩ := hrel
    rcases Nat.lt_or_ge j 4 with hlt | hge
    · have hdj : decide (j < 4) = true := decide_eq_true hlt
      have hdi : decide ((j : Int) < 4) = true := decide_eq_true (by omega)
      have HK1 := Lib.hid (HK.out.far HG.out (fun e => by have := HGW.out; injection e with e; omega))
      rcases Nat.lt_or_ge n (k + 8 * j + 8) with hs | hs
      · go_wp2_with (refine wpList_load_bk ty_reader HK1.out rfl rfl (.tmp 1) rfl rfl ?_)
        refine (signed_no HC.out (by omega)).mono ?_
        rintro e w2 ⟨rfl, HG2⟩
        go_wp2_with fail
        exact ⟨rfl, Lib.hid (grown_trans (grown_trans (grown_of_below HB.out _) HG.out) HG2.out), .inr ⟨by omega, rfl⟩⟩
      · go_wp2_with (refine wpList_load_bk ty_reader HK1.out rfl rfl (.tmp 1) rfl rfl ?_)
        refine (signed_yes HC.out (k + 8 * j + 8) rfl hs).mono ?_
        rintro e w2 ⟨rfl, HC2, HG2⟩
        obtain ⟨v, hve⟩ : ∃ v, v = sgnI (num l (k + 8 * j) 8 : Nat) := ⟨_, rfl⟩
        have HO2 := Lib.hid (HO.out.far (by have := HGW.out; omega) HG2.out)
        have HW : Hid ((l.drop k).take (8 * j) ++ putB 8 (sgn v) = (l.drop k).take (8 * (j + 1))) := Lib.hid (by rw [hve]; exact word_next l k j (by have := HLN.out; omega))
        rw [← hve]
        clear hve HO HC
        go_wp2_with fail
        refine (signed_any A' c' L _ (Lib.hid HO2.out.len) v w2 HO2.out.read (by omega)).mono ?_
        rintro e w3 ⟨A3, c3, rfl, ho3, hb3⟩
        have HG3 := Lib.hid (grown_trans HG2.out (grown_of_below hb3 (some g)))
        have HC3 := Lib.hid (HC2.out.below hb3)
        have HO3 := Lib.hid (ho3.base_le (show w.heap.size + 1 ≤ w2.heap.size by
          have h1 := HG2.out.size
          have h2 := HG.out.size
          have h3 := HK.out.lt
          omega))
        clear ho3 hb3 HG2 HC2 HO2
        go_wp2_with fail
        go_roundg (gk - 1)
        case measure => omega
        case rel => exact ⟨j + 1, L + 8, A3, c3, by go_num, rfl, by omega, by omega, by have := HL.out; omega, Lib.hid (by have := HL.out; omega), Lib.hid (by rw [← HW.out]; exact HO3.out), Lib.hid (by rw [show k + 8 * (j + 1) = k + 8 * j + 8 by omega]; exact HC3.out), Lib.hid (grown_trans HG.out HG3.out)⟩
    · obtain rfl : j = 4 := by omega
      have hL4 : L = 32 := HL.out
      subst hL4
      have hd4 : decide (((4 : Nat) : Int) < 4) = false := by decide
      have hd6 : decide ((4 : Int) < 4) = false := by decide
      have hd5 : decide (4 < 4) = false := by decide
      go_wp2_with fail
      go_ret
      exact ⟨Lib.hid (grown_trans (grown_of_below HB.out _) HG.out), .inl ⟨hkj, A', c', rfl, Lib.hid (HO.out.base_le (by omega)), HC⟩⟩

/-- a new image's variable ahead of the reader's call -/
theorem results_bk1 {fn : Func} {p : Tmp} {m q : Nat} {cs : Array Value} {t ty : TypeId} (hT : STy ty m) (hf : fn.results = #[.cell p ty]) (tmps : Array Value) (hp : tmps.getD p undef = .pointer (some ⟨q, 0, none⟩)) (h : Bk w q cs t) (hc : cs.size = m) : (results fn tmps).run Try.prog w = .ok (.agg cs) w := by
  have hp' : tmps[p]?.getD undef = .pointer (some ⟨q, 0, none⟩) := by simpa using hp
  rw [results_cell_one hf]
  simp [hp', asAddr, Bk.load hT h hc]
end
end Go.Proofs.Ytjpnihmijnpjcaa
