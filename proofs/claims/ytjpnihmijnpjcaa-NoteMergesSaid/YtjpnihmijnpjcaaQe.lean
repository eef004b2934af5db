/-
  The program's reader of a note: an image, an op.
-/
import Derived.Test.YtjpnihmijnpjcaaQd
namespace Go.Proofs.Ytjpnihmijnpjcaa
set_option maxRecDepth 100000
set_option linter.unusedVariables false
set_option linter.unusedSimpArgs false
open Go.RowKit Wm Nn

theorem ty_op : STy 53 2 := ⟨⟨_, Try.underlying53⟩, by kernel_rfl⟩
def opC (c b : Int) : Array Value := #[.int .i64 c, .int .i64 b]
theorem opC_one (c b : Int) : (opC c b).all (·.oneCell') = true := by unfold opC; simp [Value.oneCell']

section
variable {w : World} {g c n k : Nat} {A : Option Addr} {l : List UInt8}
/-- the reader's struct, boxed, and a struct's variable behind it -/
theorem rd_boxed2 (h : Cur w g 82 A c n k l) (cs : Array Value) (t : TypeId) :
    Hid (Cur ((w.alloc (.cells #[.pointer (some ⟨g, 0, none⟩)] 62)).alloc (.cells cs t)) g 82 A c n k l) ∧ Hid (Below w.heap.size w ((w.alloc (.cells #[.pointer (some ⟨g, 0, none⟩)] 62)).alloc (.cells cs t))) ∧
    Hid (Bk ((w.alloc (.cells #[.pointer (some ⟨g, 0, none⟩)] 62)).alloc (.cells cs t)) w.heap.size #[.pointer (some ⟨g, 0, none⟩)] 62) ∧ Hid (Bk ((w.alloc (.cells #[.pointer (some ⟨g, 0, none⟩)] 62)).alloc (.cells cs t)) (w.heap.size + 1) cs t) := by
  have hb := below_two (below_new w (.cells #[.pointer (some ⟨g, 0, none⟩)] 62)) (below_new _ (.cells cs t))
  have h2 := Bk.new (w.alloc (.cells #[.pointer (some ⟨g, 0, none⟩)] 62)) cs t
  have hz : (w.alloc (.cells #[.pointer (some ⟨g, 0, none⟩)] 62)).heap.size = w.heap.size + 1 := by simp
  rw [hz] at h2
  exact ⟨Lib.hid (h.below hb), Lib.hid hb, Lib.hid ((Bk.new w _ _).al _), Lib.hid h2⟩

theorem grown_new {w2 w3 : World} {z : Nat} (h : w.grownBy w2 (some g)) (hg : w2.grownBy w3 (some z)) (hz : w.heap.size ≤ z) : w.grownBy w3 (some g) :=
  ⟨hg.os.trans h.os, hg.tape.trans h.tape, hg.output.trans h.output, Nat.le_trans h.size hg.size, fun i hi hr => (hg.block i (Nat.lt_of_lt_of_le hi h.size) (fun e => by injection e with e; omega)).trans (h.block i hi hr)⟩

/-- an image told -/
def ImageOut (w : World) (g : Nat) (A : Option Addr) (c n k : Nat) (l : List UInt8) (e : Ending) (w' : World) : Prop := Hid (w.grownBy w' (some g)) ∧
  ∃ b' c', e = .returned (imV (num l k 1 : Nat) (some ⟨b', 0, none⟩) 32 c') ∧ Hid (Lies w' (some ⟨b', 0, none⟩) c' 32 ((l.drop (k + 1)).take 32)) ∧ Hid (w.heap.size ≤ b' ∧ b' < w'.heap.size) ∧ Hid (Cur w' g 82 A c n (k + 33) l)
set_option maxHeartbeats 2000000 in
theorem image_yes (h : Cur w g 82 A c n k l) (hn : n ≤ 100000) (hle : k + 33 ≤ n) : Calls Try.prog 43 #[rdV g] w (ImageOut w g A c n k l) := by
  have HGW := Lib.hid h.lt
  obtain ⟨HC, HB, HK, HV⟩ := rd_boxed2 h (imC 0 none 0 0) 51
  clear h
  unfold rdV
  go_enter Try.func43, Try.ntmps43
  go_upto_region 1 with fail
  have hC : (#[.int .i64 0, .slice none 0 0] : Array Value) = imC 0 none 0 0 := rfl
  rw [hC]
  clear hC
  generalize (w.alloc (.cells #[.pointer (some ⟨g, 0, none⟩)] 62)).alloc (.cells (imC 0 none 0 0) 51) = w0 at *
  have HS0 := Lib.hid HV.out.lt
  go_wp2_with (refine wpList_load_bk ty_reader HK.out rfl rfl (.tmp 1) rfl rfl ?_)
  refine (number_yes HC.out 1 1 (k + 1) rfl (by omega) (by omega) rfl (by omega)).mono ?_
  rintro e w1 ⟨rfl, HC1, HG1⟩
  have HK1 := Lib.hid (HK.out.far HG1.out (fun e => by have := HGW.out; injection e with e; omega))
  have HV1 := Lib.hid (HV.out.far HG1.out (fun e => by have := HGW.out; injection e with e; omega))
  obtain ⟨v, hve⟩ : ∃ v, v = num l k 1 := ⟨_, rfl⟩
  have HVE := Lib.hid hve
  rw [← hve]
  clear hve HK HV HC
  go_wp2_with (refine wpList_load_bk ty_reader HK1.out rfl rfl (.tmp 1) rfl rfl ?_)
  refine (data_any HC1.out hn).mono ?_
  rintro e w2 ⟨HG2, ⟨h32, A', c', rfl, HO2, HC2⟩ | ⟨h32, rfl⟩⟩
  rotate_left
  · omega
  have HV2 := Lib.hid (HV1.out.far HG2.out (fun e => by have := HGW.out; injection e with e; omega))
  obtain ⟨b', HAB⟩ : ∃ b', Hid (A' = some ⟨b', 0, none⟩) := by
    have h := HO2.out.2
    rcases h with ⟨_, h2⟩ | ⟨q, c, cur, e, _⟩
    · exact absurd h2 (by decide)
    · injection e with e _ _
      exact ⟨q, Lib.hid e⟩
  have HBB : Hid (w1.heap.size ≤ b' ∧ b' < w2.heap.size) := Lib.hid (HO2.out.block ⟨b', 0, none⟩ HAB.out)
  have HL2 := Lib.hid HO2.out.lies
  obtain rfl := HAB.out
  clear HO2 HV1 HAB
  have HS01 := Lib.hid (show w.heap.size + 1 < w1.heap.size by have h0 := HS0.out; have h1 := HG1.out.size; omega)
  go_wp2_with (refine wpList_store_bk ty_im HV2.out rfl rfl (.tmp 2) (.tmp 9) rfl rfl (imC (v : Int) (some ⟨b', 0, none⟩) 32 c') rfl rfl (imC_one _ _ _ _) ?_; intro w3 hk3 hg3)
  have hs3 : Turn (fun q => q = w.heap.size + 1) w2 w3 := turn_one hg3
  refine bodyPost_ret (results_bk1 ty_im rfl _ rfl hk3 rfl) rfl ?_
  have h1 := HS01.out
  have h2 := HBB.out
  refine ⟨Lib.hid (grown_new (grown_trans (grown_of_below HB.out _) (grown_trans HG1.out HG2.out)) hg3 (by omega)), b', c', by rw [← HVE.out]; rfl, Lib.hid (HL2.out.turn hs3 (fun b o e he => ?_)), Lib.hid ⟨by omega, by have := hg3.size; omega⟩, Lib.hid ?_⟩
  · injection e with e
    injection e with e _
    omega
  · have hc := HC2.out.keep hg3 (by have := HGW.out; omega)
    rw [show k + 33 = k + 1 + 32 by omega]
    exact hc
set_option maxHeartbeats 2000000 in
theorem image_no (h : Cur w g 82 A c n k l) (hn : n ≤ 100000) (hle : n < k + 33) : Calls Try.prog 43 #[rdV g] w (Bad w g 2) := by
  have HGW := Lib.hid h.lt
  obtain ⟨HC, HB, HK, HV⟩ := rd_boxed2 h (imC 0 none 0 0) 51
  clear h
  unfold rdV
  go_enter Try.func43, Try.ntmps43
  go_upto_region 1 with fail
  have hC : (#[.int .i64 0, .slice none 0 0] : Array Value) = imC 0 none 0 0 := rfl
  rw [hC]
  clear hC
  generalize (w.alloc (.cells #[.pointer (some ⟨g, 0, none⟩)] 62)).alloc (.cells (imC 0 none 0 0) 51) = w0 at *
  rcases Nat.lt_or_ge n (k + 1) with h1 | h1
  · go_wp2_with (refine wpList_load_bk ty_reader HK.out rfl rfl (.tmp 1) rfl rfl ?_)
    refine (number_no HC.out 1 (by omega) (by omega) (by omega)).mono ?_
    rintro e w1 ⟨rfl, HG1⟩
    go_wp2_with fail
    exact ⟨rfl, rfl, Lib.hid (grown_trans (grown_of_below HB.out _) HG1.out)⟩
  · go_wp2_with (refine wpList_load_bk ty_reader HK.out rfl rfl (.tmp 1) rfl rfl ?_)
    refine (number_yes HC.out 1 1 (k + 1) rfl (by omega) (by omega) rfl (by omega)).mono ?_
    rintro e w1 ⟨rfl, HC1, HG1⟩
    have HK1 := Lib.hid (HK.out.far HG1.out (fun e => by have := HGW.out; injection e with e; omega))
    obtain ⟨v, hve⟩ : ∃ v, v = num l k 1 := ⟨_, rfl⟩
    rw [← hve]
    clear hve HK HV HC
    go_wp2_with (refine wpList_load_bk ty_reader HK1.out rfl rfl (.tmp 1) rfl rfl ?_)
    refine (data_any HC1.out hn).mono ?_
    rintro e w2 ⟨HG2, ⟨h32, A', c', rfl, HO2, HC2⟩ | ⟨h32, rfl⟩⟩
    · omega
    · go_wp2_with fail
      exact ⟨rfl, rfl, Lib.hid (grown_trans (grown_of_below HB.out _) (grown_trans HG1.out HG2.out))⟩

/-- an op told -/
def OpOut (w : World) (g : Nat) (A : Option Addr) (c n k : Nat) (l : List UInt8) (e : Ending) (w' : World) : Prop := Hid (w.grownBy w' (some g)) ∧
  e = .returned (.agg (opC (num l k 1 : Nat) (sgnI (num l (k + 1) 8 : Nat)))) ∧ Hid (Cur w' g 82 A c n (k + 9) l)
set_option maxHeartbeats 2000000 in
theorem op_yes (h : Cur w g 82 A c n k l) (hle : k + 9 ≤ n) : Calls Try.prog 44 #[rdV g] w (OpOut w g A c n k l) := by
  have HGW := Lib.hid h.lt
  obtain ⟨HC, HB, HK, HV⟩ := rd_boxed2 h (opC 0 0) 53
  clear h
  unfold rdV
  go_enter Try.func44, Try.ntmps44
  go_upto_region 1 with fail
  have hC : (#[.int .i64 0, .int .i64 0] : Array Value) = opC 0 0 := rfl
  rw [hC]
  clear hC
  generalize (w.alloc (.cells #[.pointer (some ⟨g, 0, none⟩)] 62)).alloc (.cells (opC 0 0) 53) = w0 at *
  have HS0 := Lib.hid HV.out.lt
  go_wp2_with (refine wpList_load_bk ty_reader HK.out rfl rfl (.tmp 1) rfl rfl ?_)
  refine (number_yes HC.out 1 1 (k + 1) rfl (by omega) (by omega) rfl (by omega)).mono ?_
  rintro e w1 ⟨rfl, HC1, HG1⟩
  have HK1 := Lib.hid (HK.out.far HG1.out (fun e => by have := HGW.out; injection e with e; omega))
  have HV1 := Lib.hid (HV.out.far HG1.out (fun e => by have := HGW.out; injection e with e; omega))
  obtain ⟨v, hve⟩ : ∃ v, v = num l k 1 := ⟨_, rfl⟩
  have HVE := Lib.hid hve
  rw [← hve]
  clear hve HK HV HC
  go_wp2_with (refine wpList_load_bk ty_reader HK1.out rfl rfl (.tmp 1) rfl rfl ?_)
  refine (signed_yes HC1.out (k + 9) (by omega) hle).mono ?_
  rintro e w2 ⟨rfl, HC2, HG2⟩
  have HV2 := Lib.hid (HV1.out.far HG2.out (fun e => by have := HGW.out; injection e with e; omega))
  obtain ⟨u, hue⟩ : ∃ u, u = sgnI (num l (k + 1) 8 : Nat) := ⟨_, rfl⟩
  have HUE := Lib.hid hue
  rw [← hue]
  clear hue HV1
  go_wp2_with (refine wpList_store_bk ty_op HV2.out rfl rfl (.tmp 2) (.tmp 9) rfl rfl (opC (v : Int) u) rfl rfl (opC_one _ _) ?_; intro w3 hk3 hg3)
  refine bodyPost_ret (results_bk1 ty_op rfl _ rfl hk3 rfl) rfl ?_
  have h0 := HS0.out
  have h1 := HG1.out.size
  refine ⟨Lib.hid (grown_new (grown_trans (grown_of_below HB.out _) (grown_trans HG1.out HG2.out)) hg3 (by omega)), by rw [← HVE.out, ← HUE.out], Lib.hid (HC2.out.keep hg3 (by have := HGW.out; omega))⟩
set_option maxHeartbeats 2000000 in
theorem op_no (h : Cur w g 82 A c n k l) (hle : n < k + 9) : Calls Try.prog 44 #[rdV g] w (Bad w g 2) := by
  have HGW := Lib.hid h.lt
  obtain ⟨HC, HB, HK, HV⟩ := rd_boxed2 h (opC 0 0) 53
  clear h
  unfold rdV
  go_enter Try.func44, Try.ntmps44
  go_upto_region 1 with fail
  have hC : (#[.int .i64 0, .int .i64 0] : Array Value) = opC 0 0 := rfl
  rw [hC]
  clear hC
  generalize (w.alloc (.cells #[.pointer (some ⟨g, 0, none⟩)] 62)).alloc (.cells (opC 0 0) 53) = w0 at *
  rcases Nat.lt_or_ge n (k + 1) with h1 | h1
  · go_wp2_with (refine wpList_load_bk ty_reader HK.out rfl rfl (.tmp 1) rfl rfl ?_)
    refine (number_no HC.out 1 (by omega) (by omega) (by omega)).mono ?_
    rintro e w1 ⟨rfl, HG1⟩
    go_wp2_with fail
    exact ⟨rfl, rfl, Lib.hid (grown_trans (grown_of_below HB.out _) HG1.out)⟩
  · go_wp2_with (refine wpList_load_bk ty_reader HK.out rfl rfl (.tmp 1) rfl rfl ?_)
    refine (number_yes HC.out 1 1 (k + 1) rfl (by omega) (by omega) rfl (by omega)).mono ?_
    rintro e w1 ⟨rfl, HC1, HG1⟩
    have HK1 := Lib.hid (HK.out.far HG1.out (fun e => by have := HGW.out; injection e with e; omega))
    obtain ⟨v, hve⟩ : ∃ v, v = num l k 1 := ⟨_, rfl⟩
    rw [← hve]
    clear hve HK HV HC
    go_wp2_with (refine wpList_load_bk ty_reader HK1.out rfl rfl (.tmp 1) rfl rfl ?_)
    refine (signed_no HC1.out (by omega)).mono ?_
    rintro e w2 ⟨rfl, HG2⟩
    go_wp2_with fail
    exact ⟨rfl, rfl, Lib.hid (grown_trans (grown_of_below HB.out _) (grown_trans HG1.out HG2.out))⟩
end

set_option maxHeartbeats 400000 in
theorem rleft_any {w : World} {r cap n k : Nat} {A : Option Addr} {l : List UInt8} (h : Cur w r 82 A cap n k l) :
    Calls Try.prog 54 #[.pointer (some ⟨r, 0, none⟩)] w fun e w' => e = .returned (.int .i64 ((n : Int) - (k : Int))) ∧ Below w.heap.size w w' := by
  go_enter Try.func54, Try.ntmps54
  go_wp2_with fail
  refine (here_any h).mono ?_
  rintro e w1 ⟨rfl, hb1⟩
  go_wp2_with fail
  refine (left_any (h.copy hb1 _)).mono ?_
  rintro e w2 ⟨rfl, q, rfl⟩
  go_wp2_with fail
  go_ret
  exact ⟨rfl, below_drewN (hb1.alloc hb1.size _) _⟩
set_option maxHeartbeats 400000 in
theorem rend_more {w : World} {r cap n k : Nat} {A : Option Addr} {l : List UInt8} (h : Cur w r 82 A cap n k l) (hk : k < n) :
    Calls Try.prog 46 #[.pointer (some ⟨r, 0, none⟩)] w fun e w' => e = .returned (.int .i64 3) ∧ Below w.heap.size w w' := by
  go_enter Try.func46, Try.ntmps46
  go_wp2_with (go_at_call 54; refine (rleft_any h).mono ?_; rintro e w2 ⟨rfl, hb⟩)
  go_ret
  exact ⟨rfl, hb⟩
set_option maxHeartbeats 400000 in
theorem rend_done {w : World} {r cap n k : Nat} {A : Option Addr} {l : List UInt8} (h : Cur w r 82 A cap n k l) (hk : n ≤ k) :
    Calls Try.prog 46 #[.pointer (some ⟨r, 0, none⟩)] w fun e w' => e = .returned (.int .i64 0) ∧ Below w.heap.size w w' := by
  go_enter Try.func46, Try.ntmps46
  go_wp2_with (go_at_call 54; refine (rleft_any h).mono ?_; rintro e w2 ⟨rfl, hb⟩)
  go_ret
  exact ⟨rfl, hb⟩

/-- a slice's variable, read -/
theorem load_slice {ty e : TypeId} {W : World} {p : Addr} {v : Value} (hu : Try.prog.underlying ty = some (.slice e)) (h : W.cell? p = some v) : (loadVar ty p).run Try.prog W = .ok v W := by
  have ha : (isAgg ty).run Try.prog W = .ok false W := by simp [isAgg, run_underlying hu]
  simp [loadVar, ha, go_sem, h]
theorem wp_build_op {W : World} {o : Oper} {a : Act} {K : Act → World → Prop} {Q : Exit → Act → World → Prop} (x : Operand) (ho : o.op = .buildSlice 23 1 #[(0, x)]) (c b : Int) (hx : a.eval x = .agg (opC c b))
    (h : ∀ w' h', W.heap.size ≤ h' → h' < w'.heap.size → RO.At w' (some ⟨h', 0, none⟩) [⟨c, b⟩] → Below W.heap.size W w' → K (a.put o.dst (.slice (some ⟨h', 0, none⟩) 1 1)) w') : o.wp Try.prog a W K Q := by
  have hx' : a.eval x = .agg #[.int .i64 c, .int .i64 b] := hx
  unfold Oper.wp execOp
  simp only [ho, List.map_toArray, List.map_cons, List.map_nil, hx']
  go_simp
  exact h _ _ (Nat.le_refl _) (by simp) (Rk.At.new ro_ok W ⟨c, b⟩ 53) (below_new W _)
end Go.Proofs.Ytjpnihmijnpjcaa
