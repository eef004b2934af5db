/-
  WalPlays: a deed of Budget, of none, of Crash.
-/
import Derived.Test.YtdjfahnnfhediaaGreatPlays7A
namespace Go.Proofs.YtdjfahnnfhediaaGreat
set_option maxRecDepth 100000
open Go.RowKit Crc Wm

theorem wdo_budget {w W : World} {z p L M m a b c q x : Nat} {D : Dv} {G : Lg} {s : Sl} (h : Wd w W z p L M m a b c q x D D G G s) (o : Deed) (A K : Option Addr) (ca ck : Nat) (F S : Int) (hsp : D.spent ≤ 100000) (h5 : (o.what == 5) = true) :
    Calls Tryz.prog 9 #[ptr z, .agg #[.int .i64 o.what, .int .i64 o.N, .int .u8 (o.c.toNat : Int), .int .i64 o.up, .slice A o.b.length ca, .slice K o.kn ck], .int .i64 F, .int .i64 S] W (WDoOut w z p L M m a b c D s.E) := by
  obtain ⟨k, hk, hkb⟩ := low o.N 255 8 (by decide) (by omega)
  have hk' : k ≤ 255 := by have : k < 256 := hk; omega
  have HOUT : Hid (∀ V, (∃ q x D' G s', Wd w V z p L M m a b c q x D' D' G G s' ∧ D'.spent ≤ D.spent + 100 ∧ s.E ≤ s'.E ∧ s'.E ≤ s.E + 3) → WDoOut w z p L M m a b c D s.E (.returned (.bool true)) V) := fun V hV => ⟨rfl, hV⟩
  have HW1 : Hid (Wd w (W.alloc (.cells #[.int .i64 o.what, .int .i64 o.N, .int .u8 (o.c.toNat : Int), .int .i64 o.up, .slice A o.b.length ca, .slice K o.kn ck] 44)) z p L M m a b c q x D D G G s) := h.below (below_new W _)
  have HO1 : Hid (OAt (W.alloc (.cells #[.int .i64 o.what, .int .i64 o.N, .int .u8 (o.c.toNat : Int), .int .i64 o.up, .slice A o.b.length ca, .slice K o.kn ck] 44)) W.heap.size o A ca K ck) := heap_alloc_new W _
  have HG : Hid (¬ WS z p L M m a b q x W.heap.size) := h.notNew
  have HSP := Lib.hid hsp
  clear h hk hsp
  go_enter Tryz.func9, Tryz.ntmps9
  go_upto_region 1 with fail
  generalize W.alloc (.cells #[.int .i64 o.what, .int .i64 o.N, .int .u8 (o.c.toNat : Int), .int .i64 o.up, .slice A o.b.length ca, .slice K o.kn ck] 44) = W1 at *
  generalize W.heap.size = g at *
  have o0 := HO1.out.c0
  have o1 := HO1.out.c1
  obtain ⟨k2, hk2, hk2b⟩ := low (k : Int) 15 4 (by decide) (by omega)
  have hk2' : k2 < 1000 := by have : k2 < 16 := hk2; omega
  have z0 := HW1.out.c0
  clear hk2
  generalize o.what = wh at *
  generalize o.N = oN at *
  go_wp2_with fail
  refine (HW1.out.budget k2 hk2').mono ?_
  rintro e W2 ⟨rfl, h2, _⟩
  have HW2 := Lib.hid h2
  have z1 := HW2.out.c1
  clear h2 z0 HW1
  go_wp2_with fail
  refine (HW2.out.rbudget k2 hk2').mono ?_
  rintro e W3 ⟨rfl, h3, _⟩
  have HW3 := Lib.hid h3
  clear h3 z1 HW2
  go_wp2_with fail
  go_ret
  exact HOUT.out _ ⟨_, _, _, _, _, HW3.out, Nat.le_add_right _ _, Int.le_refl _, by omega⟩

theorem wdo_shut {w W : World} {z p L M m a b c q x : Nat} {D : Dv} {G : Lg} {s : Sl} (h : Wd w W z p L M m a b c q x D D G G s) (o : Deed) (A K : Option Addr) (ca ck : Nat) (F S : Int) (hsp : D.spent ≤ 100000) (h5 : (o.what == 5) = false) (h6 : (o.what == 6) = false) (h7 : (o.what == 7) = false) (he : s.e ≠ 0) :
    Calls Tryz.prog 9 #[ptr z, .agg #[.int .i64 o.what, .int .i64 o.N, .int .u8 (o.c.toNat : Int), .int .i64 o.up, .slice A o.b.length ca, .slice K o.kn ck], .int .i64 F, .int .i64 S] W (WDoOut w z p L M m a b c D s.E) := by
  obtain ⟨k, hk, hkb⟩ := low o.N 255 8 (by decide) (by omega)
  have hk' : k ≤ 255 := by have : k < 256 := hk; omega
  have HOUT : Hid (∀ V, (∃ q x D' G s', Wd w V z p L M m a b c q x D' D' G G s' ∧ D'.spent ≤ D.spent + 100 ∧ s.E ≤ s'.E ∧ s'.E ≤ s.E + 3) → WDoOut w z p L M m a b c D s.E (.returned (.bool true)) V) := fun V hV => ⟨rfl, hV⟩
  have HW1 : Hid (Wd w (W.alloc (.cells #[.int .i64 o.what, .int .i64 o.N, .int .u8 (o.c.toNat : Int), .int .i64 o.up, .slice A o.b.length ca, .slice K o.kn ck] 44)) z p L M m a b c q x D D G G s) := h.below (below_new W _)
  have HO1 : Hid (OAt (W.alloc (.cells #[.int .i64 o.what, .int .i64 o.N, .int .u8 (o.c.toNat : Int), .int .i64 o.up, .slice A o.b.length ca, .slice K o.kn ck] 44)) W.heap.size o A ca K ck) := heap_alloc_new W _
  have HG : Hid (¬ WS z p L M m a b q x W.heap.size) := h.notNew
  have HSP := Lib.hid hsp
  clear h hk hsp
  go_enter Tryz.func9, Tryz.ntmps9
  go_upto_region 1 with fail
  generalize W.alloc (.cells #[.int .i64 o.what, .int .i64 o.N, .int .u8 (o.c.toNat : Int), .int .i64 o.up, .slice A o.b.length ca, .slice K o.kn ck] 44) = W1 at *
  generalize W.heap.size = g at *
  have o0 := HO1.out.c0
  have o1 := HO1.out.c1
  have z6 := HW1.out.c6
  have hne : (s.e != 0) = true := by rw [bne_iff_ne]; exact he
  clear he
  generalize o.what = wh at *
  generalize o.N = oN at *
  generalize hse : s.e = se at *
  clear hse
  go_wp2_with fail
  go_ret
  exact HOUT.out _ ⟨_, _, _, _, _, HW1.out, Nat.le_add_right _ _, Int.le_refl _, by omega⟩

theorem wdo_none {w W : World} {z p L M m a b c q x : Nat} {D : Dv} {G : Lg} {s : Sl} (h : Wd w W z p L M m a b c q x D D G G s) (o : Deed) (A K : Option Addr) (ca ck : Nat) (F S : Int) (hsp : D.spent ≤ 100000) (h5 : (o.what == 5) = false) (h6 : (o.what == 6) = false) (h7 : (o.what == 7) = false) (he : s.e = 0) (hr : o.what < 0 ∨ 2 < o.what) (h3 : (o.what == 3) = false) (h4 : (o.what == 4) = false) :
    Calls Tryz.prog 9 #[ptr z, .agg #[.int .i64 o.what, .int .i64 o.N, .int .u8 (o.c.toNat : Int), .int .i64 o.up, .slice A o.b.length ca, .slice K o.kn ck], .int .i64 F, .int .i64 S] W (WDoOut w z p L M m a b c D s.E) := by
  obtain ⟨k, hk, hkb⟩ := low o.N 255 8 (by decide) (by omega)
  have hk' : k ≤ 255 := by have : k < 256 := hk; omega
  have HOUT : Hid (∀ V, (∃ q x D' G s', Wd w V z p L M m a b c q x D' D' G G s' ∧ D'.spent ≤ D.spent + 100 ∧ s.E ≤ s'.E ∧ s'.E ≤ s.E + 3) → WDoOut w z p L M m a b c D s.E (.returned (.bool true)) V) := fun V hV => ⟨rfl, hV⟩
  have HW1 : Hid (Wd w (W.alloc (.cells #[.int .i64 o.what, .int .i64 o.N, .int .u8 (o.c.toNat : Int), .int .i64 o.up, .slice A o.b.length ca, .slice K o.kn ck] 44)) z p L M m a b c q x D D G G s) := h.below (below_new W _)
  have HO1 : Hid (OAt (W.alloc (.cells #[.int .i64 o.what, .int .i64 o.N, .int .u8 (o.c.toNat : Int), .int .i64 o.up, .slice A o.b.length ca, .slice K o.kn ck] 44)) W.heap.size o A ca K ck) := heap_alloc_new W _
  have HG : Hid (¬ WS z p L M m a b q x W.heap.size) := h.notNew
  have HSP := Lib.hid hsp
  clear h hk hsp
  go_enter Tryz.func9, Tryz.ntmps9
  go_upto_region 1 with fail
  generalize W.alloc (.cells #[.int .i64 o.what, .int .i64 o.N, .int .u8 (o.c.toNat : Int), .int .i64 o.up, .slice A o.b.length ca, .slice K o.kn ck] 44) = W1 at *
  generalize W.heap.size = g at *
  have o0 := HO1.out.c0
  have o1 := HO1.out.c1
  have z6 := HW1.out.c6
  have hne : (s.e != 0) = false := by rw [he]; rfl
  clear he
  generalize o.what = wh at *
  generalize o.N = oN at *
  generalize hse : s.e = se at *
  clear hse
  by_cases h0 : wh < 0
  · have d0 : decide (0 ≤ wh) = false := decide_eq_false (by omega)
    have d0' : decide (wh ≥ 0) = false := decide_eq_false (by omega)
    clear hr h0
    go_wp2_with fail
    go_ret
    exact HOUT.out _ ⟨_, _, _, _, _, HW1.out, Nat.le_add_right _ _, Int.le_refl _, by omega⟩
  · have d0 : decide (0 ≤ wh) = true := decide_eq_true (by omega)
    have d0' : decide (wh ≥ 0) = true := decide_eq_true (by omega)
    have d2 : decide (wh ≤ 2) = false := decide_eq_false (by omega)
    clear hr h0
    go_wp2_with fail
    go_ret
    exact HOUT.out _ ⟨_, _, _, _, _, HW1.out, Nat.le_add_right _ _, Int.le_refl _, by omega⟩

end Go.Proofs.YtdjfahnnfhediaaGreat

namespace Go.Proofs.YtdjfahnnfhediaaGreat
set_option maxRecDepth 100000
open Go.RowKit Crc Wm

theorem wdo_crash {w W : World} {z p L M m a b c q x : Nat} {D : Dv} {G : Lg} {s : Sl} (h : Wd w W z p L M m a b c q x D D G G s) (o : Deed) (A K : Option Addr) (ca ck : Nat) (F S : Int) (hsp : D.spent ≤ 100000) (h5 : (o.what == 5) = false) (h6 : (o.what == 6) = true) (hK : BoolsAt w K o.kn o.keep) (hE : 0 ≤ s.E ∧ s.E ≤ 1000000) :
    Calls Tryz.prog 9 #[ptr z, .agg #[.int .i64 o.what, .int .i64 o.N, .int .u8 (o.c.toNat : Int), .int .i64 o.up, .slice A o.b.length ca, .slice K o.kn ck], .int .i64 F, .int .i64 S] W (WDoOut w z p L M m a b c D s.E) := by
  obtain ⟨k, hk, hkb⟩ := low o.N 255 8 (by decide) (by omega)
  have hk' : k ≤ 255 := by have : k < 256 := hk; omega
  have HOUT : Hid (∀ V, (∃ q x D' G s', Wd w V z p L M m a b c q x D' D' G G s' ∧ D'.spent ≤ D.spent + 100 ∧ s.E ≤ s'.E ∧ s'.E ≤ s.E + 3) → WDoOut w z p L M m a b c D s.E (.returned (.bool true)) V) := fun V hV => ⟨rfl, hV⟩
  have HW1 : Hid (Wd w (W.alloc (.cells #[.int .i64 o.what, .int .i64 o.N, .int .u8 (o.c.toNat : Int), .int .i64 o.up, .slice A o.b.length ca, .slice K o.kn ck] 44)) z p L M m a b c q x D D G G s) := h.below (below_new W _)
  have HO1 : Hid (OAt (W.alloc (.cells #[.int .i64 o.what, .int .i64 o.N, .int .u8 (o.c.toNat : Int), .int .i64 o.up, .slice A o.b.length ca, .slice K o.kn ck] 44)) W.heap.size o A ca K ck) := heap_alloc_new W _
  have HG : Hid (¬ WS z p L M m a b q x W.heap.size) := h.notNew
  have HSP := Lib.hid hsp
  clear h hk hsp
  go_enter Tryz.func9, Tryz.ntmps9
  go_upto_region 1 with fail
  generalize W.alloc (.cells #[.int .i64 o.what, .int .i64 o.N, .int .u8 (o.c.toNat : Int), .int .i64 o.up, .slice A o.b.length ca, .slice K o.kn ck] 44) = W1 at *
  generalize W.heap.size = g at *
  have o0 := HO1.out.c0
  have o1 := HO1.out.c1
  obtain ⟨u, hu, hub⟩ := low o.up 3 2 (by decide) (by omega)
  have hu' : u ≤ 3 := by have : u < 4 := hu; omega
  have HK := Lib.hid hK
  clear hu hK
  have HC1 := Lib.hid (fun (V : World) (hV : Below W1.heap.size W1 V) => (HW1.out.below hV).crash (by have := HSP.out; omega) ck HK.out)
  generalize hwh : o.what = wh at *
  have v0 : ∀ V, Turn (WT z p L M m a b q x) W1 V → V.cell? ⟨z, 0, none⟩ = some (ptr p) := fun V hV => HW1.out.t0 hV
  have uo5 : ∀ V, Turn (WT z p L M m a b q x) W1 V → V.cell? ⟨g, 5, none⟩ = some (.slice K o.kn ck) := fun V hV => (HO1.out.turn hV (fun hk => HG.out hk.1)).c5
  go_upto_region 6 with fail
  refine wp_region_turn (X := (WT z p L M m a b q x)) (by kernel_rfl) ?_
  have hS : Turn (WT z p L M m a b q x) W1 (World.drew W1) := (Turn.refl _ _).drew
  refine wpAnyH_take (i := 0) (oi := ⟨some 41, _, _, _, _, _⟩) (v := ?_) rfl (by kernel_rfl) (by kernel_rfl) (by kernel_rfl) (fun _ _ _ h => h) (Or.inl ⟨by rfl, ?_⟩) hS ?_
  rotate_left
  · intro W hW; go_simp; with_reducible rfl
  try simp only [Act.put, List.setIfInBounds_toArray, List.set_cons_zero, List.set_cons_succ]
  refine wpAnyH_take (i := 1) (oi := ⟨some 42, _, _, _, _, _⟩) (v := ?_) rfl (by kernel_rfl) (by kernel_rfl) (by kernel_rfl) (fun _ _ _ h => h) (Or.inl ⟨by rfl, ?_⟩) hS ?_
  rotate_left
  · intro W hW; go_simp; with_reducible rfl
  try simp only [Act.put, List.setIfInBounds_toArray, List.set_cons_zero, List.set_cons_succ]
  refine wpAnyH_take (i := 2) (oi := ⟨some 43, _, _, _, _, _⟩) (v := ?_) rfl (by kernel_rfl) (by kernel_rfl) (by kernel_rfl) (fun _ _ _ h => h) (Or.inl ⟨by rfl, ?_⟩) hS ?_
  rotate_left
  · intro W hW; go_simp; with_reducible rfl
  try simp only [Act.put, List.setIfInBounds_toArray, List.set_cons_zero, List.set_cons_succ]
  refine wpAnyH_take (i := 3) (oi := ⟨some 44, _, _, _, _, _⟩) (v := ?_) rfl (by kernel_rfl) (by kernel_rfl) (by kernel_rfl) (fun _ _ _ h => h) (Or.inl ⟨by rfl, ?_⟩) hS ?_
  rotate_left
  · intro W hW; go_simp; with_reducible rfl
  try simp only [Act.put, List.setIfInBounds_toArray, List.set_cons_zero, List.set_cons_succ]
  refine wpAnyH_take (i := 4) (oi := ⟨some 45, _, _, _, _, _⟩) (v := ?_) rfl (by kernel_rfl) (by kernel_rfl) (by kernel_rfl) (fun _ _ _ h => h) (Or.inl ⟨by rfl, ?_⟩) hS ?_
  rotate_left
  · intro W hW; go_simp; with_reducible rfl
  try simp only [Act.put, List.setIfInBounds_toArray, List.set_cons_zero, List.set_cons_succ]
  refine wpAnyH_take (i := 5) (oi := ⟨some 46, _, _, _, _, _⟩) (v := ?_) rfl (by kernel_rfl) (by kernel_rfl) (by kernel_rfl) (fun _ _ _ h => h) (Or.inl ⟨by rfl, ?_⟩) hS ?_
  rotate_left
  · intro W hW; go_simp; with_reducible rfl
  try simp only [Act.put, List.setIfInBounds_toArray, List.set_cons_zero, List.set_cons_succ]
  refine wpAnyH_ready (rs := [6]) (by kernel_rfl) (by simp) ?_
  refine AllReadyH.cons (o := ⟨some 47, _, _, _, _, _⟩) rfl (fun Kr hKr => ?_) AllReadyH.nil
  -- operation 6: a call
  go_simp
  refine (HC1.out _ ((Below.refl _ _).drew)).mono ?_
  rintro e W2 ⟨rfl, h2, ht2⟩
  have HWW2 := Lib.hid h2
  have HTW2 : Hid (Turn (WT z p L M m a b q x) W1 W2) := ((Turn.refl _ _).drew).trans ht2
  clear h2 ht2
  show Kr _ _
  refine hKr.out _ _ ?_ (fun _ => ?_)
  · exact HTW2.out
  clear hKr Kr
  replace hS : Turn (WT z p L M m a b q x) W1 W2 := HTW2.out
  try simp only [Act.put, List.setIfInBounds_toArray, List.set_cons_zero, List.set_cons_succ]
  refine wpAnyH_done (by kernel_rfl) ?_ _
  have HO2 := Lib.hid (HO1.out.turn HTW2.out (fun hk => HG.out hk.1))
  clear hS v0 uo5 HC1
  have HC2 := Lib.hid (fun (V : World) (hV : Below W2.heap.size W2 V) => (HWW2.out.below hV).rcrash ck HK.out)
  have v1 : ∀ V, Turn (WT z p L M m a b q x) W2 V → V.cell? ⟨z, 1, none⟩ = some (ptr m) := fun V hV => HWW2.out.t1 hV
  have uo5 : ∀ V, Turn (WT z p L M m a b q x) W2 V → V.cell? ⟨g, 5, none⟩ = some (.slice K o.kn ck) := fun V hV => (HO2.out.turn hV (fun hk => HG.out hk.1)).c5
  go_upto_region 7 with fail
  refine wp_region_turn (X := (WT z p L M m a b q x)) (by kernel_rfl) ?_
  have hS : Turn (WT z p L M m a b q x) W2 (World.drew W2) := (Turn.refl _ _).drew
  refine wpAnyH_take (i := 0) (oi := ⟨some 48, _, _, _, _, _⟩) (v := ?_) rfl (by kernel_rfl) (by kernel_rfl) (by kernel_rfl) (fun _ _ _ h => h) (Or.inl ⟨by rfl, ?_⟩) hS ?_
  rotate_left
  · intro W hW; go_simp; with_reducible rfl
  try simp only [Act.put, List.setIfInBounds_toArray, List.set_cons_zero, List.set_cons_succ]
  refine wpAnyH_take (i := 1) (oi := ⟨some 49, _, _, _, _, _⟩) (v := ?_) rfl (by kernel_rfl) (by kernel_rfl) (by kernel_rfl) (fun _ _ _ h => h) (Or.inl ⟨by rfl, ?_⟩) hS ?_
  rotate_left
  · intro W hW; go_simp; with_reducible rfl
  try simp only [Act.put, List.setIfInBounds_toArray, List.set_cons_zero, List.set_cons_succ]
  refine wpAnyH_take (i := 2) (oi := ⟨some 50, _, _, _, _, _⟩) (v := ?_) rfl (by kernel_rfl) (by kernel_rfl) (by kernel_rfl) (fun _ _ _ h => h) (Or.inl ⟨by rfl, ?_⟩) hS ?_
  rotate_left
  · intro W hW; go_simp; with_reducible rfl
  try simp only [Act.put, List.setIfInBounds_toArray, List.set_cons_zero, List.set_cons_succ]
  refine wpAnyH_take (i := 3) (oi := ⟨some 51, _, _, _, _, _⟩) (v := ?_) rfl (by kernel_rfl) (by kernel_rfl) (by kernel_rfl) (fun _ _ _ h => h) (Or.inl ⟨by rfl, ?_⟩) hS ?_
  rotate_left
  · intro W hW; go_simp; with_reducible rfl
  try simp only [Act.put, List.setIfInBounds_toArray, List.set_cons_zero, List.set_cons_succ]
  refine wpAnyH_take (i := 4) (oi := ⟨some 52, _, _, _, _, _⟩) (v := ?_) rfl (by kernel_rfl) (by kernel_rfl) (by kernel_rfl) (fun _ _ _ h => h) (Or.inl ⟨by rfl, ?_⟩) hS ?_
  rotate_left
  · intro W hW; go_simp; with_reducible rfl
  try simp only [Act.put, List.setIfInBounds_toArray, List.set_cons_zero, List.set_cons_succ]
  refine wpAnyH_take (i := 5) (oi := ⟨some 53, _, _, _, _, _⟩) (v := ?_) rfl (by kernel_rfl) (by kernel_rfl) (by kernel_rfl) (fun _ _ _ h => h) (Or.inl ⟨by rfl, ?_⟩) hS ?_
  rotate_left
  · intro W hW; go_simp; with_reducible rfl
  try simp only [Act.put, List.setIfInBounds_toArray, List.set_cons_zero, List.set_cons_succ]
  refine wpAnyH_ready (rs := [6]) (by kernel_rfl) (by simp) ?_
  refine AllReadyH.cons (o := ⟨some 54, _, _, _, _, _⟩) rfl (fun Kr hKr => ?_) AllReadyH.nil
  -- operation 6: a call
  go_simp
  refine (HC2.out _ ((Below.refl _ _).drew)).mono ?_
  rintro e W3 ⟨rfl, h2, ht2⟩
  have HWW3 := Lib.hid h2
  have HTW3 : Hid (Turn (WT z p L M m a b q x) W2 W3) := ((Turn.refl _ _).drew).trans ht2
  clear h2 ht2
  show Kr _ _
  refine hKr.out _ _ ?_ (fun _ => ?_)
  · exact HTW3.out
  clear hKr Kr
  replace hS : Turn (WT z p L M m a b q x) W2 W3 := HTW3.out
  try simp only [Act.put, List.setIfInBounds_toArray, List.set_cons_zero, List.set_cons_succ]
  refine wpAnyH_done (by kernel_rfl) ?_ _
  have HO3 := Lib.hid (HO2.out.turn HTW3.out (fun hk => HG.out hk.1))
  clear hS v1 uo5 HC2 o0 o1
  have z9 := HWW3.out.c9
  have f9 := HWW3.out.fr 9
  have o3 := HO3.out.c3
  have hwe : IntKind.i64.wrap (s.E + (u : Int)) = s.E + (u : Int) := by rw [IntKind.wrap_i64]; omega
  generalize hup : o.up = up at *
  clear hup
  go_upto_region 8 with fail
  go_region
  have HW4 := Lib.hid ((HWW3.out.below (V := W3.drew) ((Below.refl _ _).drew)).epoch (s.E + (u : Int)))
  go_wp2_with fail
  refine (wopen_any HW4.out.wo F S).mono ?_
  rintro e W5 ⟨rfl, q', x', G', s', h5, e1, e2⟩
  have HW5 := Lib.hid h5
  have e2' : s'.E = s.E + (u : Int) := e2
  clear h5 e1 e2
  go_wp2_with fail
  go_ret
  exact HOUT.out _ ⟨_, _, _, _, _, HW5.out, by show D.spent ≤ _; omega, by omega, by omega⟩

end Go.Proofs.YtdjfahnnfhediaaGreat

namespace Go.Proofs.YtdjfahnnfhediaaGreat
set_option maxRecDepth 100000
open Go.RowKit Crc Wm

theorem wdo_write {w W : World} {z p L M m a b c q x : Nat} {D : Dv} {G : Lg} {s : Sl} (h : Wd w W z p L M m a b c q x D D G G s) (o : Deed) (A K : Option Addr) (ca ck : Nat) (F S : Int) (hsp : D.spent ≤ 100000) (h5 : (o.what == 5) = false) (h6 : (o.what == 6) = false) (h7 : (o.what == 7) = true) (hA : Rd w w.heap.size A o.b) :
    Calls Tryz.prog 9 #[ptr z, .agg #[.int .i64 o.what, .int .i64 o.N, .int .u8 (o.c.toNat : Int), .int .i64 o.up, .slice A o.b.length ca, .slice K o.kn ck], .int .i64 F, .int .i64 S] W (WDoOut w z p L M m a b c D s.E) := by
  obtain ⟨k, hk, hkb⟩ := low o.N 255 8 (by decide) (by omega)
  have hk' : k ≤ 255 := by have : k < 256 := hk; omega
  have HOUT : Hid (∀ V, (∃ q x D' G s', Wd w V z p L M m a b c q x D' D' G G s' ∧ D'.spent ≤ D.spent + 100 ∧ s.E ≤ s'.E ∧ s'.E ≤ s.E + 3) → WDoOut w z p L M m a b c D s.E (.returned (.bool true)) V) := fun V hV => ⟨rfl, hV⟩
  have HW1 : Hid (Wd w (W.alloc (.cells #[.int .i64 o.what, .int .i64 o.N, .int .u8 (o.c.toNat : Int), .int .i64 o.up, .slice A o.b.length ca, .slice K o.kn ck] 44)) z p L M m a b c q x D D G G s) := h.below (below_new W _)
  have HO1 : Hid (OAt (W.alloc (.cells #[.int .i64 o.what, .int .i64 o.N, .int .u8 (o.c.toNat : Int), .int .i64 o.up, .slice A o.b.length ca, .slice K o.kn ck] 44)) W.heap.size o A ca K ck) := heap_alloc_new W _
  have HG : Hid (¬ WS z p L M m a b q x W.heap.size) := h.notNew
  have HSP := Lib.hid hsp
  clear h hk hsp
  go_enter Tryz.func9, Tryz.ntmps9
  go_upto_region 1 with fail
  generalize W.alloc (.cells #[.int .i64 o.what, .int .i64 o.N, .int .u8 (o.c.toNat : Int), .int .i64 o.up, .slice A o.b.length ca, .slice K o.kn ck] 44) = W1 at *
  generalize W.heap.size = g at *
  have o0 := HO1.out.c0
  have o1 := HO1.out.c1
  have HC1 := Lib.hid (fun (V : World) (hV : Below W1.heap.size W1 V) => (HW1.out.below hV).write (by have := HSP.out; omega) o.N hA o.b.length ca rfl)
  have HC2 := Lib.hid (fun (V : World) (hV : Wd w V z p L M m a b c q x (D.write o.N o.b) D G G s) => hV.rwrite (by have := HSP.out; omega) o.N hA o.b.length ca rfl)
  have HC3 := Lib.hid (fun (V : World) (hV : Wd w V z p L M m a b c q x (D.write o.N o.b) (D.write o.N o.b) G G s) => hV.flush (by have := HSP.out; have := Dv.write_spent (D := D) o.N o.b; omega))
  have HC4 := Lib.hid (fun (V : World) (hV : Wd w V z p L M m a b c q x (D.write o.N o.b).flush (D.write o.N o.b) G G s) => hV.rflush (by have := HSP.out; have := Dv.write_spent (D := D) o.N o.b; omega))
  have HS2 : Hid ((D.write o.N o.b).flush.spent ≤ D.spent + 100) := by show _ ≤ _; have := Dv.write_spent (D := D) o.N o.b; have := Dv.flush_spent (D := D.write o.N o.b); omega
  clear hA
  have hq1 : (D.writeE o.N o.b == D.writeE o.N o.b) = true := by simp
  have hq2 : ((D.write o.N o.b).flushE == (D.write o.N o.b).flushE) = true := by simp
  generalize (D.write o.N o.b).flushE = fe at *
  generalize D.writeE o.N o.b = we at *
  generalize (D.write o.N o.b).flush = D3 at *
  generalize D.write o.N o.b = D2 at *
  generalize hwh : o.what = wh at *
  have v0 : ∀ V, Turn (WT z p L M m a b q x) W1 V → V.cell? ⟨z, 0, none⟩ = some (ptr p) := fun V hV => HW1.out.t0 hV
  have v1 : ∀ V, Turn (WT z p L M m a b q x) W1 V → V.cell? ⟨z, 1, none⟩ = some (ptr m) := fun V hV => HW1.out.t1 hV
  have uo1 : ∀ V, Turn (WT z p L M m a b q x) W1 V → V.cell? ⟨g, 1, none⟩ = some (.int .i64 o.N) := fun V hV => (HO1.out.turn hV (fun hk => HG.out hk.1)).c1
  have uo4 : ∀ V, Turn (WT z p L M m a b q x) W1 V → V.cell? ⟨g, 4, none⟩ = some (.slice A o.b.length ca) := fun V hV => (HO1.out.turn hV (fun hk => HG.out hk.1)).c4
  go_upto_region 11 with fail
  refine wp_region_turn (X := (WT z p L M m a b q x)) (by kernel_rfl) ?_
  have hS : Turn (WT z p L M m a b q x) W1 (World.drew W1) := (Turn.refl _ _).drew
  refine wpAnyH_take (i := 0) (oi := ⟨some 74, _, _, _, _, _⟩) (v := ?_) rfl (by kernel_rfl) (by kernel_rfl) (by kernel_rfl) (fun _ _ _ h => h) (Or.inl ⟨by rfl, ?_⟩) hS ?_
  rotate_left
  · intro W hW; go_simp; with_reducible rfl
  try simp only [Act.put, List.setIfInBounds_toArray, List.set_cons_zero, List.set_cons_succ]
  refine wpAnyH_take (i := 1) (oi := ⟨some 75, _, _, _, _, _⟩) (v := ?_) rfl (by kernel_rfl) (by kernel_rfl) (by kernel_rfl) (fun _ _ _ h => h) (Or.inl ⟨by rfl, ?_⟩) hS ?_
  rotate_left
  · intro W hW; go_simp; with_reducible rfl
  try simp only [Act.put, List.setIfInBounds_toArray, List.set_cons_zero, List.set_cons_succ]
  refine wpAnyH_take (i := 2) (oi := ⟨some 76, _, _, _, _, _⟩) (v := ?_) rfl (by kernel_rfl) (by kernel_rfl) (by kernel_rfl) (fun _ _ _ h => h) (Or.inl ⟨by rfl, ?_⟩) hS ?_
  rotate_left
  · intro W hW; go_simp; with_reducible rfl
  try simp only [Act.put, List.setIfInBounds_toArray, List.set_cons_zero, List.set_cons_succ]
  refine wpAnyH_take (i := 3) (oi := ⟨some 77, _, _, _, _, _⟩) (v := ?_) rfl (by kernel_rfl) (by kernel_rfl) (by kernel_rfl) (fun _ _ _ h => h) (Or.inl ⟨by rfl, ?_⟩) hS ?_
  rotate_left
  · intro W hW; go_simp; with_reducible rfl
  try simp only [Act.put, List.setIfInBounds_toArray, List.set_cons_zero, List.set_cons_succ]
  refine wpAnyH_take (i := 4) (oi := ⟨some 78, _, _, _, _, _⟩) (v := ?_) rfl (by kernel_rfl) (by kernel_rfl) (by kernel_rfl) (fun _ _ _ h => h) (Or.inl ⟨by rfl, ?_⟩) hS ?_
  rotate_left
  · intro W hW; go_simp; with_reducible rfl
  try simp only [Act.put, List.setIfInBounds_toArray, List.set_cons_zero, List.set_cons_succ]
  refine wpAnyH_take (i := 5) (oi := ⟨some 79, _, _, _, _, _⟩) (v := ?_) rfl (by kernel_rfl) (by kernel_rfl) (by kernel_rfl) (fun _ _ _ h => h) (Or.inl ⟨by rfl, ?_⟩) hS ?_
  rotate_left
  · intro W hW; go_simp; with_reducible rfl
  try simp only [Act.put, List.setIfInBounds_toArray, List.set_cons_zero, List.set_cons_succ]
  refine wpAnyH_take (i := 6) (oi := ⟨some 80, _, _, _, _, _⟩) (v := ?_) rfl (by kernel_rfl) (by kernel_rfl) (by kernel_rfl) (fun _ _ _ h => h) (Or.inl ⟨by rfl, ?_⟩) hS ?_
  rotate_left
  · intro W hW; go_simp; with_reducible rfl
  try simp only [Act.put, List.setIfInBounds_toArray, List.set_cons_zero, List.set_cons_succ]
  refine wpAnyH_take (i := 7) (oi := ⟨some 81, _, _, _, _, _⟩) (v := ?_) rfl (by kernel_rfl) (by kernel_rfl) (by kernel_rfl) (fun _ _ _ h => h) (Or.inl ⟨by rfl, ?_⟩) hS ?_
  rotate_left
  · intro W hW; go_simp; with_reducible rfl
  try simp only [Act.put, List.setIfInBounds_toArray, List.set_cons_zero, List.set_cons_succ]
  refine wpAnyH_take (i := 9) (oi := ⟨some 83, _, _, _, _, _⟩) (v := ?_) rfl (by kernel_rfl) (by kernel_rfl) (by kernel_rfl) (fun _ _ _ h => h) (Or.inl ⟨by rfl, ?_⟩) hS ?_
  rotate_left
  · intro W hW; go_simp; with_reducible rfl
  try simp only [Act.put, List.setIfInBounds_toArray, List.set_cons_zero, List.set_cons_succ]
  refine wpAnyH_take (i := 10) (oi := ⟨some 84, _, _, _, _, _⟩) (v := ?_) rfl (by kernel_rfl) (by kernel_rfl) (by kernel_rfl) (fun _ _ _ h => h) (Or.inl ⟨by rfl, ?_⟩) hS ?_
  rotate_left
  · intro W hW; go_simp; with_reducible rfl
  try simp only [Act.put, List.setIfInBounds_toArray, List.set_cons_zero, List.set_cons_succ]
  refine wpAnyH_take (i := 11) (oi := ⟨some 85, _, _, _, _, _⟩) (v := ?_) rfl (by kernel_rfl) (by kernel_rfl) (by kernel_rfl) (fun _ _ _ h => h) (Or.inl ⟨by rfl, ?_⟩) hS ?_
  rotate_left
  · intro W hW; go_simp; with_reducible rfl
  try simp only [Act.put, List.setIfInBounds_toArray, List.set_cons_zero, List.set_cons_succ]
  refine wpAnyH_take (i := 12) (oi := ⟨some 86, _, _, _, _, _⟩) (v := ?_) rfl (by kernel_rfl) (by kernel_rfl) (by kernel_rfl) (fun _ _ _ h => h) (Or.inl ⟨by rfl, ?_⟩) hS ?_
  rotate_left
  · intro W hW; go_simp; with_reducible rfl
  try simp only [Act.put, List.setIfInBounds_toArray, List.set_cons_zero, List.set_cons_succ]
  refine wpAnyH_take (i := 13) (oi := ⟨some 87, _, _, _, _, _⟩) (v := ?_) rfl (by kernel_rfl) (by kernel_rfl) (by kernel_rfl) (fun _ _ _ h => h) (Or.inl ⟨by rfl, ?_⟩) hS ?_
  rotate_left
  · intro W hW; go_simp; with_reducible rfl
  try simp only [Act.put, List.setIfInBounds_toArray, List.set_cons_zero, List.set_cons_succ]
  refine wpAnyH_take (i := 14) (oi := ⟨some 88, _, _, _, _, _⟩) (v := ?_) rfl (by kernel_rfl) (by kernel_rfl) (by kernel_rfl) (fun _ _ _ h => h) (Or.inl ⟨by rfl, ?_⟩) hS ?_
  rotate_left
  · intro W hW; go_simp; with_reducible rfl
  try simp only [Act.put, List.setIfInBounds_toArray, List.set_cons_zero, List.set_cons_succ]
  refine wpAnyH_take (i := 15) (oi := ⟨some 89, _, _, _, _, _⟩) (v := ?_) rfl (by kernel_rfl) (by kernel_rfl) (by kernel_rfl) (fun _ _ _ h => h) (Or.inl ⟨by rfl, ?_⟩) hS ?_
  rotate_left
  · intro W hW; go_simp; with_reducible rfl
  try simp only [Act.put, List.setIfInBounds_toArray, List.set_cons_zero, List.set_cons_succ]
  refine wpAnyH_take (i := 16) (oi := ⟨some 90, _, _, _, _, _⟩) (v := ?_) rfl (by kernel_rfl) (by kernel_rfl) (by kernel_rfl) (fun _ _ _ h => h) (Or.inl ⟨by rfl, ?_⟩) hS ?_
  rotate_left
  · intro W hW; go_simp; with_reducible rfl
  try simp only [Act.put, List.setIfInBounds_toArray, List.set_cons_zero, List.set_cons_succ]
  refine wpAnyH_ready (rs := [8]) (by kernel_rfl) (by simp) ?_
  refine AllReadyH.cons (o := ⟨some 82, _, _, _, _, _⟩) rfl (fun Kr hKr => ?_) AllReadyH.nil
  -- operation 8: a call
  go_simp
  refine (HC1.out _ ((Below.refl _ _).drew)).mono ?_
  rintro e W2 ⟨rfl, h2, ht2⟩
  have HWW2 := Lib.hid h2
  have HTW2 : Hid (Turn (WT z p L M m a b q x) W1 W2) := ((Turn.refl _ _).drew).trans ht2
  clear h2 ht2
  show Kr _ _
  refine hKr.out _ _ ?_ (fun _ => ?_)
  · exact HTW2.out
  clear hKr Kr
  replace hS : Turn (WT z p L M m a b q x) W1 W2 := HTW2.out
  try simp only [Act.put, List.setIfInBounds_toArray, List.set_cons_zero, List.set_cons_succ]
  refine wpAnyH_ready (rs := [17]) (by kernel_rfl) (by simp) ?_
  refine AllReadyH.cons (o := ⟨some 91, _, _, _, _, _⟩) rfl (fun Kr hKr => ?_) AllReadyH.nil
  -- operation 17: a call
  go_simp
  refine (HC2.out _ HWW2.out).mono ?_
  rintro e W3 ⟨rfl, h2, ht2⟩
  have HWW3 := Lib.hid h2
  have HTW3 : Hid (Turn (WT z p L M m a b q x) W1 W3) := (hS).trans ht2
  clear h2 ht2
  show Kr _ _
  refine hKr.out _ _ ?_ (fun _ => ?_)
  · exact HTW3.out
  clear hKr Kr
  replace hS : Turn (WT z p L M m a b q x) W1 W3 := HTW3.out
  try simp only [Act.put, List.setIfInBounds_toArray, List.set_cons_zero, List.set_cons_succ]
  refine wpAnyH_take (i := 18) (oi := ⟨some 92, _, _, _, _, _⟩) (v := ?_) rfl (by kernel_rfl) (by kernel_rfl) (by kernel_rfl) (fun _ _ _ h => h) (Or.inl ⟨by rfl, ?_⟩) hS ?_
  rotate_left
  · intro W hW; go_simp; with_reducible rfl
  try simp only [Act.put, List.setIfInBounds_toArray, List.set_cons_zero, List.set_cons_succ]
  refine wpAnyH_take (i := 19) (oi := ⟨some 93, _, _, _, _, _⟩) (v := ?_) rfl (by kernel_rfl) (by kernel_rfl) (by kernel_rfl) (fun _ _ _ h => h) (Or.inl ⟨by rfl, ?_⟩) hS ?_
  rotate_left
  · intro W hW; go_simp; with_reducible rfl
  try simp only [Act.put, List.setIfInBounds_toArray, List.set_cons_zero, List.set_cons_succ]
  refine wpAnyH_take (i := 20) (oi := ⟨some 94, _, _, _, _, _⟩) (v := ?_) rfl (by kernel_rfl) (by kernel_rfl) (by kernel_rfl) (fun _ _ _ h => h) (Or.inl ⟨by rfl, ?_⟩) hS ?_
  rotate_left
  · intro W hW; go_simp; with_reducible rfl
  try simp only [Act.put, List.setIfInBounds_toArray, List.set_cons_zero, List.set_cons_succ]
  refine wpAnyH_take (i := 21) (oi := ⟨some 95, _, _, _, _, _⟩) (v := ?_) rfl (by kernel_rfl) (by kernel_rfl) (by kernel_rfl) (fun _ _ _ h => h) (Or.inl ⟨by rfl, ?_⟩) hS ?_
  rotate_left
  · intro W hW; go_simp; with_reducible rfl
  try simp only [Act.put, List.setIfInBounds_toArray, List.set_cons_zero, List.set_cons_succ]
  refine wpAnyH_take (i := 22) (oi := ⟨some 96, _, _, _, _, _⟩) (v := ?_) rfl (by kernel_rfl) (by kernel_rfl) (by kernel_rfl) (fun _ _ _ h => h) (Or.inl ⟨by rfl, ?_⟩) hS ?_
  rotate_left
  · intro W hW; go_simp; with_reducible rfl
  try simp only [Act.put, List.setIfInBounds_toArray, List.set_cons_zero, List.set_cons_succ]
  refine wpAnyH_take (i := 23) (oi := ⟨some 97, _, _, _, _, _⟩) (v := ?_) rfl (by kernel_rfl) (by kernel_rfl) (by kernel_rfl) (fun _ _ _ h => h) (Or.inl ⟨by rfl, ?_⟩) hS ?_
  rotate_left
  · intro W hW; go_simp; with_reducible rfl
  try simp only [Act.put, List.setIfInBounds_toArray, List.set_cons_zero, List.set_cons_succ]
  refine wpAnyH_take (i := 25) (oi := ⟨some 99, _, _, _, _, _⟩) (v := ?_) rfl (by kernel_rfl) (by kernel_rfl) (by kernel_rfl) (fun _ _ _ h => h) (Or.inl ⟨by rfl, ?_⟩) hS ?_
  rotate_left
  · intro W hW; go_simp; with_reducible rfl
  try simp only [Act.put, List.setIfInBounds_toArray, List.set_cons_zero, List.set_cons_succ]
  refine wpAnyH_take (i := 26) (oi := ⟨some 100, _, _, _, _, _⟩) (v := ?_) rfl (by kernel_rfl) (by kernel_rfl) (by kernel_rfl) (fun _ _ _ h => h) (Or.inl ⟨by rfl, ?_⟩) hS ?_
  rotate_left
  · intro W hW; go_simp; with_reducible rfl
  try simp only [Act.put, List.setIfInBounds_toArray, List.set_cons_zero, List.set_cons_succ]
  refine wpAnyH_take (i := 27) (oi := ⟨some 101, _, _, _, _, _⟩) (v := ?_) rfl (by kernel_rfl) (by kernel_rfl) (by kernel_rfl) (fun _ _ _ h => h) (Or.inl ⟨by rfl, ?_⟩) hS ?_
  rotate_left
  · intro W hW; go_simp; with_reducible rfl
  try simp only [Act.put, List.setIfInBounds_toArray, List.set_cons_zero, List.set_cons_succ]
  refine wpAnyH_take (i := 28) (oi := ⟨some 102, _, _, _, _, _⟩) (v := ?_) rfl (by kernel_rfl) (by kernel_rfl) (by kernel_rfl) (fun _ _ _ h => h) (Or.inl ⟨by rfl, ?_⟩) hS ?_
  rotate_left
  · intro W hW; go_simp; with_reducible rfl
  try simp only [Act.put, List.setIfInBounds_toArray, List.set_cons_zero, List.set_cons_succ]
  refine wpAnyH_ready (rs := [24]) (by kernel_rfl) (by simp) ?_
  refine AllReadyH.cons (o := ⟨some 98, _, _, _, _, _⟩) rfl (fun Kr hKr => ?_) AllReadyH.nil
  -- operation 24: a call
  go_simp
  refine (HC3.out _ HWW3.out).mono ?_
  rintro e W4 ⟨rfl, h2, ht2⟩
  have HWW4 := Lib.hid h2
  have HTW4 : Hid (Turn (WT z p L M m a b q x) W1 W4) := (hS).trans ht2
  clear h2 ht2
  show Kr _ _
  refine hKr.out _ _ ?_ (fun _ => ?_)
  · exact HTW4.out
  clear hKr Kr
  replace hS : Turn (WT z p L M m a b q x) W1 W4 := HTW4.out
  try simp only [Act.put, List.setIfInBounds_toArray, List.set_cons_zero, List.set_cons_succ]
  refine wpAnyH_ready (rs := [29]) (by kernel_rfl) (by simp) ?_
  refine AllReadyH.cons (o := ⟨some 103, _, _, _, _, _⟩) rfl (fun Kr hKr => ?_) AllReadyH.nil
  -- operation 29: a call
  go_simp
  refine (HC4.out _ HWW4.out).mono ?_
  rintro e W5 ⟨rfl, h2, ht2⟩
  have HWW5 := Lib.hid h2
  have HTW5 : Hid (Turn (WT z p L M m a b q x) W1 W5) := (hS).trans ht2
  clear h2 ht2
  show Kr _ _
  refine hKr.out _ _ ?_ (fun _ => ?_)
  · exact HTW5.out
  clear hKr Kr
  replace hS : Turn (WT z p L M m a b q x) W1 W5 := HTW5.out
  try simp only [Act.put, List.setIfInBounds_toArray, List.set_cons_zero, List.set_cons_succ]
  refine wpAnyH_take (i := 30) (oi := ⟨some 104, _, _, _, _, _⟩) (v := ?_) rfl (by kernel_rfl) (by kernel_rfl) (by kernel_rfl) (fun _ _ _ h => h) (Or.inl ⟨by rfl, ?_⟩) hS ?_
  rotate_left
  · intro W hW; go_simp; with_reducible rfl
  try simp only [Act.put, List.setIfInBounds_toArray, List.set_cons_zero, List.set_cons_succ]
  refine wpAnyH_take (i := 31) (oi := ⟨some 105, _, _, _, _, _⟩) (v := ?_) rfl (by kernel_rfl) (by kernel_rfl) (by kernel_rfl) (fun _ _ _ h => h) (Or.inl ⟨by rfl, ?_⟩) hS ?_
  rotate_left
  · intro W hW; go_simp; with_reducible rfl
  try simp only [Act.put, List.setIfInBounds_toArray, List.set_cons_zero, List.set_cons_succ]
  refine wpAnyH_take (i := 32) (oi := ⟨some 8, _, _, _, _, _⟩) (v := ?_) rfl (by kernel_rfl) (by kernel_rfl) (by kernel_rfl) (fun _ _ _ h => h) (Or.inl ⟨by rfl, ?_⟩) hS ?_
  rotate_left
  · intro W hW; go_simp; with_reducible rfl
  try simp only [Act.put, List.setIfInBounds_toArray, List.set_cons_zero, List.set_cons_succ]
  refine wpAnyH_done (by kernel_rfl) ?_ _
  clear hS v0 v1 uo1 uo4 HC1 HC2 HC3 HC4
  go_wp2_with fail
  go_ret
  exact HOUT.out _ ⟨_, _, _, _, _, HWW5.out, HS2.out, Int.le_refl _, by omega⟩

theorem wdo_force {w W : World} {z p L M m a b c q x : Nat} {D : Dv} {G : Lg} {s : Sl} (h : Wd w W z p L M m a b c q x D D G G s) (o : Deed) (A K : Option Addr) (ca ck : Nat) (F S : Int) (hsp : D.spent ≤ 100000) (h5 : (o.what == 5) = false) (h6 : (o.what == 6) = false) (h7 : (o.what == 7) = false) (he : s.e = 0) (h3 : Hid (o.what = 3)) :
    Calls Tryz.prog 9 #[ptr z, .agg #[.int .i64 o.what, .int .i64 o.N, .int .u8 (o.c.toNat : Int), .int .i64 o.up, .slice A o.b.length ca, .slice K o.kn ck], .int .i64 F, .int .i64 S] W (WDoOut w z p L M m a b c D s.E) := by
  obtain ⟨k, hk, hkb⟩ := low o.N 255 8 (by decide) (by omega)
  have hk' : k ≤ 255 := by have : k < 256 := hk; omega
  have HOUT : Hid (∀ V, (∃ q x D' G s', Wd w V z p L M m a b c q x D' D' G G s' ∧ D'.spent ≤ D.spent + 100 ∧ s.E ≤ s'.E ∧ s'.E ≤ s.E + 3) → WDoOut w z p L M m a b c D s.E (.returned (.bool true)) V) := fun V hV => ⟨rfl, hV⟩
  have HW1 : Hid (Wd w (W.alloc (.cells #[.int .i64 o.what, .int .i64 o.N, .int .u8 (o.c.toNat : Int), .int .i64 o.up, .slice A o.b.length ca, .slice K o.kn ck] 44)) z p L M m a b c q x D D G G s) := h.below (below_new W _)
  have HO1 : Hid (OAt (W.alloc (.cells #[.int .i64 o.what, .int .i64 o.N, .int .u8 (o.c.toNat : Int), .int .i64 o.up, .slice A o.b.length ca, .slice K o.kn ck] 44)) W.heap.size o A ca K ck) := heap_alloc_new W _
  have HG : Hid (¬ WS z p L M m a b q x W.heap.size) := h.notNew
  have HSP := Lib.hid hsp
  clear h hk hsp
  go_enter Tryz.func9, Tryz.ntmps9
  go_upto_region 1 with fail
  generalize W.alloc (.cells #[.int .i64 o.what, .int .i64 o.N, .int .u8 (o.c.toNat : Int), .int .i64 o.up, .slice A o.b.length ca, .slice K o.kn ck] 44) = W1 at *
  generalize W.heap.size = g at *
  have o0 := HO1.out.c0
  have o1 := HO1.out.c1
  have z6 := HW1.out.c6
  have hne : (s.e != 0) = false := by rw [he]; rfl
  have HE := Lib.hid he
  have HC1 := Lib.hid (fun (V : World) (hV : Below W1.heap.size W1 V) => (HW1.out.below hV).force he (by have := HSP.out; omega))
  have HC2 := Lib.hid (fun (V : World) (hV : Wd w V z p L M m a b c q x (G.forD D) D (G.forG D) G s) => hV.rforce he (by have := HSP.out; omega))
  have HS2 : Hid ((G.forD D).spent ≤ D.spent + 100) := by
    show _ ≤ _
    have := Dv.flush_spent (D := D)
    unfold Lg.forD
    split <;> omega
  clear he
  have hq1 : (G.forE D == G.forE D) = true := by simp
  generalize G.forE D = fe at *
  generalize G.forD D = D2 at *
  generalize G.forG D = G2 at *
  have t2 : decide (o.what ≤ 2) = false := decide_eq_false (by have := h3.out; omega)
  have t1 : decide (0 ≤ o.what) = true := decide_eq_true (by have := h3.out; omega)
  have t1' : decide (o.what ≥ 0) = true := decide_eq_true (by have := h3.out; omega)
  have t3 : (o.what == 3) = true := by rw [h3.out]; rfl
  clear h3
  generalize o.what = wh at *
  generalize o.N = oN at *
  generalize hse : s.e = se at hne z6
  clear hse
  have v2 : ∀ V, Turn (WT z p L M m a b q x) W1 V → V.cell? ⟨z, 2, none⟩ = some (ptr q) := fun V hV => HW1.out.t2 HE.out hV
  have v3 : ∀ V, Turn (WT z p L M m a b q x) W1 V → V.cell? ⟨z, 3, none⟩ = some (ptr x) := fun V hV => HW1.out.t3 HE.out hV
  go_upto_region 18 with fail
  refine wp_region_turn (X := (WT z p L M m a b q x)) (by kernel_rfl) ?_
  have hS : Turn (WT z p L M m a b q x) W1 (World.drew W1) := (Turn.refl _ _).drew
  refine wpAnyH_take (i := 0) (oi := ⟨some 157, _, _, _, _, _⟩) (v := ?_) rfl (by kernel_rfl) (by kernel_rfl) (by kernel_rfl) (fun _ _ _ h => h) (Or.inl ⟨by rfl, ?_⟩) hS ?_
  rotate_left
  · intro W hW; go_simp; with_reducible rfl
  try simp only [Act.put, List.setIfInBounds_toArray, List.set_cons_zero, List.set_cons_succ]
  refine wpAnyH_take (i := 1) (oi := ⟨some 158, _, _, _, _, _⟩) (v := ?_) rfl (by kernel_rfl) (by kernel_rfl) (by kernel_rfl) (fun _ _ _ h => h) (Or.inl ⟨by rfl, ?_⟩) hS ?_
  rotate_left
  · intro W hW; go_simp; with_reducible rfl
  try simp only [Act.put, List.setIfInBounds_toArray, List.set_cons_zero, List.set_cons_succ]
  refine wpAnyH_take (i := 2) (oi := ⟨some 159, _, _, _, _, _⟩) (v := ?_) rfl (by kernel_rfl) (by kernel_rfl) (by kernel_rfl) (fun _ _ _ h => h) (Or.inl ⟨by rfl, ?_⟩) hS ?_
  rotate_left
  · intro W hW; go_simp; with_reducible rfl
  try simp only [Act.put, List.setIfInBounds_toArray, List.set_cons_zero, List.set_cons_succ]
  refine wpAnyH_take (i := 3) (oi := ⟨some 160, _, _, _, _, _⟩) (v := ?_) rfl (by kernel_rfl) (by kernel_rfl) (by kernel_rfl) (fun _ _ _ h => h) (Or.inl ⟨by rfl, ?_⟩) hS ?_
  rotate_left
  · intro W hW; go_simp; with_reducible rfl
  try simp only [Act.put, List.setIfInBounds_toArray, List.set_cons_zero, List.set_cons_succ]
  refine wpAnyH_take (i := 5) (oi := ⟨some 162, _, _, _, _, _⟩) (v := ?_) rfl (by kernel_rfl) (by kernel_rfl) (by kernel_rfl) (fun _ _ _ h => h) (Or.inl ⟨by rfl, ?_⟩) hS ?_
  rotate_left
  · intro W hW; go_simp; with_reducible rfl
  try simp only [Act.put, List.setIfInBounds_toArray, List.set_cons_zero, List.set_cons_succ]
  refine wpAnyH_take (i := 6) (oi := ⟨some 163, _, _, _, _, _⟩) (v := ?_) rfl (by kernel_rfl) (by kernel_rfl) (by kernel_rfl) (fun _ _ _ h => h) (Or.inl ⟨by rfl, ?_⟩) hS ?_
  rotate_left
  · intro W hW; go_simp; with_reducible rfl
  try simp only [Act.put, List.setIfInBounds_toArray, List.set_cons_zero, List.set_cons_succ]
  refine wpAnyH_take (i := 7) (oi := ⟨some 164, _, _, _, _, _⟩) (v := ?_) rfl (by kernel_rfl) (by kernel_rfl) (by kernel_rfl) (fun _ _ _ h => h) (Or.inl ⟨by rfl, ?_⟩) hS ?_
  rotate_left
  · intro W hW; go_simp; with_reducible rfl
  try simp only [Act.put, List.setIfInBounds_toArray, List.set_cons_zero, List.set_cons_succ]
  refine wpAnyH_take (i := 8) (oi := ⟨some 165, _, _, _, _, _⟩) (v := ?_) rfl (by kernel_rfl) (by kernel_rfl) (by kernel_rfl) (fun _ _ _ h => h) (Or.inl ⟨by rfl, ?_⟩) hS ?_
  rotate_left
  · intro W hW; go_simp; with_reducible rfl
  try simp only [Act.put, List.setIfInBounds_toArray, List.set_cons_zero, List.set_cons_succ]
  refine wpAnyH_ready (rs := [4]) (by kernel_rfl) (by simp) ?_
  refine AllReadyH.cons (o := ⟨some 161, _, _, _, _, _⟩) rfl (fun Kr hKr => ?_) AllReadyH.nil
  -- operation 4: a call
  go_simp
  refine (HC1.out _ ((Below.refl _ _).drew)).mono ?_
  rintro e W2 ⟨rfl, h2, ht2⟩
  have HWW2 := Lib.hid h2
  have HTW2 : Hid (Turn (WT z p L M m a b q x) W1 W2) := ((Turn.refl _ _).drew).trans ht2
  clear h2 ht2
  show Kr _ _
  refine hKr.out _ _ ?_ (fun _ => ?_)
  · exact HTW2.out
  clear hKr Kr
  replace hS : Turn (WT z p L M m a b q x) W1 W2 := HTW2.out
  try simp only [Act.put, List.setIfInBounds_toArray, List.set_cons_zero, List.set_cons_succ]
  refine wpAnyH_ready (rs := [9]) (by kernel_rfl) (by simp) ?_
  refine AllReadyH.cons (o := ⟨some 166, _, _, _, _, _⟩) rfl (fun Kr hKr => ?_) AllReadyH.nil
  -- operation 9: a call
  go_simp
  refine (HC2.out _ HWW2.out).mono ?_
  rintro e W3 ⟨rfl, h2, ht2⟩
  have HWW3 := Lib.hid h2
  have HTW3 : Hid (Turn (WT z p L M m a b q x) W1 W3) := (hS).trans ht2
  clear h2 ht2
  show Kr _ _
  refine hKr.out _ _ ?_ (fun _ => ?_)
  · exact HTW3.out
  clear hKr Kr
  replace hS : Turn (WT z p L M m a b q x) W1 W3 := HTW3.out
  try simp only [Act.put, List.setIfInBounds_toArray, List.set_cons_zero, List.set_cons_succ]
  refine wpAnyH_take (i := 10) (oi := ⟨some 167, _, _, _, _, _⟩) (v := ?_) rfl (by kernel_rfl) (by kernel_rfl) (by kernel_rfl) (fun _ _ _ h => h) (Or.inl ⟨by rfl, ?_⟩) hS ?_
  rotate_left
  · intro W hW; go_simp; with_reducible rfl
  try simp only [Act.put, List.setIfInBounds_toArray, List.set_cons_zero, List.set_cons_succ]
  refine wpAnyH_take (i := 11) (oi := ⟨some 8, _, _, _, _, _⟩) (v := ?_) rfl (by kernel_rfl) (by kernel_rfl) (by kernel_rfl) (fun _ _ _ h => h) (Or.inl ⟨by rfl, ?_⟩) hS ?_
  rotate_left
  · intro W hW; go_simp; with_reducible rfl
  try simp only [Act.put, List.setIfInBounds_toArray, List.set_cons_zero, List.set_cons_succ]
  refine wpAnyH_done (by kernel_rfl) ?_ _
  clear hS v2 v3 HC1 HC2
  go_wp2_with fail
  go_ret
  exact HOUT.out _ ⟨_, _, _, _, _, HWW3.out, HS2.out, Int.le_refl _, by omega⟩

end Go.Proofs.YtdjfahnnfhediaaGreat

namespace Go.Proofs.YtdjfahnnfhediaaGreat
set_option maxRecDepth 100000
open Go.RowKit Crc Wm

theorem wdo_append {w W : World} {z p L M m a b c q x : Nat} {D : Dv} {G : Lg} {s : Sl} (h : Wd w W z p L M m a b c q x D D G G s) (o : Deed) (A K : Option Addr) (ca ck : Nat) (F S : Int) (hsp : D.spent ≤ 100000) (h5 : (o.what == 5) = false) (h6 : (o.what == 6) = false) (h7 : (o.what == 7) = false) (he : s.e = 0) (hr : 0 ≤ o.what ∧ o.what ≤ 2) :
    Calls Tryz.prog 9 #[ptr z, .agg #[.int .i64 o.what, .int .i64 o.N, .int .u8 (o.c.toNat : Int), .int .i64 o.up, .slice A o.b.length ca, .slice K o.kn ck], .int .i64 F, .int .i64 S] W (WDoOut w z p L M m a b c D s.E) := by
  obtain ⟨k, hk, hkb⟩ := low o.N 255 8 (by decide) (by omega)
  have hk' : k ≤ 255 := by have : k < 256 := hk; omega
  have HOUT : Hid (∀ V, (∃ q x D' G s', Wd w V z p L M m a b c q x D' D' G G s' ∧ D'.spent ≤ D.spent + 100 ∧ s.E ≤ s'.E ∧ s'.E ≤ s.E + 3) → WDoOut w z p L M m a b c D s.E (.returned (.bool true)) V) := fun V hV => ⟨rfl, hV⟩
  have HW1 : Hid (Wd w (W.alloc (.cells #[.int .i64 o.what, .int .i64 o.N, .int .u8 (o.c.toNat : Int), .int .i64 o.up, .slice A o.b.length ca, .slice K o.kn ck] 44)) z p L M m a b c q x D D G G s) := h.below (below_new W _)
  have HO1 : Hid (OAt (W.alloc (.cells #[.int .i64 o.what, .int .i64 o.N, .int .u8 (o.c.toNat : Int), .int .i64 o.up, .slice A o.b.length ca, .slice K o.kn ck] 44)) W.heap.size o A ca K ck) := heap_alloc_new W _
  have HG : Hid (¬ WS z p L M m a b q x W.heap.size) := h.notNew
  have HSP := Lib.hid hsp
  clear h hk hsp
  go_enter Tryz.func9, Tryz.ntmps9
  go_upto_region 1 with fail
  generalize W.alloc (.cells #[.int .i64 o.what, .int .i64 o.N, .int .u8 (o.c.toNat : Int), .int .i64 o.up, .slice A o.b.length ca, .slice K o.kn ck] 44) = W1 at *
  generalize W.heap.size = g at *
  have o0 := HO1.out.c0
  have o1 := HO1.out.c1
  have z6 := HW1.out.c6
  have hne : (s.e != 0) = false := by rw [he]; rfl
  have HE := Lib.hid he
  have HC1 := Lib.hid (fun (V : World) (hV : Below W1.heap.size W1 V) => (HW1.out.below hV).append he (by have := HSP.out; omega))
  have HC2 := Lib.hid (fun (V : World) (hV : Wd w V z p L M m a b c q x (G.appD D (someB k o.c)) D (G.appG D (someB k o.c)) G s) => hV.rappend he (by have := HSP.out; omega))
  have HS2 : Hid ((G.appD D (someB k o.c)).spent ≤ D.spent + 100) := by
    show _ ≤ _
    have := Lg.appD_spent G D (someB k o.c)
    have := need_255 (c := o.c) hk'
    omega
  clear he
  have hq1 : (G.appE D (someB k o.c) == G.appE D (someB k o.c)) = true := by simp
  have hq2 : (G.appAt D (someB k o.c) == G.appAt D (someB k o.c)) = true := by simp
  replace HC1 : Hid (∀ (V : World) (A : Option Addr) (cc : Nat), Below W1.heap.size W1 V → Lies V A cc k (someB k o.c) → Calls Tryz.prog 12 #[ptr q, .slice A k cc] V fun e V' => e = .returned (.tuple #[.int .i64 (G.appAt D (someB k o.c)), .int .i64 (G.appE D (someB k o.c))]) ∧ Wd w V' z p L M m a b c q x (G.appD D (someB k o.c)) D (G.appG D (someB k o.c)) G s ∧ Turn (WT z p L M m a b q x) V V') := fun V A cc hV hl => HC1.out V hV A k cc _ hl (by omega)
  replace HC2 : Hid (∀ (V : World) (A : Option Addr) (cc : Nat), Wd w V z p L M m a b c q x (G.appD D (someB k o.c)) D (G.appG D (someB k o.c)) G s → Lies V A cc k (someB k o.c) → Calls Tryz.prog 24 #[ptr x, .slice A k cc] V fun e V' => e = .returned (.tuple #[.int .i64 (G.appAt D (someB k o.c)), .int .i64 (G.appE D (someB k o.c))]) ∧ Wd w V' z p L M m a b c q x (G.appD D (someB k o.c)) (G.appD D (someB k o.c)) (G.appG D (someB k o.c)) (G.appG D (someB k o.c)) s ∧ Turn (WT z p L M m a b q x) V V') := fun V A cc hV hl => HC2.out V hV A k cc _ hl (by omega)
  generalize G.appE D (someB k o.c) = ae at *
  generalize G.appAt D (someB k o.c) = aa at *
  generalize G.appD D (someB k o.c) = D2 at *
  generalize G.appG D (someB k o.c) = G2 at *
  have t2 : decide (o.what ≤ 2) = true := decide_eq_true (by omega)
  have t1 : decide (0 ≤ o.what) = true := decide_eq_true (by omega)
  have t1' : decide (o.what ≥ 0) = true := decide_eq_true (by omega)
  clear hr
  generalize o.what = wh at *
  generalize o.N = oN at *
  generalize hse : s.e = se at hne z6
  clear hse
  have v2 : ∀ V, Turn (WT z p L M m a b q x) W1 V → V.cell? ⟨z, 2, none⟩ = some (ptr q) := fun V hV => HW1.out.t2 HE.out hV
  have uo2 : ∀ V, Turn (WT z p L M m a b q x) W1 V → V.cell? ⟨g, 2, none⟩ = some (.int .u8 (o.c.toNat : Int)) := fun V hV => (HO1.out.turn hV (fun hk => HG.out hk.1)).c2
  go_upto_region 14 with fail
  refine wp_region_turn (X := (WT z p L M m a b q x)) (by kernel_rfl) ?_
  have hS : Turn (WT z p L M m a b q x) W1 (World.drew W1) := (Turn.refl _ _).drew
  refine wpAnyH_take (i := 0) (oi := ⟨some 122, _, _, _, _, _⟩) (v := ?_) rfl (by kernel_rfl) (by kernel_rfl) (by kernel_rfl) (fun _ _ _ h => h) (Or.inl ⟨by rfl, ?_⟩) hS ?_
  rotate_left
  · intro W hW; go_simp; with_reducible rfl
  try simp only [Act.put, List.setIfInBounds_toArray, List.set_cons_zero, List.set_cons_succ]
  refine wpAnyH_take (i := 1) (oi := ⟨some 123, _, _, _, _, _⟩) (v := ?_) rfl (by kernel_rfl) (by kernel_rfl) (by kernel_rfl) (fun _ _ _ h => h) (Or.inl ⟨by rfl, ?_⟩) hS ?_
  rotate_left
  · intro W hW; go_simp; with_reducible rfl
  try simp only [Act.put, List.setIfInBounds_toArray, List.set_cons_zero, List.set_cons_succ]
  refine wpAnyH_take (i := 2) (oi := ⟨some 124, _, _, _, _, _⟩) (v := ?_) rfl (by kernel_rfl) (by kernel_rfl) (by kernel_rfl) (fun _ _ _ h => h) (Or.inl ⟨by rfl, ?_⟩) hS ?_
  rotate_left
  · intro W hW; go_simp; with_reducible rfl
  try simp only [Act.put, List.setIfInBounds_toArray, List.set_cons_zero, List.set_cons_succ]
  refine wpAnyH_take (i := 3) (oi := ⟨some 125, _, _, _, _, _⟩) (v := ?_) rfl (by kernel_rfl) (by kernel_rfl) (by kernel_rfl) (fun _ _ _ h => h) (Or.inl ⟨by rfl, ?_⟩) hS ?_
  rotate_left
  · intro W hW; go_simp; with_reducible rfl
  try simp only [Act.put, List.setIfInBounds_toArray, List.set_cons_zero, List.set_cons_succ]
  refine wpAnyH_take (i := 4) (oi := ⟨some 126, _, _, _, _, _⟩) (v := ?_) rfl (by kernel_rfl) (by kernel_rfl) (by kernel_rfl) (fun _ _ _ h => h) (Or.inl ⟨by rfl, ?_⟩) hS ?_
  rotate_left
  · intro W hW; go_simp; with_reducible rfl
  try simp only [Act.put, List.setIfInBounds_toArray, List.set_cons_zero, List.set_cons_succ]
  refine wpAnyH_take (i := 5) (oi := ⟨some 127, _, _, _, _, _⟩) (v := ?_) rfl (by kernel_rfl) (by kernel_rfl) (by kernel_rfl) (fun _ _ _ h => h) (Or.inl ⟨by rfl, ?_⟩) hS ?_
  rotate_left
  · intro W hW; go_simp; with_reducible rfl
  try simp only [Act.put, List.setIfInBounds_toArray, List.set_cons_zero, List.set_cons_succ]
  refine wpAnyH_take (i := 6) (oi := ⟨some 128, _, _, _, _, _⟩) (v := ?_) rfl (by kernel_rfl) (by kernel_rfl) (by kernel_rfl) (fun _ _ _ h => h) (Or.inl ⟨by rfl, ?_⟩) hS ?_
  rotate_left
  · intro W hW; go_simp; with_reducible rfl
  try simp only [Act.put, List.setIfInBounds_toArray, List.set_cons_zero, List.set_cons_succ]
  refine wpAnyH_ready (rs := [7]) (by kernel_rfl) (by simp) ?_
  refine AllReadyH.cons (o := ⟨some 129, _, _, _, _, _⟩) rfl (fun Kr hKr => ?_) AllReadyH.nil
  -- operation 7: a call
  go_simp
  refine (some_any k (by omega) o.c _).mono ?_
  rintro e W2 ⟨AW2, cW2, rfl, hown, hb2⟩
  have HBW2 : Hid (Below W1.heap.size W1 W2) := below_two ((Below.refl _ _).drew) hb2
  have HLW2 := Lib.hid hown.lies
  clear hown hb2
  show Kr _ _
  refine hKr.out _ _ ?_ (fun _ => ?_)
  · exact Turn.ofBelow HBW2.out
  clear hKr Kr
  replace hS : Turn (WT z p L M m a b q x) W1 W2 := Turn.ofBelow HBW2.out
  try simp only [Act.put, List.setIfInBounds_toArray, List.set_cons_zero, List.set_cons_succ]
  refine wpAnyH_ready (rs := [8]) (by kernel_rfl) (by simp) ?_
  refine AllReadyH.cons (o := ⟨some 130, _, _, _, _, _⟩) rfl (fun Kr hKr => ?_) AllReadyH.nil
  -- operation 8: a call
  go_simp
  refine (HC1.out _ AW2 cW2 HBW2.out HLW2.out).mono ?_
  rintro e W3 ⟨rfl, h2, ht2⟩
  have HWW3 := Lib.hid h2
  have HTW3 : Hid (Turn (WT z p L M m a b q x) W1 W3) := (hS).trans ht2
  clear h2 ht2
  show Kr _ _
  refine hKr.out _ _ ?_ (fun _ => ?_)
  · exact HTW3.out
  clear hKr Kr
  replace hS : Turn (WT z p L M m a b q x) W1 W3 := HTW3.out
  try simp only [Act.put, List.setIfInBounds_toArray, List.set_cons_zero, List.set_cons_succ]
  refine wpAnyH_take (i := 9) (oi := ⟨some 121, _, _, _, _, _⟩) (v := ?_) rfl (by kernel_rfl) (by kernel_rfl) (by kernel_rfl) (fun _ _ _ h => h) (Or.inl ⟨by rfl, ?_⟩) hS ?_
  rotate_left
  · intro W hW; go_simp; with_reducible rfl
  try simp only [Act.put, List.setIfInBounds_toArray, List.set_cons_zero, List.set_cons_succ]
  refine wpAnyH_take (i := 10) (oi := ⟨some 131, _, _, _, _, _⟩) (v := ?_) rfl (by kernel_rfl) (by kernel_rfl) (by kernel_rfl) (fun _ _ _ h => h) (Or.inl ⟨by rfl, ?_⟩) hS ?_
  rotate_left
  · intro W hW; go_simp; with_reducible rfl
  try simp only [Act.put, List.setIfInBounds_toArray, List.set_cons_zero, List.set_cons_succ]
  refine wpAnyH_take (i := 11) (oi := ⟨some 132, _, _, _, _, _⟩) (v := ?_) rfl (by kernel_rfl) (by kernel_rfl) (by kernel_rfl) (fun _ _ _ h => h) (Or.inl ⟨by rfl, ?_⟩) hS ?_
  rotate_left
  · intro W hW; go_simp; with_reducible rfl
  try simp only [Act.put, List.setIfInBounds_toArray, List.set_cons_zero, List.set_cons_succ]
  refine wpAnyH_take (i := 12) (oi := ⟨some 10, _, _, _, _, _⟩) (v := ?_) rfl (by kernel_rfl) (by kernel_rfl) (by kernel_rfl) (fun _ _ _ h => h) (Or.inl ⟨by rfl, ?_⟩) hS ?_
  rotate_left
  · intro W hW; go_simp; with_reducible rfl
  try simp only [Act.put, List.setIfInBounds_toArray, List.set_cons_zero, List.set_cons_succ]
  refine wpAnyH_take (i := 13) (oi := ⟨some 11, _, _, _, _, _⟩) (v := ?_) rfl (by kernel_rfl) (by kernel_rfl) (by kernel_rfl) (fun _ _ _ h => h) (Or.inl ⟨by rfl, ?_⟩) hS ?_
  rotate_left
  · intro W hW; go_simp; with_reducible rfl
  try simp only [Act.put, List.setIfInBounds_toArray, List.set_cons_zero, List.set_cons_succ]
  refine wpAnyH_done (by kernel_rfl) ?_ _
  have HO3 := Lib.hid (HO1.out.turn HTW3.out (fun hk => HG.out hk.1))
  clear hS v2 uo2 HC1 o0 o1 z6
  have v3 : ∀ V, Turn (WT z p L M m a b q x) W3 V → V.cell? ⟨z, 3, none⟩ = some (ptr x) := fun V hV => HWW3.out.t3 HE.out hV
  have uo2 : ∀ V, Turn (WT z p L M m a b q x) W3 V → V.cell? ⟨g, 2, none⟩ = some (.int .u8 (o.c.toNat : Int)) := fun V hV => (HO3.out.turn hV (fun hk => HG.out hk.1)).c2
  go_upto_region 15 with fail
  refine wp_region_turn (X := (WT z p L M m a b q x)) (by kernel_rfl) ?_
  have hS : Turn (WT z p L M m a b q x) W3 (World.drew W3) := (Turn.refl _ _).drew
  refine wpAnyH_take (i := 0) (oi := ⟨some 134, _, _, _, _, _⟩) (v := ?_) rfl (by kernel_rfl) (by kernel_rfl) (by kernel_rfl) (fun _ _ _ h => h) (Or.inl ⟨by rfl, ?_⟩) hS ?_
  rotate_left
  · intro W hW; go_simp; with_reducible rfl
  try simp only [Act.put, List.setIfInBounds_toArray, List.set_cons_zero, List.set_cons_succ]
  refine wpAnyH_take (i := 1) (oi := ⟨some 135, _, _, _, _, _⟩) (v := ?_) rfl (by kernel_rfl) (by kernel_rfl) (by kernel_rfl) (fun _ _ _ h => h) (Or.inl ⟨by rfl, ?_⟩) hS ?_
  rotate_left
  · intro W hW; go_simp; with_reducible rfl
  try simp only [Act.put, List.setIfInBounds_toArray, List.set_cons_zero, List.set_cons_succ]
  refine wpAnyH_take (i := 2) (oi := ⟨some 136, _, _, _, _, _⟩) (v := ?_) rfl (by kernel_rfl) (by kernel_rfl) (by kernel_rfl) (fun _ _ _ h => h) (Or.inl ⟨by rfl, ?_⟩) hS ?_
  rotate_left
  · intro W hW; go_simp; with_reducible rfl
  try simp only [Act.put, List.setIfInBounds_toArray, List.set_cons_zero, List.set_cons_succ]
  refine wpAnyH_take (i := 3) (oi := ⟨some 137, _, _, _, _, _⟩) (v := ?_) rfl (by kernel_rfl) (by kernel_rfl) (by kernel_rfl) (fun _ _ _ h => h) (Or.inl ⟨by rfl, ?_⟩) hS ?_
  rotate_left
  · intro W hW; go_simp; with_reducible rfl
  try simp only [Act.put, List.setIfInBounds_toArray, List.set_cons_zero, List.set_cons_succ]
  refine wpAnyH_take (i := 4) (oi := ⟨some 138, _, _, _, _, _⟩) (v := ?_) rfl (by kernel_rfl) (by kernel_rfl) (by kernel_rfl) (fun _ _ _ h => h) (Or.inl ⟨by rfl, ?_⟩) hS ?_
  rotate_left
  · intro W hW; go_simp; with_reducible rfl
  try simp only [Act.put, List.setIfInBounds_toArray, List.set_cons_zero, List.set_cons_succ]
  refine wpAnyH_take (i := 5) (oi := ⟨some 139, _, _, _, _, _⟩) (v := ?_) rfl (by kernel_rfl) (by kernel_rfl) (by kernel_rfl) (fun _ _ _ h => h) (Or.inl ⟨by rfl, ?_⟩) hS ?_
  rotate_left
  · intro W hW; go_simp; with_reducible rfl
  try simp only [Act.put, List.setIfInBounds_toArray, List.set_cons_zero, List.set_cons_succ]
  refine wpAnyH_take (i := 6) (oi := ⟨some 140, _, _, _, _, _⟩) (v := ?_) rfl (by kernel_rfl) (by kernel_rfl) (by kernel_rfl) (fun _ _ _ h => h) (Or.inl ⟨by rfl, ?_⟩) hS ?_
  rotate_left
  · intro W hW; go_simp; with_reducible rfl
  try simp only [Act.put, List.setIfInBounds_toArray, List.set_cons_zero, List.set_cons_succ]
  refine wpAnyH_ready (rs := [7]) (by kernel_rfl) (by simp) ?_
  refine AllReadyH.cons (o := ⟨some 141, _, _, _, _, _⟩) rfl (fun Kr hKr => ?_) AllReadyH.nil
  -- operation 7: a call
  go_simp
  refine (some_any k (by omega) o.c _).mono ?_
  rintro e W4 ⟨AW4, cW4, rfl, hown, hb2⟩
  have HBW4 : Hid (Below W3.heap.size W3 W4) := below_two ((Below.refl _ _).drew) hb2
  have HLW4 := Lib.hid hown.lies
  clear hown hb2
  show Kr _ _
  refine hKr.out _ _ ?_ (fun _ => ?_)
  · exact Turn.ofBelow HBW4.out
  clear hKr Kr
  replace hS : Turn (WT z p L M m a b q x) W3 W4 := Turn.ofBelow HBW4.out
  try simp only [Act.put, List.setIfInBounds_toArray, List.set_cons_zero, List.set_cons_succ]
  refine wpAnyH_ready (rs := [8]) (by kernel_rfl) (by simp) ?_
  refine AllReadyH.cons (o := ⟨some 142, _, _, _, _, _⟩) rfl (fun Kr hKr => ?_) AllReadyH.nil
  -- operation 8: a call
  go_simp
  refine (HC2.out _ AW4 cW4 (HWW3.out.below HBW4.out) HLW4.out).mono ?_
  rintro e W5 ⟨rfl, h2, ht2⟩
  have HWW5 := Lib.hid h2
  have HTW5 : Hid (Turn (WT z p L M m a b q x) W3 W5) := (hS).trans ht2
  clear h2 ht2
  show Kr _ _
  refine hKr.out _ _ ?_ (fun _ => ?_)
  · exact HTW5.out
  clear hKr Kr
  replace hS : Turn (WT z p L M m a b q x) W3 W5 := HTW5.out
  try simp only [Act.put, List.setIfInBounds_toArray, List.set_cons_zero, List.set_cons_succ]
  refine wpAnyH_take (i := 9) (oi := ⟨some 133, _, _, _, _, _⟩) (v := ?_) rfl (by kernel_rfl) (by kernel_rfl) (by kernel_rfl) (fun _ _ _ h => h) (Or.inl ⟨by rfl, ?_⟩) hS ?_
  rotate_left
  · intro W hW; go_simp; with_reducible rfl
  try simp only [Act.put, List.setIfInBounds_toArray, List.set_cons_zero, List.set_cons_succ]
  refine wpAnyH_take (i := 10) (oi := ⟨some 143, _, _, _, _, _⟩) (v := ?_) rfl (by kernel_rfl) (by kernel_rfl) (by kernel_rfl) (fun _ _ _ h => h) (Or.inl ⟨by rfl, ?_⟩) hS ?_
  rotate_left
  · intro W hW; go_simp; with_reducible rfl
  try simp only [Act.put, List.setIfInBounds_toArray, List.set_cons_zero, List.set_cons_succ]
  refine wpAnyH_take (i := 11) (oi := ⟨some 144, _, _, _, _, _⟩) (v := ?_) rfl (by kernel_rfl) (by kernel_rfl) (by kernel_rfl) (fun _ _ _ h => h) (Or.inl ⟨by rfl, ?_⟩) hS ?_
  rotate_left
  · intro W hW; go_simp; with_reducible rfl
  try simp only [Act.put, List.setIfInBounds_toArray, List.set_cons_zero, List.set_cons_succ]
  refine wpAnyH_take (i := 12) (oi := ⟨some 12, _, _, _, _, _⟩) (v := ?_) rfl (by kernel_rfl) (by kernel_rfl) (by kernel_rfl) (fun _ _ _ h => h) (Or.inl ⟨by rfl, ?_⟩) hS ?_
  rotate_left
  · intro W hW; go_simp; with_reducible rfl
  try simp only [Act.put, List.setIfInBounds_toArray, List.set_cons_zero, List.set_cons_succ]
  refine wpAnyH_take (i := 13) (oi := ⟨some 13, _, _, _, _, _⟩) (v := ?_) rfl (by kernel_rfl) (by kernel_rfl) (by kernel_rfl) (fun _ _ _ h => h) (Or.inl ⟨by rfl, ?_⟩) hS ?_
  rotate_left
  · intro W hW; go_simp; with_reducible rfl
  try simp only [Act.put, List.setIfInBounds_toArray, List.set_cons_zero, List.set_cons_succ]
  refine wpAnyH_done (by kernel_rfl) ?_ _
  clear hS v3 uo2 HC2
  go_wp2_with fail
  go_ret
  exact HOUT.out _ ⟨_, _, _, _, _, HWW5.out, HS2.out, Int.le_refl _, by omega⟩

end Go.Proofs.YtdjfahnnfhediaaGreat

namespace Go.Proofs.YtdjfahnnfhediaaGreat
set_option maxRecDepth 100000
open Go.RowKit Crc Wm

set_option maxHeartbeats 2000000 in
theorem wdo_drop {w W : World} {z p L M m a b c q x : Nat} {D : Dv} {G : Lg} {s : Sl} (h : Wd w W z p L M m a b c q x D D G G s) (o : Deed) (A K : Option Addr) (ca ck : Nat) (F S : Int) (hsp : D.spent ≤ 100000) (h5 : (o.what == 5) = false) (h6 : (o.what == 6) = false) (h7 : (o.what == 7) = false) (he : s.e = 0) (h4 : Hid (o.what = 4)) :
    Calls Tryz.prog 9 #[ptr z, .agg #[.int .i64 o.what, .int .i64 o.N, .int .u8 (o.c.toNat : Int), .int .i64 o.up, .slice A o.b.length ca, .slice K o.kn ck], .int .i64 F, .int .i64 S] W (WDoOut w z p L M m a b c D s.E) := by
  obtain ⟨k, hk, hkb⟩ := low o.N 255 8 (by decide) (by omega)
  have hk' : k ≤ 255 := by have : k < 256 := hk; omega
  have HOUT : Hid (∀ V, (∃ q x D' G s', Wd w V z p L M m a b c q x D' D' G G s' ∧ D'.spent ≤ D.spent + 100 ∧ s.E ≤ s'.E ∧ s'.E ≤ s.E + 3) → WDoOut w z p L M m a b c D s.E (.returned (.bool true)) V) := fun V hV => ⟨rfl, hV⟩
  have HW1 : Hid (Wd w (W.alloc (.cells #[.int .i64 o.what, .int .i64 o.N, .int .u8 (o.c.toNat : Int), .int .i64 o.up, .slice A o.b.length ca, .slice K o.kn ck] 44)) z p L M m a b c q x D D G G s) := h.below (below_new W _)
  have HO1 : Hid (OAt (W.alloc (.cells #[.int .i64 o.what, .int .i64 o.N, .int .u8 (o.c.toNat : Int), .int .i64 o.up, .slice A o.b.length ca, .slice K o.kn ck] 44)) W.heap.size o A ca K ck) := heap_alloc_new W _
  have HG : Hid (¬ WS z p L M m a b q x W.heap.size) := h.notNew
  have HSP := Lib.hid hsp
  clear h hk hsp
  go_enter Tryz.func9, Tryz.ntmps9
  go_upto_region 1 with fail
  generalize W.alloc (.cells #[.int .i64 o.what, .int .i64 o.N, .int .u8 (o.c.toNat : Int), .int .i64 o.up, .slice A o.b.length ca, .slice K o.kn ck] 44) = W1 at *
  generalize W.heap.size = g at *
  have o0 := HO1.out.c0
  have o1 := HO1.out.c1
  have z6 := HW1.out.c6
  have hne : (s.e != 0) = false := by rw [he]; rfl
  have HE := Lib.hid he
  obtain ⟨y, hy, hyb⟩ := low o.N 7 3 (by decide) (by omega)
  have hy' : y ≤ 7 := by have : y < 8 := hy; omega
  obtain ⟨hl1, hl2, hl3, _⟩ := HW1.out.eLog he
  have hHb : 0 ≤ G.R.H ∧ G.R.H ≤ 1099511627776 := by have h1 := hl3.ok.h0; have h2 := hl3.ok.ht; have h3 := hl3.ok.t1; omega
  have hwr : IntKind.i64.wrap (G.R.H + (y : Int)) = G.R.H + (y : Int) := by rw [IntKind.wrap_i64]; omega
  clear hl1 hl2 hl3 hy
  have HC0 := Lib.hid (fun (V : World) (hV : Below W1.heap.size W1 V) => lhead_any ((HW1.out.below hV).eLog he).1)
  have HC1 := Lib.hid (fun (V : World) (hV : Below W1.heap.size W1 V) => (HW1.out.below hV).drop he (G.R.H + (y : Int)))
  have HC2 := Lib.hid (fun (V : World) (hV : Wd w V z p L M m a b c q x D D (G.dropG (G.R.H + (y : Int))) G s) => hV.rdrop he (G.R.H + (y : Int)))
  have HRH := Lib.hid (fun (V : World) (hV : Wd w V z p L M m a b c q x D D (G.dropG (G.R.H + (y : Int))) G s) => (hV.eLog he).2.1.c3)
  have HRH2 := Lib.hid (fun (V : World) (hV : Wd w V z p L M m a b c q x D D (G.dropG (G.R.H + (y : Int))) (G.dropG (G.R.H + (y : Int))) s) => (hV.eLog he).2.1.c3)
  clear he
  have hq1 : (G.dropE (G.R.H + (y : Int)) == G.dropE (G.R.H + (y : Int))) = true := by simp
  generalize G.dropE (G.R.H + (y : Int)) = de at *
  generalize G.dropG (G.R.H + (y : Int)) = G2 at *
  generalize G.R.H = gH at *
  have t2 : decide (o.what ≤ 2) = false := decide_eq_false (by have := h4.out; omega)
  have t1 : decide (0 ≤ o.what) = true := decide_eq_true (by have := h4.out; omega)
  have t1' : decide (o.what ≥ 0) = true := decide_eq_true (by have := h4.out; omega)
  have t3 : (o.what == 3) = false := by rw [h4.out]; rfl
  have t4 : (o.what == 4) = true := by rw [h4.out]; rfl
  clear h4
  generalize o.what = wh at *
  generalize hse : s.e = se at hne z6
  clear hse
  have v2 : ∀ V, Turn (WT z p L M m a b q x) W1 V → V.cell? ⟨z, 2, none⟩ = some (ptr q) := fun V hV => HW1.out.t2 HE.out hV
  have uo1 : ∀ V, Turn (WT z p L M m a b q x) W1 V → V.cell? ⟨g, 1, none⟩ = some (.int .i64 o.N) := fun V hV => (HO1.out.turn hV (fun hk => HG.out hk.1)).c1
  go_upto_region 20 with fail
  refine wp_region_turn (X := (WT z p L M m a b q x)) (by kernel_rfl) ?_
  have hS : Turn (WT z p L M m a b q x) W1 (World.drew W1) := (Turn.refl _ _).drew
  refine wpAnyH_take (i := 0) (oi := ⟨some 172, _, _, _, _, _⟩) (v := ?_) rfl (by kernel_rfl) (by kernel_rfl) (by kernel_rfl) (fun _ _ _ h => h) (Or.inl ⟨by rfl, ?_⟩) hS ?_
  rotate_left
  · intro W hW; go_simp; with_reducible rfl
  try simp only [Act.put, List.setIfInBounds_toArray, List.set_cons_zero, List.set_cons_succ]
  refine wpAnyH_take (i := 1) (oi := ⟨some 173, _, _, _, _, _⟩) (v := ?_) rfl (by kernel_rfl) (by kernel_rfl) (by kernel_rfl) (fun _ _ _ h => h) (Or.inl ⟨by rfl, ?_⟩) hS ?_
  rotate_left
  · intro W hW; go_simp; with_reducible rfl
  try simp only [Act.put, List.setIfInBounds_toArray, List.set_cons_zero, List.set_cons_succ]
  refine wpAnyH_take (i := 2) (oi := ⟨some 174, _, _, _, _, _⟩) (v := ?_) rfl (by kernel_rfl) (by kernel_rfl) (by kernel_rfl) (fun _ _ _ h => h) (Or.inl ⟨by rfl, ?_⟩) hS ?_
  rotate_left
  · intro W hW; go_simp; with_reducible rfl
  try simp only [Act.put, List.setIfInBounds_toArray, List.set_cons_zero, List.set_cons_succ]
  refine wpAnyH_take (i := 3) (oi := ⟨some 175, _, _, _, _, _⟩) (v := ?_) rfl (by kernel_rfl) (by kernel_rfl) (by kernel_rfl) (fun _ _ _ h => h) (Or.inl ⟨by rfl, ?_⟩) hS ?_
  rotate_left
  · intro W hW; go_simp; with_reducible rfl
  try simp only [Act.put, List.setIfInBounds_toArray, List.set_cons_zero, List.set_cons_succ]
  refine wpAnyH_take (i := 4) (oi := ⟨some 176, _, _, _, _, _⟩) (v := ?_) rfl (by kernel_rfl) (by kernel_rfl) (by kernel_rfl) (fun _ _ _ h => h) (Or.inl ⟨by rfl, ?_⟩) hS ?_
  rotate_left
  · intro W hW; go_simp; with_reducible rfl
  try simp only [Act.put, List.setIfInBounds_toArray, List.set_cons_zero, List.set_cons_succ]
  refine wpAnyH_take (i := 5) (oi := ⟨some 177, _, _, _, _, _⟩) (v := ?_) rfl (by kernel_rfl) (by kernel_rfl) (by kernel_rfl) (fun _ _ _ h => h) (Or.inl ⟨by rfl, ?_⟩) hS ?_
  rotate_left
  · intro W hW; go_simp; with_reducible rfl
  try simp only [Act.put, List.setIfInBounds_toArray, List.set_cons_zero, List.set_cons_succ]
  refine wpAnyH_take (i := 6) (oi := ⟨some 178, _, _, _, _, _⟩) (v := ?_) rfl (by kernel_rfl) (by kernel_rfl) (by kernel_rfl) (fun _ _ _ h => h) (Or.inl ⟨by rfl, ?_⟩) hS ?_
  rotate_left
  · intro W hW; go_simp; with_reducible rfl
  try simp only [Act.put, List.setIfInBounds_toArray, List.set_cons_zero, List.set_cons_succ]
  refine wpAnyH_take (i := 7) (oi := ⟨some 179, _, _, _, _, _⟩) (v := ?_) rfl (by kernel_rfl) (by kernel_rfl) (by kernel_rfl) (fun _ _ _ h => h) (Or.inl ⟨by rfl, ?_⟩) hS ?_
  rotate_left
  · intro W hW; go_simp; with_reducible rfl
  try simp only [Act.put, List.setIfInBounds_toArray, List.set_cons_zero, List.set_cons_succ]
  refine wpAnyH_take (i := 9) (oi := ⟨some 181, _, _, _, _, _⟩) (v := ?_) rfl (by kernel_rfl) (by kernel_rfl) (by kernel_rfl) (fun _ _ _ h => h) (Or.inl ⟨by rfl, ?_⟩) hS ?_
  rotate_left
  · intro W hW; go_simp; with_reducible rfl
  try simp only [Act.put, List.setIfInBounds_toArray, List.set_cons_zero, List.set_cons_succ]
  refine wpAnyH_take (i := 10) (oi := ⟨some 182, _, _, _, _, _⟩) (v := ?_) rfl (by kernel_rfl) (by kernel_rfl) (by kernel_rfl) (fun _ _ _ h => h) (Or.inl ⟨by rfl, ?_⟩) hS ?_
  rotate_left
  · intro W hW; go_simp; with_reducible rfl
  try simp only [Act.put, List.setIfInBounds_toArray, List.set_cons_zero, List.set_cons_succ]
  refine wpAnyH_take (i := 11) (oi := ⟨some 183, _, _, _, _, _⟩) (v := ?_) rfl (by kernel_rfl) (by kernel_rfl) (by kernel_rfl) (fun _ _ _ h => h) (Or.inl ⟨by rfl, ?_⟩) hS ?_
  rotate_left
  · intro W hW; go_simp; with_reducible rfl
  try simp only [Act.put, List.setIfInBounds_toArray, List.set_cons_zero, List.set_cons_succ]
  refine wpAnyH_ready (rs := [8]) (by kernel_rfl) (by simp) ?_
  refine AllReadyH.cons (o := ⟨some 180, _, _, _, _, _⟩) rfl (fun Kr hKr => ?_) AllReadyH.nil
  -- operation 8: a call
  go_simp
  refine (HC0.out _ ((Below.refl _ _).drew)).mono ?_
  rintro e V1 ⟨rfl, hx⟩
  replace hx := hx.symm
  subst hx
  show Kr _ _
  refine hKr.out _ _ ?_ (fun _ => ?_)
  · exact hS
  clear hKr Kr
  try simp only [Act.put, List.setIfInBounds_toArray, List.set_cons_zero, List.set_cons_succ]
  refine wpAnyH_take (i := 12) (oi := ⟨some 184, _, _, _, _, _⟩) (v := ?_) rfl (by kernel_rfl) (by kernel_rfl) (by kernel_rfl) (fun _ _ _ h => h) (Or.inl ⟨by rfl, ?_⟩) hS ?_
  rotate_left
  · intro W hW; go_simp; with_reducible rfl
  try simp only [Act.put, List.setIfInBounds_toArray, List.set_cons_zero, List.set_cons_succ]
  refine wpAnyH_ready (rs := [13]) (by kernel_rfl) (by simp) ?_
  refine AllReadyH.cons (o := ⟨some 185, _, _, _, _, _⟩) rfl (fun Kr hKr => ?_) AllReadyH.nil
  -- operation 13: a call
  go_simp
  refine (HC1.out _ ((Below.refl _ _).drew)).mono ?_
  rintro e W2 ⟨rfl, h2, ht2⟩
  have HWW2 := Lib.hid h2
  have HTW2 : Hid (Turn (WT z p L M m a b q x) W1 W2) := ((Turn.refl _ _).drew).trans ht2
  clear h2 ht2
  show Kr _ _
  refine hKr.out _ _ ?_ (fun _ => ?_)
  · exact HTW2.out
  clear hKr Kr
  replace hS : Turn (WT z p L M m a b q x) W1 W2 := HTW2.out
  try simp only [Act.put, List.setIfInBounds_toArray, List.set_cons_zero, List.set_cons_succ]
  refine wpAnyH_take (i := 14) (oi := ⟨some 14, _, _, _, _, _⟩) (v := ?_) rfl (by kernel_rfl) (by kernel_rfl) (by kernel_rfl) (fun _ _ _ h => h) (Or.inl ⟨by rfl, ?_⟩) hS ?_
  rotate_left
  · intro W hW; go_simp; with_reducible rfl
  try simp only [Act.put, List.setIfInBounds_toArray, List.set_cons_zero, List.set_cons_succ]
  refine wpAnyH_done (by kernel_rfl) ?_ _
  have HO2 := Lib.hid (HO1.out.turn HTW2.out (fun hk => HG.out hk.1))
  clear hS v2 uo1 HC1 HC0 o0 o1 z6
  have v3 : ∀ V, Turn (WT z p L M m a b q x) W2 V → V.cell? ⟨z, 3, none⟩ = some (ptr x) := fun V hV => HWW2.out.t3 HE.out hV
  have uo1 : ∀ V, Turn (WT z p L M m a b q x) W2 V → V.cell? ⟨g, 1, none⟩ = some (.int .i64 o.N) := fun V hV => (HO2.out.turn hV (fun hk => HG.out hk.1)).c1
  have x3 := HRH.out _ (HWW2.out.below (V := W2.drew) ((Below.refl _ _).drew))
  go_upto_region 21 with fail
  refine wp_region_turn (X := (WT z p L M m a b q x)) (by kernel_rfl) ?_
  have hS : Turn (WT z p L M m a b q x) W2 (World.drew W2) := (Turn.refl _ _).drew
  refine wpAnyH_take (i := 0) (oi := ⟨some 186, _, _, _, _, _⟩) (v := ?_) rfl (by kernel_rfl) (by kernel_rfl) (by kernel_rfl) (fun _ _ _ h => h) (Or.inl ⟨by rfl, ?_⟩) hS ?_
  rotate_left
  · intro W hW; go_simp; with_reducible rfl
  try simp only [Act.put, List.setIfInBounds_toArray, List.set_cons_zero, List.set_cons_succ]
  refine wpAnyH_take (i := 1) (oi := ⟨some 187, _, _, _, _, _⟩) (v := ?_) rfl (by kernel_rfl) (by kernel_rfl) (by kernel_rfl) (fun _ _ _ h => h) (Or.inl ⟨by rfl, ?_⟩) hS ?_
  rotate_left
  · intro W hW; go_simp; with_reducible rfl
  try simp only [Act.put, List.setIfInBounds_toArray, List.set_cons_zero, List.set_cons_succ]
  refine wpAnyH_take (i := 2) (oi := ⟨some 188, _, _, _, _, _⟩) (v := ?_) rfl (by kernel_rfl) (by kernel_rfl) (by kernel_rfl) (fun _ _ _ h => h) (Or.inl ⟨by rfl, ?_⟩) hS ?_
  rotate_left
  · intro W hW; go_simp; with_reducible rfl
  try simp only [Act.put, List.setIfInBounds_toArray, List.set_cons_zero, List.set_cons_succ]
  refine wpAnyH_take (i := 3) (oi := ⟨some 189, _, _, _, _, _⟩) (v := ?_) rfl (by kernel_rfl) (by kernel_rfl) (by kernel_rfl) (fun _ _ _ h => h) (Or.inl ⟨by rfl, ?_⟩) hS ?_
  rotate_left
  · intro W hW; go_simp; with_reducible rfl
  try simp only [Act.put, List.setIfInBounds_toArray, List.set_cons_zero, List.set_cons_succ]
  refine wpAnyH_take (i := 4) (oi := ⟨some 190, _, _, _, _, _⟩) (v := ?_) rfl (by kernel_rfl) (by kernel_rfl) (by kernel_rfl) (fun _ _ _ h => h) (Or.inl ⟨by rfl, ?_⟩) hS ?_
  rotate_left
  · intro W hW; go_simp; with_reducible rfl
  try simp only [Act.put, List.setIfInBounds_toArray, List.set_cons_zero, List.set_cons_succ]
  refine wpAnyH_take (i := 5) (oi := ⟨some 191, _, _, _, _, _⟩) (v := ?_) rfl (by kernel_rfl) (by kernel_rfl) (by kernel_rfl) (fun _ _ _ h => h) (Or.inl ⟨by rfl, ?_⟩) hS ?_
  rotate_left
  · intro W hW; go_simp; with_reducible rfl
  try simp only [Act.put, List.setIfInBounds_toArray, List.set_cons_zero, List.set_cons_succ]
  refine wpAnyH_take (i := 6) (oi := ⟨some 192, _, _, _, _, _⟩) (v := ?_) rfl (by kernel_rfl) (by kernel_rfl) (by kernel_rfl) (fun _ _ _ h => h) (Or.inl ⟨by rfl, ?_⟩) hS ?_
  rotate_left
  · intro W hW; go_simp; with_reducible rfl
  try simp only [Act.put, List.setIfInBounds_toArray, List.set_cons_zero, List.set_cons_succ]
  refine wpAnyH_take (i := 7) (oi := ⟨some 193, _, _, _, _, _⟩) (v := ?_) rfl (by kernel_rfl) (by kernel_rfl) (by kernel_rfl) (fun _ _ _ h => h) (Or.inl ⟨by rfl, ?_⟩) hS ?_
  rotate_left
  · intro W hW; go_simp; with_reducible rfl
  try simp only [Act.put, List.setIfInBounds_toArray, List.set_cons_zero, List.set_cons_succ]
  refine wpAnyH_take (i := 8) (oi := ⟨some 194, _, _, _, _, _⟩) (v := ?_) rfl (by kernel_rfl) (by kernel_rfl) (by kernel_rfl) (fun _ _ _ h => h) (Or.inl ⟨by rfl, ?_⟩) hS ?_
  rotate_left
  · intro W hW; go_simp; with_reducible rfl
  try simp only [Act.put, List.setIfInBounds_toArray, List.set_cons_zero, List.set_cons_succ]
  refine wpAnyH_take (i := 9) (oi := ⟨some 195, _, _, _, _, _⟩) (v := ?_) rfl (by kernel_rfl) (by kernel_rfl) (by kernel_rfl) (fun _ _ _ h => h) (Or.inl ⟨by rfl, ?_⟩) hS ?_
  rotate_left
  · intro W hW; go_simp; with_reducible rfl
  try simp only [Act.put, List.setIfInBounds_toArray, List.set_cons_zero, List.set_cons_succ]
  refine wpAnyH_take (i := 10) (oi := ⟨some 196, _, _, _, _, _⟩) (v := ?_) rfl (by kernel_rfl) (by kernel_rfl) (by kernel_rfl) (fun _ _ _ h => h) (Or.inl ⟨by rfl, ?_⟩) hS ?_
  rotate_left
  · intro W hW; go_simp; with_reducible rfl
  try simp only [Act.put, List.setIfInBounds_toArray, List.set_cons_zero, List.set_cons_succ]
  refine wpAnyH_take (i := 12) (oi := ⟨some 198, _, _, _, _, _⟩) (v := ?_) rfl (by kernel_rfl) (by kernel_rfl) (by kernel_rfl) (fun _ _ _ h => h) (Or.inl ⟨by rfl, ?_⟩) hS ?_
  rotate_left
  · intro W hW; go_simp; with_reducible rfl
  try simp only [Act.put, List.setIfInBounds_toArray, List.set_cons_zero, List.set_cons_succ]
  refine wpAnyH_take (i := 13) (oi := ⟨some 199, _, _, _, _, _⟩) (v := ?_) rfl (by kernel_rfl) (by kernel_rfl) (by kernel_rfl) (fun _ _ _ h => h) (Or.inl ⟨by rfl, ?_⟩) hS ?_
  rotate_left
  · intro W hW; go_simp; with_reducible rfl
  try simp only [Act.put, List.setIfInBounds_toArray, List.set_cons_zero, List.set_cons_succ]
  refine wpAnyH_take (i := 14) (oi := ⟨some 200, _, _, _, _, _⟩) (v := ?_) rfl (by kernel_rfl) (by kernel_rfl) (by kernel_rfl) (fun _ _ _ h => h) (Or.inl ⟨by rfl, ?_⟩) hS ?_
  rotate_left
  · intro W hW; go_simp; with_reducible rfl
  try simp only [Act.put, List.setIfInBounds_toArray, List.set_cons_zero, List.set_cons_succ]
  refine wpAnyH_ready (rs := [11]) (by kernel_rfl) (by simp) ?_
  refine AllReadyH.cons (o := ⟨some 197, _, _, _, _, _⟩) rfl (fun Kr hKr => ?_) AllReadyH.nil
  -- operation 11: a step
  go_simp
  show Kr _ _
  refine hKr.out _ _ ?_ (fun _ => ?_)
  · exact hS
  clear hKr Kr
  try simp only [Act.put, List.setIfInBounds_toArray, List.set_cons_zero, List.set_cons_succ]
  refine wpAnyH_take (i := 15) (oi := ⟨some 201, _, _, _, _, _⟩) (v := ?_) rfl (by kernel_rfl) (by kernel_rfl) (by kernel_rfl) (fun _ _ _ h => h) (Or.inl ⟨by rfl, ?_⟩) hS ?_
  rotate_left
  · intro W hW; go_simp; with_reducible rfl
  try simp only [Act.put, List.setIfInBounds_toArray, List.set_cons_zero, List.set_cons_succ]
  refine wpAnyH_ready (rs := [16]) (by kernel_rfl) (by simp) ?_
  refine AllReadyH.cons (o := ⟨some 202, _, _, _, _, _⟩) rfl (fun Kr hKr => ?_) AllReadyH.nil
  -- operation 16: a call
  go_simp
  refine (HC2.out _ (HWW2.out.below ((Below.refl _ _).drew))).mono ?_
  rintro e W3 ⟨rfl, h2, ht2⟩
  have HWW3 := Lib.hid h2
  have HTW3 : Hid (Turn (WT z p L M m a b q x) W2 W3) := ((Turn.refl _ _).drew).trans ht2
  clear h2 ht2
  show Kr _ _
  refine hKr.out _ _ ?_ (fun _ => ?_)
  · exact HTW3.out
  clear hKr Kr
  replace hS : Turn (WT z p L M m a b q x) W2 W3 := HTW3.out
  try simp only [Act.put, List.setIfInBounds_toArray, List.set_cons_zero, List.set_cons_succ]
  refine wpAnyH_take (i := 17) (oi := ⟨some 15, _, _, _, _, _⟩) (v := ?_) rfl (by kernel_rfl) (by kernel_rfl) (by kernel_rfl) (fun _ _ _ h => h) (Or.inl ⟨by rfl, ?_⟩) hS ?_
  rotate_left
  · intro W hW; go_simp; with_reducible rfl
  try simp only [Act.put, List.setIfInBounds_toArray, List.set_cons_zero, List.set_cons_succ]
  refine wpAnyH_done (by kernel_rfl) ?_ _
  have HW3 := HWW3
  clear hS v3 uo1 x3
  have z3 := HW3.out.c3 HE.out
  have x3 := HRH2.out _ HW3.out
  have z8 := HW3.out.c8
  have f8 := HW3.out.fr 8
  have HW4 := Lib.hid (HW3.out.head G2.R.H)
  generalize G2.R.H = gH2 at *
  go_wp2_with fail
  go_ret
  exact HOUT.out _ ⟨_, _, _, _, _, HW4.out, Nat.le_add_right _ _, Int.le_refl _, by show s.E ≤ _; omega⟩

end Go.Proofs.YtdjfahnnfhediaaGreat
