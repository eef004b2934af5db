/-
  What bytes tell, the program's way: the deferred one that ends a panic, Decode.
-/
import Derived.Test.YtjpnihmijnpjcaaQf
import Derived.Defers
import Derived.Recover
import Derived.Laws.Pointers
namespace Go.Proofs.Ytjpnihmijnpjcaa
set_option maxRecDepth 100000
set_option linter.unusedVariables false
set_option linter.unusedSimpArgs false
open Go.RowKit Wm Nn

theorem as_errno (v : Value) (w : World) : (Instr.typeAssert (.iface 29 v) 20 29 true).run Try.prog w = .ok (.tuple #[v, .bool true]) w := by kernel_rfl
theorem clo_panic {w : World} {z y : Nat} {cs : Array Value} {v : Value} {E : Int} {older : List PanicEntry} (hz : Bk w z cs 32) (hcs : cs.size = 4) (hy : Bk w y #[v] 29) (hne : z ≠ y) :
    CallsD Try.prog 28 #[.pointer (some ⟨z, 0, none⟩), .pointer (some ⟨y, 0, none⟩)] (.panicking ({ v := .iface 29 (.int .i64 E), recovered := false } :: older)) w fun e u' w' =>
      e = .returned (.tuple #[]) ∧ u' = .panicking ({ v := .iface 29 (.int .i64 E), recovered := true } :: older) ∧ Bk w' z (ntC .zero nr0) 32 ∧ Bk w' y #[.int .i64 E] 29 ∧ Turn (fun q => q = z ∨ q = y) w w' := by
  refine callsD_of_wpS Try.func28 rfl fun c₀ cs hu => ?_
  apply wpS_seq
  apply wpS_region
  simp [wpOpsS, go_sem, recoverD, hu, Try.ntmps28, Exit.thenS]
  refine wpS_of_wp ?_
  simp only [Array.replicate, List.replicate, List.setIfInBounds_toArray, List.set_cons_zero, List.set_cons_succ, List.append_toArray, List.cons_append, List.nil_append]
  have y0 : w.cell? ⟨y, 0, none⟩ = some v := hy.c 0 _ rfl
  have yf := hy.fr 0
  have hta := as_errno (.int .i64 E)
  go_wp2_with (refine wpList_store_bk ty_note hz hcs rfl (.tmp 0) (.tmp 11) rfl rfl (ntC .zero nr0) rfl rfl (ntC_one _ _) ?_; intro w5 hk5 hg5; have hy5 := hy.far hg5 (fun e => by injection e with e; exact hne e.symm); have y5 : w5.cell? ⟨y, 0, none⟩ = some v := hy5.c 0 _ rfl; have yf5 := hy5.fr 0)
  have hs := setCell_grown w5 y 0 (.int .i64 E)
  refine ⟨rfl, _, rfl, _, results_none rfl _ _ _, rfl, rfl, hk5.far hs (fun e => by injection e with e; exact hne e), hy5.set 0 _, ?_⟩
  exact ((Turn.refl _ _).grown hg5 (fun q e => .inl (.inl (by injection e with e; exact e.symm)))).grown hs (fun q e => .inl (.inr (by injection e with e; exact e.symm)))
theorem clo_idle {w : World} {p q : Value} :
    CallsD Try.prog 28 #[p, q] .returning w fun e u' w' => e = .returned (.tuple #[]) ∧ u' = .returning ∧ w' = w := by
  refine callsD_of_wpS Try.func28 rfl fun c₀ cs hu => ?_
  apply wpS_seq
  apply wpS_region
  simp [wpOpsS, go_sem, recoverD, hu, Try.ntmps28, Exit.thenS]
  refine wpS_of_wp ?_
  simp only [Array.replicate, List.replicate, List.setIfInBounds_toArray, List.set_cons_zero, List.set_cons_succ, List.append_toArray, List.cons_append, List.nil_append]
  go_wp2_with fail
  refine ⟨rfl, c₀.mode, ?_, _, results_none rfl _ _ _, rfl, hu, rfl⟩
  cases c₀
  rfl

theorem results_bk_int {fn : Func} {p q : Tmp} {ty ty2 : TypeId} {n g y : Nat} {cs : Array Value} {t : TypeId} {k : IntKind} {E : Int} {w : World} (hT : STy ty n) (hf : fn.results = #[.cell p ty, .cell q ty2]) (h2 : Try.prog.underlying ty2 = some (.int k)) (tmps : Array Value) (hp : tmps.getD p undef = .pointer (some ⟨g, 0, none⟩)) (hq : tmps.getD q undef = .pointer (some ⟨y, 0, none⟩)) (h : Bk w g cs t) (hc : cs.size = n) (hy : w.cell? ⟨y, 0, none⟩ = some (.int k E)) : (results fn tmps).run Try.prog w = .ok (.tuple #[.agg cs, .int k E]) w := by
  have hp' : tmps[p]?.getD undef = .pointer (some ⟨g, 0, none⟩) := by simpa using hp
  have hq' : tmps[q]?.getD undef = .pointer (some ⟨y, 0, none⟩) := by simpa using hq
  have hl : (loadVar ty2 ⟨y, 0, none⟩).run Try.prog w = .ok (.int k E) w := by
    have ha : (isAgg ty2).run Try.prog w = .ok false w := by simp [isAgg, run_underlying h2]
    simp [loadVar, ha, go_sem, hy]
  simp [results, hf, hp', hq', asAddr, Bk.load hT h hc, hl]
set_option maxHeartbeats 2000000 in
theorem pdecode_any (A : Option Addr) (c n : Nat) (l : List UInt8) (w : World) (h : Lies w A c n l) (hn : n ≤ 100000) : Calls Try.prog 14 #[.slice A n c] w (DecodeOut w (decN l) (decE l) A n) := by
  have hmf : ∀ (fn : Fn) (first cap : Array Value) (w : World), (Instr.makeFunc fn first cap).run Try.prog w = .ok (.func fn first cap) w := fun _ _ _ _ => rfl
  have HL := Lib.hid h
  have hcn := h.cap
  obtain ⟨PO, hPO⟩ : ∃ PO, PO = DecodeOut w (decN l) (decE l) A n := ⟨_, rfl⟩
  rw [← hPO]
  have HPO := Lib.hid hPO
  clear h hPO
  go_enter_defers Try.func14, Try.ntmps14
  go_upto_region 2 with fail
  have hC : (#[.int .i64 0, .int .i64 0, .slice none 0 0, .slice none 0 0] : Array Value) = ntC .zero nr0 := rfl
  rw [hC]
  clear hC
  have HZ := Lib.hid ((Bk.new w (ntC .zero nr0) 32).below (below_new _ (.cells #[.int .i64 0] 29)))
  have HY0 := Bk.new (w.alloc (.cells (ntC .zero nr0) 32)) #[.int .i64 0] 29
  have hsz : (w.alloc (.cells (ntC .zero nr0) 32)).heap.size = w.heap.size + 1 := by simp
  rw [hsz] at HY0
  have HY := Lib.hid HY0
  have HB0 := Lib.hid (below_two (below_new w (.cells (ntC .zero nr0) 32)) (below_new _ (.cells #[.int .i64 0] 29)))
  clear HY0 hsz
  generalize (w.alloc (.cells (ntC .zero nr0) 32)).alloc (.cells #[.int .i64 0] 29) = w0 at *
  go_wp2_with fail
  refine (new_any (Lib.hid HL.out.len) hcn (by omega) (HL.out.up HB0.out).rd).mono ?_
  rintro e w1 ⟨rr, rfl, hcu, hb1, hr1⟩
  have HC1 := Lib.hid hcu
  have HZ1 := Lib.hid (HZ.out.below hb1)
  have HY1 := Lib.hid (HY.out.below hb1)
  have HB1 := Lib.hid (HB0.out.trans (hb1.mono HB0.out.size))
  have HR1 := Lib.hid (show w.heap.size + 1 < rr by have := HY.out.lt; omega)
  clear hcu hb1 hr1 HZ HY
  go_wp2_with fail
  refine (note_any rr c n A l w1 HC1.out hn).mono ?_
  rintro e w3 ⟨HG3, ⟨h0, p, rfl, hN, hoff⟩ | ⟨E, hE, hE0, rfl⟩⟩
  · have HE := Lib.hid h0
    have HN := Lib.hid hN
    have HF := Lib.hid hoff
    have HZ3 := Lib.hid (HZ1.out.far HG3.out (fun e => by have := HR1.out; injection e with e; omega))
    have HY3 := Lib.hid (HY1.out.far HG3.out (fun e => by have := HR1.out; injection e with e; omega))
    have HS1 := Lib.hid HY1.out.lt
    clear h0 hN hoff HC1 HZ1 HY1
    go_wp2_with (refine wpList_store_bk ty_note HZ3.out rfl rfl (.tmp 2) (.tmp 8) rfl rfl (ntC (tell l) p) rfl rfl (ntC_one _ _) ?_; intro w5 hk5 hg5; have hy5 := HY3.out.far hg5 (fun e => by injection e with e; omega); have y5 : w5.cell? ⟨w.heap.size + 1, 0, none⟩ = some (.int .i64 0) := hy5.c 0 _ rfl; have yf5 := hy5.fr 0)
    have hs := setCell_grown w5 (w.heap.size + 1) 0 (.int .i64 0)
    have hk6 := hk5.far hs (fun e => by injection e with e; omega)
    have hy6 : Bk (w5.setCell ⟨w.heap.size + 1, 0, none⟩ (.int .i64 0)) (w.heap.size + 1) #[.int .i64 0] 29 := hy5.set 0 _
    show Leaves _ _ _ _ _ .returning _
    refine leaves_cons (f := 28) (args := #[.pointer (some ⟨w.heap.size, 0, none⟩), .pointer (some ⟨w.heap.size + 1, 0, none⟩)]) (by simp) (by simp [go_sem]) ?_
    refine clo_idle.mono ?_
    rintro e u' w6 ⟨rfl, rfl, rfl⟩
    simp only [Leaves, settle]
    refine ⟨_, results_bk_int ty_note rfl Try.underlying29 _ rfl rfl hk6 rfl (hy6.c 0 _ rfl), ?_⟩
    rw [HPO.out, HE.out, decN_ok HE.out]
    have h1 := HR1.out
    have h2 := HB1.out.size
    have h3 := HS1.out
    have h4 := HG3.out.size
    refine ⟨p, rfl, (HN.out.off (HF.out _ (by omega)) hg5).off (HF.out _ h3) hs, ?_, fun q hq _ => HF.out q (by omega)⟩
    exact ((HB1.out.grown HG3.out h2 (fun q e => by injection e with e; omega)).grown hg5 (by omega) (fun q e => by injection e with e; omega)).grown hs (by have := hg5.size; omega) (fun q e => by injection e with e; omega)
  · have HE := Lib.hid (And.intro hE hE0)
    have HZ3 := Lib.hid (HZ1.out.far HG3.out (fun e => by have := HR1.out; injection e with e; omega))
    have HY3 := Lib.hid (HY1.out.far HG3.out (fun e => by have := HR1.out; injection e with e; omega))
    clear hE hE0
    go_wp2_with fail
    refine leaves_cons (f := 28) (args := #[.pointer (some ⟨w.heap.size, 0, none⟩), .pointer (some ⟨w.heap.size + 1, 0, none⟩)]) (by simp) (by simp [go_sem]) ?_
    refine (clo_panic HZ3.out rfl HY3.out (by omega)).mono ?_
    rintro e u' w4 ⟨rfl, rfl, hz4, hy4, ht4⟩
    simp only [Leaves, settle, List.dropWhile_nil]
    refine ⟨_, results_bk_int ty_note rfl Try.underlying29 _ rfl rfl hz4 rfl (hy4.c 0 _ rfl), ?_⟩
    rw [HPO.out, not_told (by rw [HE.out.1]; exact HE.out.2), HE.out.1]
    refine ⟨nr0, rfl, nt_zero _, ?_, fun z _ _ => nr0_off z⟩
    have h1 := HR1.out
    have h2 := HB1.out.size
    exact (HB1.out.grown HG3.out h2 (fun q e => by injection e with e; omega)).trans (ht4.below (fun q e => by rcases e with e | e <;> omega) (by have := HG3.out.size; omega))
end Go.Proofs.Ytjpnihmijnpjcaa
