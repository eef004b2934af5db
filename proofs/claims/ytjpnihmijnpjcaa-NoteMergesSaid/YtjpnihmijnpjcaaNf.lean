/-
  Structs in blocks of their own: stored, answered. An image among images: the document's.
-/
import Derived.Test.YtjpnihmijnpjcaaNe
namespace Go.Proofs.Ytjpnihmijnpjcaa
set_option maxRecDepth 100000
set_option linter.unusedVariables false
set_option linter.unusedSimpArgs false
open Go.RowKit Wm Nn

/-- a struct's type, of n cells -/
def STy (ty : TypeId) (n : Nat) : Prop := (∃ fs, Try.prog.underlying ty = some (.struct fs)) ∧ (Try.prog.info? ty).map (·.size) = some n
theorem ty_im : STy 51 2 := ⟨⟨_, Try.underlying51⟩, by kernel_rfl⟩
theorem ty_rnote : STy 25 4 := ⟨⟨_, Try.underlying25⟩, by kernel_rfl⟩
theorem ty_note : STy 32 4 := ⟨⟨_, Try.underlying32⟩, by kernel_rfl⟩
def imC (k : Int) (a : Option Addr) (n c : Nat) : Array Value := #[.int .i64 k, .slice a n c]
def imV (k : Int) (a : Option Addr) (n c : Nat) : Value := .agg (imC k a n c)

section
variable {w W : World} {g n : Nat} {cs c0 : Array Value} {t ty : TypeId}
theorem Bk.load (hT : STy ty n) (h : Bk w g cs t) (hc : cs.size = n) : (loadVar ty ⟨g, 0, none⟩).run Try.prog w = .ok (.agg cs) w := by
  obtain ⟨⟨fs, hu⟩, hi⟩ := hT
  exact run_loadVar_row w g t ty cs (0, 0) _ h hu rfl (by rw [hc]; exact hi)
theorem Bk.set (h : Bk w g cs t) (j : Nat) (v : Value) : Bk (w.setCell ⟨g, j, none⟩ v) g (cs.setIfInBounds j v) t := Go.heap_setCell_same w g j cs t v h
theorem wpList_store_bk {ops : Array Oper} {rest : List Oper} {o : Oper} {a : Act} {Q : Exit → Act → World → Prop} (hT : STy ty n) (h : Bk w g c0 t) (h0 : c0.size = n) (hgd : o.guard = none) (p y : Operand) (ho : o.op = .store ty p y) (hx : a.eval p = .pointer (some ⟨g, 0, none⟩)) (cs : Array Value) (hy : a.eval y = .agg cs) (hc : cs.size = n) (h1 : cs.all (·.oneCell') = true)
    (k : ∀ w', Bk w' g cs t → w.grownBy w' (some g) → wpList Try.prog ops Q rest (a.put o.dst undef) w') : wpList Try.prog ops Q (o :: rest) a w := by
  obtain ⟨⟨fs, hu⟩, hi⟩ := hT
  refine wpList_store_row hgd ty p y ho g cs hx hy t c0 h (by rw [hc]; exact hi) (by rw [h0, hc]) h1 (k _ (setRow_heap _ _ _ _ _ _ h) ?_)
  exact ⟨rfl, rfl, rfl, by rw [setRow_size]; exact Nat.le_refl _, fun j _ hj => setRow_other w g j _ (fun e => hj (by rw [e]))⟩
theorem results_bk2 {fn : Func} {p u : Tmp} (hT : STy ty n) (hf : fn.results = #[.cell p ty, .tmp u]) (tmps : Array Value) (hp : tmps.getD p undef = .pointer (some ⟨g, 0, none⟩)) (v : Value) (hv : tmps.getD u undef = v) (h : Bk w g cs t) (hc : cs.size = n) : (results fn tmps).run Try.prog w = .ok (.tuple #[.agg cs, v]) w := by
  have hp' : tmps[p]?.getD undef = .pointer (some ⟨g, 0, none⟩) := by simpa using hp
  have hv' : tmps[u]?.getD undef = v := by simpa using hv
  simp [results, hf, hp', hv', asAddr, Bk.load hT h hc]
end
theorem imC_one (k : Int) (a : Option Addr) (n c : Nat) : (imC k a n c).all (·.oneCell') = true := by unfold imC; simp [Value.oneCell']
theorem ntC_one (x : Nt) (r : Nr) : (ntC x r).all (·.oneCell') = true := by unfold ntC; simp [Value.oneCell']

theorem pick_hit {l : List Im} {j : Nat} {x : Im} {k : Nat} (hx : l[j]? = some x) (hk : x.k = (k : Int)) (hb : ∀ i y, i < j → l[i]? = some y → y.k ≠ (k : Int)) : pick l k = some x := by
  unfold pick
  rw [List.find?_eq_some_iff_getElem]
  obtain ⟨hj, he⟩ := List.getElem?_eq_some_iff.1 hx
  exact ⟨by simpa using hk, j, hj, he, fun i hi => by
    have := hb i _ hi (List.getElem?_eq_getElem (by omega))
    simpa using this⟩
theorem pick_none {l : List Im} {k : Nat} (hb : ∀ (i : Nat) y, l[i]? = some y → y.k ≠ (k : Int)) : pick l k = none := by
  unfold pick
  rw [List.find?_eq_none]
  intro y hy
  obtain ⟨i, hi, he⟩ := List.getElem_of_mem hy
  have := hb i y (by rw [List.getElem?_eq_getElem hi, he])
  simpa using this

/-- what 'image' answers -/
def PickOut (w : World) (l : List Im) (rs : List Ir) (k : Nat) (e : Ending) (w' : World) : Prop := Below w.heap.size w w' ∧
  ((∃ (i : Nat) (x : Im) (r : Ir), l[i]? = some x ∧ rs[i]? = some r ∧ pick l k = some x ∧ e = .returned (.tuple #[imV x.k r.a r.n r.c, .bool true])) ∨ (pick l k = none ∧ e = .returned (.tuple #[imV 0 none 0 0, .bool false])))

set_option maxHeartbeats 2000000 in
theorem image_any (A : Option Addr) (n c k : Nat) (l : List Im) (rs : List Ir) (w : World) (h : ImAt w A n c l rs) (hn : n ≤ 1000) (hk : k ≤ 1000) : Calls Try.prog 37 #[.slice A n c, .int .i64 (k : Int)] w (PickOut w l rs k) := by
  have hb0 := below_new w (.cells (imC 0 none 0 0) 51)
  have HB := Lib.hid hb0
  have HK := Lib.hid (Bk.new w (imC 0 none 0 0) 51)
  have HI := Lib.hid (h.below hb0)
  have hcn := h.cap
  have HLN := Lib.hid h.ll
  clear h hb0
  go_enter Try.func37, Try.ntmps37
  go_upto_region 1 with fail
  have hC : (#[.int .i64 0, .slice none 0 0] : Array Value) = imC 0 none 0 0 := rfl
  rw [hC]
  clear hC
  generalize w.alloc (.cells (imC 0 none 0 0) 51) = w0 at *
  go_wp2_with fail
  go_loopg [6] n (fun gn i wr => ∃ (j : Nat), i = .int .i64 (j : Int) ∧ j + gn = n ∧ wr = w0 ∧ Hid (∀ (i : Nat) y, i < j → l[i]? = some y → y.k ≠ (k : Int)))
  case atStart => exact ⟨0, rfl, by omega, rfl, Lib.hid (fun i y hi => by omega)⟩
  case round =>
    obtain ⟨j, rfl, hog, rfl, HS⟩ := hrel
    rcases Nat.lt_or_ge j n with hlt | hge
    · have hdj : decide (j < n) = true := decide_eq_true hlt
      have hdi : decide ((j : Int) < (n : Int)) = true := decide_eq_true (by omega)
      obtain ⟨xi, ⟨ri, ra, rn, rc⟩, bx, ox, hxi, hri, hX⟩ := HI.out.get hlt
      have HR := Lib.hid hri
      have HXI := Lib.hid hxi
      have eA := hX.a
      subst eA
      have y0 := hX.c0
      have y1 := hX.c1
      simp only at y0 y1
      clear hxi hri hX
      by_cases he : xi.k = (k : Int)
      · have hp := pick_hit HXI.out he (fun i y hi hy => HS.out i y hi hy)
        have HP := Lib.hid hp
        obtain ⟨e1, e2⟩ := ne_yes he
        clear he hp
        go_wp2_with (refine wpList_store_bk ty_im HK.out rfl rfl (.tmp 4) (.tmp 23) rfl rfl (imC xi.k ra rn rc) rfl rfl (imC_one _ _ _ _) ?_; intro w2 hk2 hg2)
        have hb2 : Below w.heap.size w w2 := HB.out.grown hg2 HB.out.size (fun q hq => by injection hq with hq; omega)
        exact bodyPost_ret (results_bk2 ty_im rfl _ rfl _ rfl hk2 rfl) rfl ⟨hb2, .inl ⟨j, xi, ⟨ri, ra, rn, rc⟩, HXI.out, HR.out, HP.out, rfl⟩⟩
      · obtain ⟨e1, e2⟩ := ne_no he
        go_wp2_with fail
        go_roundg (gk - 1)
        case measure => omega
        case rel => exact ⟨j + 1, by go_num, by omega, rfl, Lib.hid (fun i y hi hy => by
          rcases Nat.lt_or_ge i j with h | h
          · exact HS.out i y h hy
          · obtain rfl : i = j := by omega
            rw [HXI.out] at hy
            injection hy with hy
            subst hy
            exact he)⟩
    · obtain rfl : j = n := by omega
      clear hge
      have HP := Lib.hid (pick_none (l := l) (k := k) (fun i y hy => HS.out i y (by
        have := (List.getElem?_eq_some_iff.1 hy).1
        have := HLN.out
        omega) hy))
      go_wp2_with (refine wpList_store_bk ty_im HK.out rfl rfl (.tmp 4) (.tmp 24) rfl rfl (imC 0 none 0 0) rfl rfl (imC_one _ _ _ _) ?_; intro w2 hk2 hg2)
      exact bodyPost_ret (results_bk2 ty_im rfl _ rfl _ rfl hk2 rfl) rfl ⟨HB.out.grown hg2 HB.out.size (fun q hq => by injection hq with hq; omega), .inr ⟨HP.out, rfl⟩⟩

end Go.Proofs.Ytjpnihmijnpjcaa
