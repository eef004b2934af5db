/-
  Maps of the call's own from IDs to values; a map cleared.
-/
import Derived.Test.YtbokhhialfbjcaaGreatWkA
import Derived.RangeFuncWrites
namespace Go.Proofs.YtbokhhialfbjcaaGreat
set_option maxRecDepth 100000
set_option linter.unusedVariables false
set_option linter.unusedSimpArgs false
open Go.RowKit Go.Shelf Go.Sort Go.Maps

theorem int_keyM (x : Int) (h : 0 ≤ x ∧ x ≤ 255) : keyOf Tryz.prog 3 (.int .i64 x) = some (.int .i64 x) := keyOf_int_mk Tryz.underlying3 (by simp [Lit.wf, IntKind.bits, IntKind.signed, IntKind.min, IntKind.max]; omega)
/-- a value reads as itself -/
def Rv (v : Value) : Option (DataW Value × List MemPlace) := some (.held v, [])
theorem int_key : Keyed Tryz.prog 3 := int_keyed Tryz.underlying3

/-- at p it holds V p; z where nothing was laid -/
def Mv (W : World) (b n : Nat) (z : Value) (V : Nat → Value) : Prop :=
  ∃ D : DataW Value, W.ownsMap Tryz.prog 3 Rv b n D ∧ IsMap D ∧ ∀ p : Nat, p < 256 → D.atKey (.int .i64 (p : Int)) (.held z) = .held (V p)
theorem Mv.made (W : World) (z : Value) : Mv (W.alloc (.map #[] 0)) W.heap.size 0 z (fun _ => z) := ⟨.map [], World.ownsMap_made _ _ _ _, isMap_empty, fun p _ => rfl⟩
section
variable {W W' : World} {b n : Nat} {z : Value} {V : Nat → Value}
theorem Mv.lt (h : Mv W b n z V) : b < W.heap.size := by
  obtain ⟨D, ho, _⟩ := h
  exact ho.lt
theorem Mv.turn {S : Nat → Prop} (h : Mv W b n z V) (ht : Turn S W W') (hS : ¬ S b) : Mv W' b n z V := by
  obtain ⟨D, ho, hm, ha⟩ := h
  have hlt := ho.lt
  obtain ⟨es, clock, hb, F, hs, hD⟩ := ho
  exact ⟨D, ⟨es, clock, (ht.block b hlt hS).trans hb, F, hs, hD⟩, hm, ha⟩
theorem Mv.below (h : Mv W b n z V) (hb : Below W.heap.size W W') : Mv W' b n z V := h.turn (S := fun _ => False) (Turn.ofBelow hb) (fun h => h)
theorem Mv.mono (h : Mv W b n z V) {m : Nat} (hm : n ≤ m) : Mv W b m z V := by
  obtain ⟨D, ho, h2⟩ := h
  exact ⟨D, ho.mono hm, h2⟩
theorem Mv.look (h : Mv W b n z V) (mt et : TypeId) (hu : Tryz.prog.underlying mt = some (.map 3 et)) (hz : ∀ W, (zeroValue et).run Tryz.prog W = .ok z W) (p : Nat) (hp : p < 256) : (Instr.lookup mt (.map (some b)) (.int .i64 (p : Int)) false).run Tryz.prog W = .ok (V p) W := by
  obtain ⟨D, ho, hm, ha⟩ := h
  obtain ⟨v, ps, hrun, hv⟩ := ho.lookup (t := mt) (e := et) int_key hu (z := z) (hz W) (zd := .held z) (zp := []) rfl (int_keyM (p : Int) (by omega))
  rw [ha p hp] at hv
  unfold Rv at hv
  injection hv with hv
  injection hv with hv _
  injection hv with hv
  rw [hrun, hv]
theorem Mv.upd (h : Mv W b n z V) (mt et : TypeId) (hu : Tryz.prog.underlying mt = some (.map 3 et)) (hn : n < 100000000) (p : Nat) (hp : p < 256) (val : Value) :
    ∃ W', (Instr.mapUpdate mt (.map (some b)) (.int .i64 (p : Int)) val).run Tryz.prog W = .ok () W' ∧ Mv W' b (n + 1) z (fun q => if q = p then val else V q) ∧ W.grownBy W' (some b) := by
  obtain ⟨D, ho, hm, ha⟩ := h
  obtain ⟨W', hrun, ho', hg⟩ := ho.update (t := mt) (e := et) int_key hu (Nat.lt_of_lt_of_le hn (by decide)) (int_keyM (p : Int) (by omega)) (val := val) (d := .held val) (ps := []) rfl
  refine ⟨W', hrun, ⟨_, ho', ?_, fun q hq => ?_⟩, hg⟩
  · obtain ⟨es, rfl⟩ := hm
    exact ⟨_, rfl⟩
  · by_cases e : q = p
    · subst e
      rw [atKey_put_same hm (by trivial)]
      simp
    · rw [atKey_put_other (fun h => e (by injection h with _ h; omega)), ha q hq]; simp [e]
end

theorem Cm.made (W : World) : Cm (W.alloc (.map #[] 0)) W.heap.size 0 [] := ⟨.map [], World.ownsMap_made _ _ _ _, fun x _ => by simp [has_eq]⟩
/-- 'clear(m)' -/
theorem Cm.clear {W : World} {bm nn : Nat} {C : List Nat} (h : Cm W bm nn C) : ∃ W', (∀ ty, (Builtin.clear_ #[91] ty #[.map (some bm)]).run Tryz.prog W = .ok (.tuple #[]) W') ∧ Cm W' bm 0 [] ∧ W.grownBy W' (some bm) := by
  obtain ⟨D, ⟨es, clock, hb, F, hs, hD⟩, _⟩ := h
  have hlt := lt_of_block hb
  refine ⟨W.putObj bm (.map #[] clock), fun ty => ?_, ⟨.map [], ⟨#[], clock, World.putObj_heap_same hlt, ⟨by simp, MapKept.stamped_empty _, by simp⟩, Nat.le_refl _, rfl⟩, fun x _ => by simp [has_eq]⟩, grownBy_putObj' W bm _⟩
  simp [Builtin.clear_, run_underlying Tryz.underlying91, MapKept.run_getObj_map hb, MapKept.run_setObj_map _ hb, Result.andThen]
  rfl
end Go.Proofs.YtbokhhialfbjcaaGreat

namespace Go.Proofs.YtbokhhialfbjcaaGreat
set_option maxRecDepth 100000
set_option linter.unusedVariables false
set_option linter.unusedSimpArgs false
open Go.RowKit Go.Shelf Go.Sort
attribute [local go_sem] Oper.semAt_some

/-- the places from the last on, so many -/
def rv (L k : Nat) : List Nat := (List.range k).map fun j => L - 1 - j
theorem rv_succ (L k : Nat) : rv L (k + 1) = rv L k ++ [L - 1 - k] := by unfold rv; rw [List.range_succ, List.map_append]; rfl
theorem rv_len (L k : Nat) : (rv L k).length = k := by unfold rv; simp

set_option maxHeartbeats 4000000 in
theorem back1_in (K : World → World → Prop) (n : Nat) (hn : 2 ≤ n) (l Bb : Nat) (S : Nat → Prop) (A : Option Addr) (T : List Nat) (L c : Nat) (hL : T.length = L) (hL64 : L ≤ 1000) (J Jx : List (Fin L) → World → Prop)
    (hA : ∀ b o, A = some ⟨b, o, none⟩ → T = [] ∨ ¬ S b) (hSt : ¬ S Bb) (hK : ∀ a b, K a b → Turn S a b) (W : World)
    (hY : ∀ pre x W1, J pre W1 → pre.length < L → YieldAt Fence.wide (n - 1) Tryz.prog l #[.int .i64 ((x : Fin L).val : Int), .int .i64 ((T.getD x.val 0 : Nat) : Int)] W1 fun e W' =>
      (e = .returned (.bool true) ∧ J (pre ++ [x]) W' ∧ K W1 W') ∨ (e = .returned (.bool false) ∧ Jx (pre ++ [x]) W'))
    (ct : W.cell? ⟨Bb, 0, none⟩ = some (.slice A L c)) (hT : RI.At W A T) (h0 : J [] W) :
    CallsIn Fence.wide n Tryz.prog 70 #[.func (.yield l) #[] #[], .pointer (some ⟨Bb, 0, none⟩)] W fun e W' => (∃ v, e = .returned v) ∧
      ((∃ xs : List (Fin L), xs.map (·.val) = rv L L ∧ J xs W') ∨ (∃ pre : List (Fin L), True ∧ Jx pre W')) := by
  have HY := Lib.hid hY
  have HT := Lib.hid hT
  have H0 := Lib.hid h0
  have HL := Lib.hid hL
  have HKK := Lib.hid hK
  have HA := Lib.hid hA
  clear hY hT h0 hL hK hA
  refine callsIn_of_wp Tryz.func70 rfl trivial ?_ rfl
  simp only [Tryz.ntmps70, List.size_toArray, List.length_cons, List.length_nil, Nat.reduceAdd, Nat.reduceSub, Array.replicate_succ, Array.replicate_zero, List.push_toArray, List.append_toArray, List.nil_append, List.cons_append]
  gi_wp2
  gi_loopw [3] (fun p wr => ∃ (pre : List (Fin L)) (j : Nat), p = .int .i64 ((j : Int) - 1) ∧ j + pre.length = L ∧ Hid (pre.map (·.val) = rv L pre.length) ∧ Hid (J pre wr) ∧ wr.cell? ⟨Bb, 0, none⟩ = some (.slice A L c) ∧ Hid (RI.At wr A T))
    (fun p _ => (intOf p + 1).toNat)
  case atStart => exact ⟨[], L, rfl, by simp, rfl, H0, ct, HT⟩
  case round =>
    obtain ⟨pre, j, rfl, hj, hpre, hJp, kt, hT2⟩ := hrel
    clear ct HT H0
    rcases Nat.eq_zero_or_pos j with h | h
    · subst h
      have hdj : decide (((0 : Nat) : Int) - 1 ≥ 0) = false := by decide
      gi_wp2
      go_end0
      refine ⟨⟨_, rfl⟩, .inl ⟨pre, ?_, hJp.out⟩⟩
      have h1 := hpre.out
      rwa [show pre.length = L from by omega] at h1
    · obtain ⟨i, rfl⟩ : ∃ i, j = i + 1 := ⟨j - 1, by omega⟩
      have hi : i < L := by omega
      have hji : ((i + 1 : Nat) : Int) - 1 = (i : Int) := by omega
      rw [hji]
      have hdj : decide ((i : Int) ≥ 0) = true := decide_eq_true (by omega)
      have hTi : T[i]? = some (T.getD i 0) := by rw [List.getD_eq_getElem?_getD, List.getElem?_eq_getElem (by rw [HL.out]; exact hi)]; rfl
      obtain ⟨b, o, hAe, hb, hc⟩ := RI_cell hT2.out hTi
      obtain ⟨fn, tmps, assign, body, hy, hR⟩ := HY.out pre ⟨i, hi⟩ wr hJp.out (by omega)
      dsimp only at hy
      obtain ⟨z, hz⟩ : ∃ z : Int, z = ((T.getD i 0 : Nat) : Int) := ⟨_, rfl⟩
      rw [← hz] at hc hy
      subst hAe
      have hlen : pre.length = L - 1 - i := by omega
      have HLN := Lib.hid hlen
      clear hz hTi hb hji hlen
      gi_wp2_with fail
      refine ⟨fun _ => by omega, hR.mono ?_⟩
      rintro e W3 (⟨rfl, hJ3, hk3⟩ | ⟨rfl, hJx3⟩)
      · have ht3 := HKK.out _ _ hk3
        have k3 := ht3.cell kt hSt
        have hT3 := hT2.out.turn ht3 HA.out
        have HJ3 := Lib.hid hJ3
        have HT3 := Lib.hid hT3
        clear hJ3 hT3 hk3 ht3 kt hT2 hR hy hc
        gi_wp2
        go_roundw
        case rel => exact ⟨pre ++ [⟨i, hi⟩], i, rfl, by simp; omega, by show List.map _ (pre ++ [_]) = _; rw [List.map_append, hpre.out, List.length_append, List.length_singleton, rv_succ]; congr 2; simp; have := HLN.out; omega, HJ3, k3, HT3⟩
        case measure => simp [intOf]
      · gi_wp2
        refine bodyPost_ret (results_none rfl _ _ _) rfl ?_
        exact ⟨⟨_, rfl⟩, .inr ⟨_, trivial, hJx3⟩⟩

theorem back_stops (K : World → World → Prop) (n : Nat) (hn : 2 ≤ n) (S : Nat → Prop) (A : Option Addr) (T : List Nat) (L c : Nat) (hL : T.length = L) (hL64 : L ≤ 1000) (w : World) (hT : RI.At w A T)
    (hA : ∀ b o, A = some ⟨b, o, none⟩ → T = [] ∨ ¬ S b) (hSt : ¬ S w.heap.size) (hK : ∀ a b, K a b → Turn S a b) :
    SeqStopsK Fence.wide n Tryz.prog 70 #[.pointer (some ⟨w.heap.size, 0, none⟩)] (fun x : Fin L => #[Value.int .i64 (x.val : Int), .int .i64 ((T.getD x.val 0 : Nat) : Int)]) K (fun xs => xs.map (·.val) = rv L L) (fun _ => True) L
      (w.alloc (.cells #[.slice A L c] 37)) := fun l J Jx W hW _ _ hY h0 => by
  have k0 := (cell_new w #[.slice A L c] 37 0).trans rfl
  exact back1_in K n hn l w.heap.size S A T L c hL hL64 J Jx hA hSt hK W hY ((hW.cell (p := ⟨w.heap.size, 0, none⟩) (by simp)).trans k0) ((hT.below (below_new w _)).below hW) h0

theorem back_any (A : Option Addr) (L c : Nat) (w : World) : Calls Tryz.prog 46 #[.slice A L c] w fun e w' => e = .returned (.func (.func 70) #[] #[.pointer (some ⟨w.heap.size, 0, none⟩)]) ∧ w' = w.alloc (.cells #[.slice A L c] 37) := by
  go_enter Tryz.func46, Tryz.ntmps46
  go_wp2
  go_ret
  exact ⟨rfl, rfl⟩
end Go.Proofs.YtbokhhialfbjcaaGreat

namespace Go.Proofs.YtbokhhialfbjcaaGreat
set_option maxRecDepth 100000
set_option linter.unusedVariables false
set_option linter.unusedSimpArgs false
open Go.RowKit Go.Shelf Go.Sort
attribute [local go_sem] Oper.semAt_some

theorem len_of_dn {nx : Nat → List Nat} {T : List Nat} (h : Dn nx T) (h0 : ∀ x ∈ T, x < 64) : T.length ≤ 64 := len_below 64 T h.nodup h0
theorem Wd.low {nx : Nat → List Nat} {a : Nat} {T0 t : List Nat} (h : Wd nx a T0 t) (ha : a < 64) (h0 : ∀ x ∈ T0, x < 64) (hnx : ∀ n, n < 64 → ∀ z ∈ nx n, z < 64) : ∀ x ∈ T0 ++ t, x < 64 := by
  intro x hx
  rcases List.mem_append.1 hx with hx | hx
  · exact h0 x hx
  · exact (h.rc x hx).keeps (P := fun x => x < 64) (fun u v hu r => hnx u hu v r) ha

theorem keepsFrom_turn {S : Nat → Prop} {B : Nat} {W W' : World} (h : Turn S W W') (hS : ∀ q, S q → q < B) : KeepsFrom B W W' :=
  ⟨h.size, fun k o hB hk _ => (h.block k (Array.getElem?_eq_some_iff.1 hk).1 (fun hs => absurd (hS k hs) (by omega))).trans hk⟩
theorem rv_right {L : Nat} {pre : List (Fin L)} {x : Fin L} (h : (pre ++ [x]).map (·.val) = rv L (pre ++ [x]).length) : pre.map (·.val) = rv L pre.length ∧ x.val = L - 1 - pre.length := by
  rw [List.length_append, List.length_singleton, rv_succ, List.map_append] at h
  have h2 := List.append_inj h (by rw [List.length_map, rv_len])
  exact ⟨h2.1, by simpa using h2.2⟩
/-- a number's value -/
def nmV (num : Nat → Option Nat) (x : Nat) : Value := .int .i64 (((num x).getD 0 : Nat) : Int)

/-- a function value that tells what is next, in each world that keeps what lay -/
structure Fx (W0 : World) (pf g : Nat) (nx : Nat → List Nat) (F : Nat → Sp1) (M : Nat) : Prop where
  eg : ∀ args w, (callFunc pf args).run Tryz.prog w = .ok (.enter pf args) w
  nx : Nx W0 nx F M
  calls : ∀ V, Below W0.heap.size W0 V → ∀ n : Nat, n < 64 → Calls Tryz.prog pf #[.int .i64 (n : Int), .pointer (some ⟨g, 0, none⟩)] V fun e w' => e = .returned (.slice (F n).a (F n).k (F n).c) ∧ Below V.heap.size V w'
theorem Nx.below {W0 V : World} {nx : Nat → List Nat} {F : Nat → Sp1} {M : Nat} (h : Nx W0 nx F M) (hb : Below W0.heap.size W0 V) : Nx V nx F M :=
  ⟨fun n hn => by obtain ⟨h1, h2, h3, h4, h5⟩ := h.ok n hn; exact ⟨h1, h2, h3, h4, h5.below hb⟩, h.lt, h.few⟩

/-- the walk, in a later world -/
theorem walk_at {W0 : World} {pf g : Nat} {nx : Nat → List Nat} {F : Nat → Sp1} {M : Nat} (hF : Fx W0 pf g nx F M) (hM : M ≤ 100000000) (bm a : Nat) (ha : a < 64) (hbm : W0.heap.size ≤ bm) (T0 : List Nat) (V : World) (hV : Below W0.heap.size W0 V)
    (hd : Dn nx T0) (h0 : ∀ x ∈ T0, x < 64) (hm : Cm V bm T0.length T0) :
    Calls Tryz.prog 45 #[.int .i64 (a : Int), .func (.func pf) #[] #[.pointer (some ⟨g, 0, none⟩)], .map (some bm)] V fun e w' => ∃ (v : Value) (t : List Nat), e = .returned v ∧ Wd nx a T0 t ∧ RI.Own w' V.heap.size v t ∧ Cm w' bm (T0 ++ t).length (T0 ++ t) ∧ Turn (fun q => q = bm) V w' := by
  refine walk_any pf g hF.eg nx F M hM bm a ha T0 V (hF.nx.below hV) hd h0 hm (fun U hU n hn => hF.calls U ?_ n hn)
  exact hV.trans (hU.below (fun q e => by rcases e with e | e; omega; have := hV.size; omega) hV.size)

set_option maxHeartbeats 4000000 in
theorem rings_any (pf pb gf gb : Nat) (nx bk : Nat → List Nat) (F G : Nat → Sp1) (M : Nat) (hM : M ≤ 100000000) (Al : Option Addr) (al : List Nat) (na ca : Nat) (hna : al.length = na) (hna2 : na ≤ 100000000) (W0 : World)
    (hF : Fx W0 pf gf nx F M) (hG : Fx W0 pb gb bk G M) (hdual : ∀ a b, a ∈ bk b ↔ b ∈ nx a) (hal : RI.At W0 Al al) (hall : ∀ a, nx a ≠ [] → a ∈ al) (hal64 : ∀ x ∈ al, x < 64) :
    Calls Tryz.prog 19 #[.slice Al na ca, .func (.func pf) #[] #[.pointer (some ⟨gf, 0, none⟩)], .func (.func pb) #[] #[.pointer (some ⟨gb, 0, none⟩)]] W0 fun e w' => ∃ (bn nn : Nat) (num : Nat → Option Nat) (T S : List Nat), e = .returned (.map (some bn)) ∧ Mv w' bn nn (.int .i64 0) (nmV num) ∧ Nm nx bk T 0 S num ∧ Dn nx T ∧ (∀ a, nx a ≠ [] → a ∈ T) ∧ T.length ≤ 64 ∧ Below W0.heap.size W0 w' := by
  have hmm := @run_makeMap Tryz.prog
  refine (callsIn_wide (n := 9)).1 ?_
  refine callsIn_of_wp_marks Tryz.func19 rfl trivial ?_ rfl
  simp only [Tryz.ntmps19, List.size_toArray, List.length_cons, List.length_nil, Nat.reduceAdd, Nat.reduceSub, Array.replicate_succ, Array.replicate_zero, List.push_toArray, List.append_toArray, List.nil_append, List.cons_append]
  obtain ⟨wa, hwa⟩ : ∃ wa, wa = W0.alloc (.cells #[.func (.func pb) #[] #[.pointer (some ⟨gb, 0, none⟩)]] 64) := ⟨_, rfl⟩
  obtain ⟨wb, hwb⟩ : ∃ wb, wb = wa.alloc (.map #[] 0) := ⟨_, rfl⟩
  obtain ⟨w1, hw1⟩ : ∃ w1, w1 = wb.alloc (.cells #[.map (some (W0.heap.size + 1))] 91) := ⟨_, rfl⟩
  have sa : wa.heap.size = W0.heap.size + 1 := by rw [hwa]; simp
  have sb : wb.heap.size = W0.heap.size + 1 + 1 := by rw [hwb, World.size_alloc, sa]
  have b1 : Below W0.heap.size W0 w1 := by rw [hw1, hwb, hwa]; exact below_two (below_two (below_new _ _) (below_new _ _)) (below_new _ _)
  have k5 : Bk w1 W0.heap.size #[.func (.func pb) #[] #[.pointer (some ⟨gb, 0, none⟩)]] 64 := by rw [hw1, hwb, hwa]; exact ((Bk.new W0 _ _).below (below_new _ _)).below (below_new _ _)
  have k8 : Bk w1 (W0.heap.size + 1 + 1) #[.map (some (W0.heap.size + 1))] 91 := by
    have h := Bk.new wb #[.map (some (W0.heap.size + 1))] 91
    rw [sb] at h
    rw [hw1]; exact h
  have m1 : Cm w1 (W0.heap.size + 1) 0 [] := by
    have h := Cm.made wa
    rw [sa] at h
    rw [hw1, hwb]; exact h.below (below_new _ _)
  have HF := Lib.hid hF
  have HGG := Lib.hid hG
  have HAL := Lib.hid hal
  have HA64 := Lib.hid hal64
  have HALL := Lib.hid hall
  have HNA := Lib.hid hna
  have HB1 := Lib.hid b1
  have H5 := Lib.hid k5
  have H8 := Lib.hid k8
  have HM1 := Lib.hid m1
  have HMM := Lib.hid hM
  have HDU := Lib.hid hdual
  clear hF hG hal hal64 hall hna b1 k5 k8 m1 hM sa sb hdual
  gi_wp2_with fail
  rw [← hwa, ← hwb, ← hw1]
  clear hwa hwb hw1 wa wb
  gi_loopw [7, 19] (fun tv iv wr => ∃ (j : Nat) (T : List Nat), iv = .int .i64 (j : Int) ∧ j ≤ na ∧ Hid (RI.Own wr (W0.heap.size + 3) tv T) ∧ Hid (Dn nx T) ∧ Hid (∀ x ∈ T, x < 64) ∧ Hid (∀ x ∈ al.take j, x ∈ T) ∧ Hid (Cm wr (W0.heap.size + 1) T.length T) ∧
      Hid (Bk wr W0.heap.size #[.func (.func pb) #[] #[.pointer (some ⟨gb, 0, none⟩)]] 64) ∧ Hid (Bk wr (W0.heap.size + 1 + 1) #[.map (some (W0.heap.size + 1))] 91) ∧ Hid (Below W0.heap.size W0 wr)) (fun _ iv _ => na - (intOf iv).toNat)
  case atStart => exact ⟨0, [], rfl, Nat.zero_le _, Rk.Own.nil _ _ _, dn_nil _, fun x hx => by simp at hx, fun x hx => by simp at hx, HM1.out, H5.out, H8.out, HB1.out⟩
  case round =>
    obtain ⟨j, T, rfl, hj, hot, hdn, hlow, hin, hcm, h5, h8, hb⟩ := hrel
    clear HM1 H5 H8 HB1 w1
    have HSZ := Lib.hid h8.out.lt
    rcases Nat.lt_or_ge j na with hlt | hge
    · have hjl : j < al.length := by rw [HNA.out]; exact hlt
      obtain ⟨y, hy⟩ : ∃ y, al[j]? = some y := ⟨al[j]'hjl, List.getElem?_eq_getElem hjl⟩
      obtain ⟨b, o, rfl, _, hc⟩ := RI_cell (HAL.out.below hb.out) hy
      have hy64 := HA64.out y (List.mem_of_getElem? hy)
      have HY := Lib.hid hy
      have c8 := h8.out.c 0 _ rfl
      have HW := Lib.hid (walk_at HF.out HMM.out (W0.heap.size + 1) y hy64 (by omega) T wr hb.out hdn.out hlow.out hcm.out)
      clear hy
      gi_wp2_with fail
      refine ⟨trivial, (callsIn_wide.2 HW.out).mono ?_⟩
      rintro e w2 ⟨v, t, rfl, hw, ho2, hc2, ht2⟩
      obtain ⟨A2, k2, rfl, hk2, hat2, hsp2⟩ := Rk.Own.form ri_ok ho2
      have HWD := Lib.hid hw
      have HC2 := Lib.hid hc2
      have HT2 := Lib.hid ht2
      have HO2 := Lib.hid (hot.out.turn ht2 (fun k e h => by have h1 := (hot.out.lt k e).1; have h2 : k = W0.heap.size + 1 := h; omega))
      have HAT2 := Lib.hid hat2
      have hsp : A2 = none ∨ ∃ b o, A2 = some ⟨b, o, none⟩ := hsp2.imp id (fun ⟨g, e, _⟩ => ⟨g, 0, e⟩)
      have HSP := Lib.hid hsp
      have HLW := Lib.hid (hw.low hy64 hlow.out HF.out.nx.lt)
      have HLN := Lib.hid (len_of_dn hw.dn HLW.out)
      clear hw ho2 hc2 ht2 hat2 hsp2 hsp c8 hk2
      gi_wp2_with (first | (refine Rk.wpListIn_append ri_ok rfl _ _ rfl (W0.heap.size + 3) _ T t rfl HO2.out A2 t.length k2 rfl HAT2.out rfl HSP.out (by have := HLN.out; rw [List.length_append] at this; omega) (by have := HT2.out.size; have := HSZ.out; omega) ?_; intro v3 w3 ho3 hg3 hv3; have HO3 := Lib.hid ho3; have HG3 := Lib.hid hg3; clear ho3 hg3 hv3) | fail)
      go_roundw
      case rel =>
        have T3 : Turn (fun q => q = W0.heap.size + 1 ∨ W0.heap.size + 3 ≤ q) wr w3 := (HT2.out.mono fun k e => .inl e).trans ((Turn.refl _ _).grown HG3.out (fun q e => .inl (.inr (HO2.out.lt q e).1)))
        have T4 : Turn (fun q => W0.heap.size + 3 ≤ q) w2 w3 := (Turn.refl _ _).grown HG3.out (fun q e => .inl (HO2.out.lt q e).1)
        refine ⟨j + 1, T ++ t, by simp, by omega, HO3.out, HWD.out.dn, HLW.out, (show ∀ x ∈ al.take (j + 1), x ∈ T ++ t from fun x hx => ?_), HC2.out.turn T4 (fun h => by omega), h5.out.turn T3 (fun h => by omega), h8.out.turn T3 (fun h => by omega), hb.out.trans (T3.below (fun k e => by omega) hb.out.size)⟩
        rw [List.take_add_one, HY.out] at hx
        rcases List.mem_append.1 hx with h | h
        · exact List.mem_append_left _ (hin.out x h)
        · have : x = y := by simpa using h
          rw [this]; exact HWD.out.at_
      case measure => simp [intOf]; omega
    · obtain rfl : j = na := by omega
      have HIN := Lib.hid (show ∀ a, nx a ≠ [] → a ∈ T from fun a h => hin.out a (by rw [List.take_of_length_le (by rw [HNA.out]; omega)]; exact HALL.out a h))
      have c8 := h8.out.c 0 _ rfl
      obtain ⟨w4, hcl, hc4, hg4⟩ := Cm.clear hcm.out
      have T4 : Turn (fun q => q = W0.heap.size + 1) wr w4 := (Turn.refl _ _).grown hg4 (fun q e => .inl (by injection e with e; exact e.symm))
      have H5 := Lib.hid (h5.out.turn T4 (fun h => by omega))
      have H8 := Lib.hid (h8.out.turn T4 (fun h => by omega))
      have HO := Lib.hid (hot.out.turn T4 (fun k e h => by have h1 := (hot.out.lt k e).1; have h2 : k = W0.heap.size + 1 := h; omega))
      have HC := Lib.hid hc4
      have HB := Lib.hid (hb.out.trans (T4.below (fun k e => by omega) hb.out.size))
      have HS4 := Lib.hid T4.size
      clear hg4 hc4 T4 h5 h8 hot hcm hb hin
      obtain ⟨At, ct, rfl, _, hat, hsp⟩ := Rk.Own.form ri_ok HO.out
      obtain ⟨L, hL⟩ : ∃ L, L = T.length := ⟨_, rfl⟩
      have hTL : T.length = L := hL.symm
      rw [← hL] at HO ⊢
      obtain ⟨w6, hw6⟩ : ∃ w6, w6 = (w4.alloc (.map #[] 0)).alloc (.cells #[.map (some w4.heap.size)] 62) := ⟨_, rfl⟩
      have b6 : Below w4.heap.size w4 w6 := by rw [hw6]; exact below_two (below_new _ _) (below_new _ _)
      have s6 : w6.heap.size = w4.heap.size + 2 := by rw [hw6]; simp
      have m6 : Mv w6 w4.heap.size 0 (.int .i64 0) (nmV fun _ => none) := by rw [hw6]; exact (Mv.made w4 _).below (below_new _ _)
      have n6 : Bk w6 (w4.heap.size + 1) #[.map (some w4.heap.size)] 62 := by
        have h := Bk.new (w4.alloc (.map #[] 0)) #[.map (some w4.heap.size)] 62
        rw [World.size_alloc] at h
        rw [hw6]; exact h
      have hTl64 : L ≤ 64 := by rw [hL]; exact len_of_dn hdn.out hlow.out
      have HTL := Lib.hid hTL
      have HAT := Lib.hid (hat.below b6)
      have HAA := Lib.hid (fun b o e => (hat.lt b o e).imp id (fun h => (show b < w4.heap.size ∧ W0.heap.size + 3 ≤ b from ⟨h, by
        rcases hsp with h2 | ⟨g, h2, h3, _⟩
        · rw [h2] at e; cases e
        · rw [h2] at e; injection e with e; injection e with e; omega⟩)))
      have HS6 := Lib.hid s6
      have HB6 := Lib.hid b6
      have HM6 := Lib.hid m6
      have HN6 := Lib.hid n6
      have HW6 := Lib.hid hw6
      have hsz4 : W0.heap.size + 3 ≤ w4.heap.size := by have h1 := HS4.out; have h2 := HSZ.out; omega
      clear hat hsp s6 b6 m6 n6 hL hTL hw6
      gi_wp2_with fail
      rw [← HW6.out]
      clear HW6
      refine ⟨trivial, (callsIn_wide.2 (back_any At L ct w6)).mono ?_⟩
      rintro e w7 ⟨rfl, hw7⟩
      have s7 : w7.heap.size = w4.heap.size + 3 := by rw [hw7, World.size_alloc, HS6.out]
      have B7 : Below w6.heap.size w6 w7 := by rw [hw7]; exact below_new _ _
      have T7 : Below w4.heap.size w4 w7 := HB6.out.trans (B7.mono HB6.out.size)
      have HS7 := Lib.hid s7
      have HT7 := Lib.hid T7
      have HB7 := Lib.hid B7
      have HSEQ := Lib.hid (back_stops (Turn fun q => q = W0.heap.size + 1 ∨ q = w4.heap.size ∨ w4.heap.size + 3 ≤ q) 8 (by omega) (fun q => q = W0.heap.size + 1 ∨ q = w4.heap.size ∨ w4.heap.size + 3 ≤ q) At T L ct HTL.out (by omega) w6 HAT.out (fun b o e => (HAA.out b o e).imp id (fun h h2 => by omega)) (fun h => by have := HS6.out; omega) (fun _ _ h => h))
      rw [← hw7] at HSEQ
      have HG6 := Lib.hid (show w6.heap.size = w4.heap.size + 2 from HS6.out)
      clear hw7 s7 B7 T7
      gi_wp2_with fail
      refine wpIn_rangeFunc_ownG rfl (by omega) (gf := 70) (lb := #[.pointer (some ⟨w6.heap.size, 0, none⟩)]) rfl trivial (enters_of Tryz.func70 (by kernel_rfl) rfl)
        HSEQ.out (fun h k => h.trans k) (fun W l o o' hl _ _ _ => (Turn.refl _ W).grown (grownBy_putObj' W l o') (fun j e => by cases e; exact .inl (.inr (.inr (by have := HS7.out; omega))))) (Below.refl _ _) (fun _ => rfl)
        (fun pre W => (Bk W W0.heap.size #[.func (.func pb) #[] #[.pointer (some ⟨gb, 0, none⟩)]] 64 ∧ Bk W (W0.heap.size + 1 + 1) #[.map (some (W0.heap.size + 1))] 91 ∧ Bk W (w4.heap.size + 1) #[.map (some w4.heap.size)] 62 ∧
          ∃ (S : List Nat) (num : Nat → Option Nat), Dn bk S ∧ (∀ x ∈ S, x < 64) ∧ Cm W (W0.heap.size + 1) S.length S ∧ Mv W w4.heap.size S.length (.int .i64 0) (nmV num) ∧ (pre.map (·.val) = rv L pre.length → Nm nx bk T (L - pre.length) S num)) ∧ Below W0.heap.size W0 W)
        (fun _ _ _ => False)
        (OwnFrom.and (fun pre X Y row hs hg hr => ?own) (ownFrom_below (Nat.le_refl _) (by have := HS7.out; omega)))
        (fun _ _ _ _ _ hs _ _ => hs)
        ?start ?acts ?assign ?body ?done ?stop
      case own =>
        have t : Turn (fun q => w4.heap.size + 3 ≤ q) X Y := (Turn.refl _ X).grown hg (fun j e => .inl (by have := (hr j e).1; have := HS7.out; omega))
        obtain ⟨h1, h2, h3, S, num, h4, h5, h6, h7, h8⟩ := hs
        exact ⟨h1.turn t (by omega), h2.turn t (by omega), h3.turn t (by omega), S, num, h4, h5, h6.turn t (by omega), h7.turn t (by omega), h8⟩
      case start =>
        have h := HB7.out
        exact ⟨⟨(H5.out.below HB6.out).below h, (H8.out.below HB6.out).below h, HN6.out.below h, [], fun _ => none, dn_nil _, fun x hx => by simp at hx, (HC.out.below HB6.out).below h, HM6.out.below h, fun _ => by rw [← HTL.out]; exact nm_start nx bk T⟩, HB.out.trans (HT7.out.mono HB.out.size)⟩
      case assign =>
        intro l x W K hK
        gi_wp2
        exact hK
      case body =>
        rintro l pre x W ⟨⟨h5, h8, hn, S, num, hds, hsl, hcm, hmv, hnm⟩, hb⟩ hlen
        have hxl : x.val < T.length := by rw [HTL.out]; exact x.isLt
        have hTx : T[x.val]? = some (T[x.val]?.getD 0) := by rw [List.getElem?_eq_getElem hxl]; rfl
        obtain ⟨y, hy⟩ : ∃ y, y = T[x.val]?.getD 0 := ⟨_, rfl⟩
        rw [← hy] at hTx
        have hy64 : y < 64 := hlow.out y (List.mem_of_getElem? hTx)
        have hx64 : x.val < 64 := by have := x.isLt; omega
        obtain ⟨i, hi⟩ : ∃ i, i = x.val := ⟨_, rfl⟩
        rw [← hi] at hTx
        have c5 := h5.c 0 _ rfl
        have c8 := h8.c 0 _ rfl
        have hS64 := len_of_dn hds hsl
        have HW := Lib.hid (walk_at HGG.out HMM.out (W0.heap.size + 1) y hy64 (by omega) S W hb hds hsl hcm)
        have HTX := Lib.hid hTx
        have H5 := Lib.hid h5
        have H8 := Lib.hid h8
        have HN := Lib.hid hn
        have HDS := Lib.hid hds
        have HSL := Lib.hid hsl
        have HMV := Lib.hid hmv
        have HNM := Lib.hid hnm
        have HBW := Lib.hid hb
        have HLN := Lib.hid hlen
        have HI := Lib.hid hi
        have HNL := Lib.hid hn.lt
        have HY64 := Lib.hid hy64
        clear h5 h8 hn hds hsl hcm hmv hnm hb hlen hTx
        have hy2 : T[i]?.getD 0 = y := by rw [HTX.out]; rfl
        simp only [← hi, hy2]
        clear hi hy hy2
        gi_wp2_with fail
        refine ⟨trivial, (CallsIn.inRound l (callsIn_wide.2 HW.out)).mono ?_⟩
        rintro e w5 ⟨v, t, rfl, hw, ho5, hc5, ht5⟩
        obtain ⟨A5, k5, rfl, hk5, hat5, hsp5⟩ := Rk.Own.form ri_ok ho5
        have HWD := Lib.hid hw
        have HC5 := Lib.hid hc5
        have HT5 := Lib.hid ht5
        have HAT5 := Lib.hid hat5
        have HLW := Lib.hid (hw.low hy64 HSL.out HGG.out.nx.lt)
        have HTN := Lib.hid (len_of_dn hw.dn HLW.out)
        have HNW := Lib.hid (HN.out.turn ht5 (fun h => by omega))
        have HM5 := Lib.hid (HMV.out.turn ht5 (fun h => by omega))
        have HSP5 := Lib.hid (show ∀ b o, A5 = some ⟨b, o, none⟩ → W.heap.size ≤ b from fun b o e => by
          rcases hsp5 with h | ⟨g, h, h2, _⟩
          · rw [h] at e; cases e
          · rw [h] at e; injection e with e; injection e with e; omega)
        obtain ⟨m, hm⟩ : ∃ m, m = t.length := ⟨_, rfl⟩
        have HMT := Lib.hid hm
        rw [← hm]
        have hm64 : m ≤ 64 := by have h1 := HTN.out; rw [List.length_append] at h1; omega
        clear hw ho5 hc5 ht5 hat5 c5 c8 hk5 hsp5 hm hy64
        gi_wp2_with fail
        gi_loopw [41] (fun iv wr => ∃ q : Nat, iv = .int .i64 (q : Int) ∧ q ≤ m ∧ Hid (Mv wr w4.heap.size (S.length + q) (.int .i64 0) (nmV fun x => if x ∈ t.take q then some i else num x)) ∧ Hid (Turn (fun k => k = w4.heap.size) w5 wr)) (fun iv _ => m - (intOf iv).toNat)
        case atStart => exact ⟨0, rfl, Nat.zero_le _, by simpa [Hid] using HM5.out, Turn.refl _ _⟩
        case round =>
          obtain ⟨q, rfl, hq, hmv, htu⟩ := hrel
          have cn := (HNW.out.turn htu.out (fun h => by omega)).c 0 _ rfl
          rcases Nat.lt_or_ge q m with hlt | hge
          · have hqt : q < t.length := by rw [← HMT.out]; exact hlt
            obtain ⟨u, hu⟩ : ∃ u, t[q]? = some u := ⟨t[q]'hqt, List.getElem?_eq_getElem hqt⟩
            have hu64 : u < 64 := HLW.out u (List.mem_append_right _ (List.mem_of_getElem? hu))
            obtain ⟨b, o, rfl, hb, hc⟩ := RI_cell (HAT5.out.turn htu.out (fun b o e => .inr (fun h => by have h1 := HSP5.out b o e; have h2 := HNL.out; have h3 : b = w4.heap.size := h; omega))) hu
            obtain ⟨wn, hrun, hmv2, hg2⟩ := hmv.out.upd 62 3 Tryz.underlying62 (by have h1 := HTN.out; rw [List.length_append] at h1; omega) u (by omega) (.int .i64 (i : Int))
            have HU := Lib.hid hu
            have HM2 := Lib.hid hmv2
            have HG2 := Lib.hid hg2
            clear hu hmv2 hg2 hb hu64
            gi_wp2_with fail
            go_roundw
            case rel =>
              refine ⟨q + 1, by simp, by omega, ?_, htu.out.grown HG2.out (fun k e => .inl (by injection e with e; exact e.symm))⟩
              have h1 := HM2.out
              have e : (fun p => if p = u then Value.int .i64 (i : Int) else nmV (fun x => if x ∈ t.take q then some i else num x) p) = nmV (fun x => if x ∈ t.take (q + 1) then some i else num x) := by
                funext p
                unfold nmV
                rw [List.take_add_one, HU.out]
                by_cases hp : p = u
                · subst hp; simp
                · by_cases hpt : p ∈ t.take q
                  · simp [hp, hpt]
                  · simp [hp, hpt]
              rw [e] at h1
              exact h1
            case measure => simp [intOf]; omega
          · obtain rfl : q = m := by omega
            have HFIN := Lib.hid hmv.out
            have HTF := Lib.hid htu.out
            clear hmv htu cn
            gi_wp2_with fail
            have hE : (fun x => if x ∈ t.take q then some i else num x) = fun x => if x ∈ t then some i else num x := by
              funext p
              rw [List.take_of_length_le (by rw [← HMT.out]; omega)]
            have hmv := HFIN.out
            rw [hE] at hmv
            have tall : Turn (fun k => k = W0.heap.size + 1 ∨ k = w4.heap.size) W wr := (HT5.out.mono fun k e => .inl e).trans (HTF.out.mono fun k e => .inr e)
            refine ⟨keepsFrom_turn tall (fun k e => by have := HS7.out; omega), tall.mono (fun k e => by rcases e with e | e; exact .inl e; exact .inr (.inl e)), ⟨H5.out.turn tall (fun h => by omega), H8.out.turn tall (fun h => by omega), HN.out.turn tall (fun h => by omega), S ++ t, fun x => if x ∈ t then some i else num x, HWD.out.dn, HLW.out, HC5.out.turn HTF.out (fun h => by omega), ?_, fun hpre => ?_⟩, HBW.out.trans (tall.below (fun k e => by omega) HBW.out.size)⟩
            · rw [List.length_append, ← HMT.out]; exact hmv
            · obtain ⟨hp1, hp2⟩ := rv_right hpre
              have hln := HLN.out
              have hi := HI.out
              have h9 := HNM.out hp1
              rw [show L - pre.length = i + 1 from by omega] at h9
              rw [List.length_append, List.length_singleton, show L - (pre.length + 1) = i from by omega]
              exact h9.step HDU.out hdn.out HIN.out HTX.out HWD.out (fun x => rfl)
      case done =>
        rintro D ys W hD hys ⟨⟨h5, h8, hn, S, num, hds, hsl, hcm, hmv, hnm⟩, hb⟩ hK
        have cn := hn.c 0 _ rfl
        have HD := Lib.hid hD
        have HH := Lib.hid hys
        have HMV := Lib.hid hmv
        have HNM := Lib.hid hnm
        have HBW := Lib.hid hb
        clear hD hys hmv hnm hb h5 h8 hn hds hsl hcm
        gi_wp2
        refine ⟨by simp, .inl ⟨_, _, rfl, run_takeDeferred hK, ?_⟩⟩
        have t : Turn (fun k => w4.heap.size + 3 ≤ k) W (W.putObj D (.deferred none)) := (Turn.refl _ W).grown (grownBy_putObj' W D _) (fun j e => by cases e; exact .inl (by have := HD.out; have := HS7.out; omega))
        have hyl : ys.length = L := by have h := congrArg List.length HH.out; rwa [List.length_map, rv_len] at h
        have h9 := HNM.out (by rw [hyl]; exact HH.out)
        rw [hyl, Nat.sub_self] at h9
        exact ⟨_, results_tmp rfl _ _ _, w4.heap.size, S.length, num, T, S, rfl, HMV.out.turn t (by omega), h9, hdn.out, HIN.out, by rw [HTL.out]; exact hTl64, HBW.out.trans (t.below (fun k e => by omega) HBW.out.size)⟩
      case stop =>
        rintro D c pre W _ _ h _
        exact h.elim
end Go.Proofs.YtbokhhialfbjcaaGreat
