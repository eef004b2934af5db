/-
  The frames by rising sectors: a copy of the ring's row, sorted by the library's sort.
-/
import Derived.Test.YtnpgmiokimahiaaQn
import Derived.Test.YtnpgmiokimahiaaLays
import Derived.Lib.RowBridge
import Derived.Lib.SortBridge
namespace Go.Proofs.Ytnpgmiokimahiaa
set_option maxRecDepth 100000
set_option linter.unusedVariables false
set_option linter.unusedSimpArgs false
open Go.RowKit Go.Shelf Go.Sort Pl

theorem below_only (w : World) (os : Array Obj) : Below w.heap.size w (grow w os) :=
  ⟨rfl, rfl, rfl, by show w.heap.size ≤ (w.heap ++ os).size; simp, fun k hk => by show (w.heap ++ os)[k]? = _; rw [Array.getElem?_append_left hk]⟩
theorem turn_setCells (b : Nat) : ∀ (vs : List Value) (o : Nat) (W : World), Turn (fun k => k = b) W (W.setCells b o vs)
  | [], _, W => Turn.refl _ W
  | v :: r, o, W => ((Turn.refl (fun k => k = b) W).setCell ⟨b, o, none⟩ v (.inl rfl)).trans (turn_setCells b r (o + 1) _)

section
variable {w W : World} {p n v L M : Nat} {m m' : Pm} {l l' : List Fq} {A : Option Addr} {N c h h' : Nat} {x y : Fq} {j : Nat} {D D' : Dv}

theorem own_litF (w : World) : RF.Own (w.alloc (.cells #[] 57)) w.heap.size (.slice (some ⟨w.heap.size, 0, none⟩) 0 0) [] :=
  World.ownsRow_lit w #[] 0 (Nat.le_refl _) (by simp [maxLen]) rfl

/-- the row copied -/
theorem cloneF_any (q : PoolAt w p n v m l A N c h) : Calls Try.prog 36 #[.slice A N c] w fun e w' => ∃ A2 c2, e = .returned (.slice A2 N c2) ∧ RF.Own w' w.heap.size (.slice A2 N c2) (l.map Fq.g) ∧ Below w.heap.size w w' := by
  have hlen : (l.map Fq.g).length = N := by rw [List.length_map]; exact q.len
  cases hA : A with
  | none =>
    subst hA
    have hl0 : l.map Fq.g = [] := by
      rcases q.own.2 with ⟨_, h1⟩ | ⟨g, cap, cur, e, _⟩
      · exact List.eq_nil_of_length_eq_zero h1
      · injection e with e; cases e
    rw [hl0] at hlen ⊢
    have hN0 : 0 = N := hlen
    subst hN0
    have hnil := fun V => run_nil_eql 54 _ none 0 c Try.underlying54 V
    simp only [Option.isNone_none] at hnil
    clear q hl0 hlen
    go_enter Try.func36, Try.ntmps36
    go_wp2_with fail
    go_ret
    exact ⟨none, 0, rfl, Rk.Own.nil _ _ _, Below.refl _ _⟩
  | some ad =>
    subst hA
    have hadr : ∃ b o, (some ad : Option Addr) = some ⟨b, o, none⟩ := by
      rcases q.own.2 with ⟨e, _⟩ | ⟨g, cap, cur, e, _⟩
      · injection e with e; cases e
      · injection e with e; exact ⟨g, 0, e⟩
    have hnil := fun V => run_nil_eql 54 _ (some ad) N c Try.underlying54 V
    simp only [Option.isNone_some] at hnil
    have HL := Lib.hid ((q.own.at_ rf_ok).below (below_new w (.cells #[] 57)))
    have HN := Lib.hid hlen
    have HA := Lib.hid hadr
    have hle := q.le.1
    clear q hlen hadr
    go_enter Try.func36, Try.ntmps36
    go_wp2_with (first
      | (at_builtin; refine Rk.wpList_append rf_ok rfl (.tmp 5) (.tmp 6) rfl w.heap.size (.slice (some ⟨w.heap.size, 0, none⟩) 0 0) [] (l.map Fq.g) rfl (own_litF w) (some ad) N c rfl HL.out HN.out (.inr HA.out) (by have := HN.out; rw [List.length_nil]; omega) (below_new w _).size ?_; intro v7 w7 hx1 hg1 ha1; have HO7 := Lib.hid hx1; have HG7 := Lib.hid hg1; clear hx1 hg1 ha1)
      | fail)
    go_ret
    have ho := HO7.out
    rw [List.nil_append] at ho
    obtain ⟨A2, c2, rfl, _⟩ := Rk.Own.form rf_ok ho
    rw [HN.out] at ho ⊢
    exact ⟨A2, c2, rfl, ho, Below.grown (below_new w _) HG7.out (below_new w _).size (fun q e => by have e2 : w.heap.size = q := Option.some.inj e; omega)⟩

/-- the comparison -/
theorem cmp_any (x y : Fq) (w : World) (hx : FAt w x) (hy : FAt w y) :
    Calls Try.prog 38 #[ptr x.g, ptr y.g] w fun e w' => e = .returned (.int .i64 (Lib.compareInt (x.at_ : Int) (y.at_ : Int))) ∧ ∃ q, w' = w.drewN q := by
  have c1 := hx.c0
  have c2 := hy.c0
  obtain ⟨E, hE⟩ : ∃ E, E = Lib.compareInt (x.at_ : Int) (y.at_ : Int) := ⟨_, rfl⟩
  have hc : ∀ V, Calls Try.prog 39 #[.int .i64 (x.at_ : Int), .int .i64 (y.at_ : Int)] V fun e w' => e = .returned (.int .i64 E) ∧ w' = V := fun V => by rw [hE]; exact AnyG.cmp_Compare_int (P := Try.prog) (ρ := Try.cmpL_ren) Try.cmpL (x.at_ : Int) (y.at_ : Int) V
  rw [← hE]
  have HC := Lib.hid hc
  clear hE hc hx hy
  generalize (x.at_ : Int) = z1 at *
  generalize (y.at_ : Int) = z2 at *
  generalize x.g = g1 at *
  generalize y.g = g2 at *
  go_enter Try.func38, Try.ntmps38
  go_upto_region 1 with fail
  have k1 : ∀ V, (∃ q, V = World.drewN w q) → V.cell? ⟨g1, 0, none⟩ = some (.int .i64 z1) := fun V ⟨q, e⟩ => by rw [e]; exact (turn_drewN (fun _ => False) w q).cell c1 (fun h => h)
  have k2 : ∀ V, (∃ q, V = World.drewN w q) → V.cell? ⟨g2, 0, none⟩ = some (.int .i64 z2) := fun V ⟨q, e⟩ => by rw [e]; exact (turn_drewN (fun _ => False) w q).cell c2 (fun h => h)
  clear c1 c2
  refine wp_region_held_drew (S := (fun V => ∃ q, V = World.drewN w q)) (by kernel_rfl) (⟨1, rfl⟩) (fun _ => ?_)
  have hS : ((fun V => ∃ q, V = World.drewN w q)) (World.drew w) := ⟨1, rfl⟩
  refine wpAnyH_take (i := 0) (oi := ⟨some 5, _, _, _, _, _⟩) (v := ?_) rfl (by kernel_rfl) (by kernel_rfl) (by kernel_rfl) (fun _ _ _ h => h) (Or.inl ⟨by rfl, ?_⟩) hS ?_
  rotate_left
  · intro W hW; go_simp; with_reducible rfl
  try simp only [Act.put, List.setIfInBounds_toArray, List.set_cons_zero, List.set_cons_succ]
  refine wpAnyH_take (i := 1) (oi := ⟨some 6, _, _, _, _, _⟩) (v := ?_) rfl (by kernel_rfl) (by kernel_rfl) (by kernel_rfl) (fun _ _ _ h => h) (Or.inl ⟨by rfl, ?_⟩) hS ?_
  rotate_left
  · intro W hW; go_simp; with_reducible rfl
  try simp only [Act.put, List.setIfInBounds_toArray, List.set_cons_zero, List.set_cons_succ]
  refine wpAnyH_take (i := 2) (oi := ⟨some 7, _, _, _, _, _⟩) (v := ?_) rfl (by kernel_rfl) (by kernel_rfl) (by kernel_rfl) (fun _ _ _ h => h) (Or.inl ⟨by rfl, ?_⟩) hS ?_
  rotate_left
  · intro W hW; go_simp; with_reducible rfl
  try simp only [Act.put, List.setIfInBounds_toArray, List.set_cons_zero, List.set_cons_succ]
  refine wpAnyH_take (i := 3) (oi := ⟨some 8, _, _, _, _, _⟩) (v := ?_) rfl (by kernel_rfl) (by kernel_rfl) (by kernel_rfl) (fun _ _ _ h => h) (Or.inl ⟨by rfl, ?_⟩) hS ?_
  rotate_left
  · intro W hW; go_simp; with_reducible rfl
  try simp only [Act.put, List.setIfInBounds_toArray, List.set_cons_zero, List.set_cons_succ]
  refine wpAnyH_take (i := 4) (oi := ⟨some 9, _, _, _, _, _⟩) (v := ?_) rfl (by kernel_rfl) (by kernel_rfl) (by kernel_rfl) (fun _ _ _ h => h) (Or.inl ⟨by rfl, ?_⟩) hS ?_
  rotate_left
  · intro W hW; go_simp; with_reducible rfl
  try simp only [Act.put, List.setIfInBounds_toArray, List.set_cons_zero, List.set_cons_succ]
  refine wpAnyH_take (i := 5) (oi := ⟨some 10, _, _, _, _, _⟩) (v := ?_) rfl (by kernel_rfl) (by kernel_rfl) (by kernel_rfl) (fun _ _ _ h => h) (Or.inl ⟨by rfl, ?_⟩) hS ?_
  rotate_left
  · intro W hW; go_simp; with_reducible rfl
  try simp only [Act.put, List.setIfInBounds_toArray, List.set_cons_zero, List.set_cons_succ]
  refine wpAnyH_take (i := 6) (oi := ⟨some 11, _, _, _, _, _⟩) (v := ?_) rfl (by kernel_rfl) (by kernel_rfl) (by kernel_rfl) (fun _ _ _ h => h) (Or.inl ⟨by rfl, ?_⟩) hS ?_
  rotate_left
  · intro W hW; go_simp; with_reducible rfl
  try simp only [Act.put, List.setIfInBounds_toArray, List.set_cons_zero, List.set_cons_succ]
  refine wpAnyH_take (i := 7) (oi := ⟨some 12, _, _, _, _, _⟩) (v := ?_) rfl (by kernel_rfl) (by kernel_rfl) (by kernel_rfl) (fun _ _ _ h => h) (Or.inl ⟨by rfl, ?_⟩) hS ?_
  rotate_left
  · intro W hW; go_simp; with_reducible rfl
  try simp only [Act.put, List.setIfInBounds_toArray, List.set_cons_zero, List.set_cons_succ]
  refine wpAnyH_ready (rs := [8]) (by kernel_rfl) (by simp) ?_
  refine AllReadyH.cons (o := ⟨some 13, _, _, _, _, _⟩) rfl (fun Kr hKr => ?_) AllReadyH.nil
  -- operation 8: a call
  go_simp
  refine (HC.out _).mono ?_
  rintro e V0 ⟨rfl, hv⟩
  replace hv := hv.symm
  subst hv
  show Kr _ _
  refine hKr.out _ _ ?_ (fun _ => ?_)
  · exact hS
  clear hKr Kr
  try simp only [Act.put, List.setIfInBounds_toArray, List.set_cons_zero, List.set_cons_succ]
  refine wpAnyH_take (i := 9) (oi := ⟨some 4, _, _, _, _, _⟩) (v := ?_) rfl (by kernel_rfl) (by kernel_rfl) (by kernel_rfl) (fun _ _ _ h => h) (Or.inl ⟨by rfl, ?_⟩) hS ?_
  rotate_left
  · intro W hW; go_simp; with_reducible rfl
  try simp only [Act.put, List.setIfInBounds_toArray, List.set_cons_zero, List.set_cons_succ]
  refine wpAnyH_done (by kernel_rfl) ?_ _
  have hfin := hS
  go_wp2_with fail
  go_ret
  exact ⟨rfl, hfin⟩

def encS (l : List Fq) (x : { x : Fq // x ∈ l }) : Value := ptr x.1.g
def cfS (l : List Fq) (x y : { x : Fq // x ∈ l }) : Int := Lib.compareInt (x.1.at_ : Int) (y.1.at_ : Int)
theorem lt_cfS (l : List Fq) (x y : { x : Fq // x ∈ l }) : ltOf (cfS l) x y = decide (x.1.at_ < y.1.at_) := by
  unfold ltOf cfS Lib.compareInt
  apply decide_eq_decide.2
  by_cases h1 : (x.1.at_ : Int) < (y.1.at_ : Int)
  · simp [h1]; omega
  · by_cases h2 : (y.1.at_ : Int) < (x.1.at_ : Int)
    · simp [h1, h2]; omega
    · simp [h1, h2]; omega
theorem swoS (l : List Fq) : SWO (ltOf (cfS l)) where
  irrefl x := by rw [lt_cfS]; simp
  trans x y z h1 h2 := by
    rw [lt_cfS, decide_eq_true_eq] at *
    omega
  ntrans x y z h1 h2 := by
    rw [lt_cfS, decide_eq_false_iff_not] at *
    omega
theorem totS (hi : Inj Fq.at_ l) (x y : { x : Fq // x ∈ l }) (h1 : ltOf (cfS l) x y = false) (h2 : ltOf (cfS l) y x = false) : x = y := by
  rw [lt_cfS, decide_eq_false_iff_not] at h1 h2
  obtain ⟨i, hi1⟩ := List.mem_iff_getElem?.1 x.2
  obtain ⟨j, hj1⟩ := List.mem_iff_getElem?.1 y.2
  have e := hi i j x.1 y.1 hi1 hj1 (by omega)
  subst e
  rw [hi1] at hj1
  exact Subtype.ext (Option.some.inj hj1)

/-- the copy sorted -/
theorem sortF_any {w1 : World} (hr : Ring n m l) (hf : ∀ x ∈ l, FAt w1 x) (hl : l.length = N) (hN : 0 < N) {g c2 : Nat} (ho : RF.Own w1 0 (.slice (some ⟨g, 0, none⟩) N c2) (l.map Fq.g)) (hng : ∀ x ∈ l, x.g ≠ g) :
    Calls Try.prog 37 #[.slice (some ⟨g, 0, none⟩) N c2, .func (.func 38) #[] #[]] w1 fun e w' => e = .returned (.tuple #[]) ∧ Turn (fun b => b = g) w1 w' ∧ ∃ l2 : List Fq, l2.Perm l ∧ (l2.Pairwise fun x y => x.at_ ≤ y.at_) ∧ ∀ (k : Nat) (x : Fq), l2[k]? = some x → w'.cell? ⟨g, k, none⟩ = some (ptr x.g) := by
  subst hl
  haveI : Inhabited { x : Fq // x ∈ l } := ⟨⟨l[0], List.getElem_mem hN⟩⟩
  obtain ⟨dl, hdl⟩ : ∃ dl : List { x : Fq // x ∈ l }, dl.map Subtype.val = l := ⟨l.attach, List.attach_map_subtype_val l⟩
  have hdn : dl.length = l.length := by have := congrArg List.length hdl; rwa [List.length_map] at this
  have hgl : g < w1.heap.size := (ho.lt g rfl).2
  have hH : Holds (encS l) w1 g 0 dl.toArray := by
    intro j hj
    have hj' : j < dl.length := by simpa using hj
    rw [Nat.zero_add]
    refine ⟨?_, Rk.Own.fr ho j⟩
    rw [getElem!_pos dl.toArray j hj]
    have hx : (l.map Fq.g)[j]? = some (dl[j]).1.g := by
      have e : l[j]? = some (dl[j]).1 := by
        have e1 : (dl.map Subtype.val)[j]? = l[j]? := by rw [hdl]
        rw [List.getElem?_map, List.getElem?_eq_getElem hj'] at e1
        exact e1.symm
      rw [List.getElem?_map, e]; rfl
    obtain ⟨b, o, hA, _, hc⟩ := (ho.at_ rf_ok).get rf_ok hx
    injection hA with hA
    injection hA with e1 e2
    subst e1
    subst e2
    have := hc 0 _ rfl
    rw [show 0 + (j * RF.m + 0) = j from by show 0 + (j * 1 + 0) = j; omega] at this
    rw [this]
    simp [encS]
  have eg : ∀ args w, (callFunc 38 args).run Try.prog w = .ok (.enter 38 args) w := enters_of Try.func38 (by kernel_rfl) rfl
  have turnW : ∀ (q : Nat) (os : Array Obj) (ys : List { x : Fq // x ∈ l }), ys.length = dl.length → Turn (fun b => b = g) w1 (sortWorld (encS l) w1 g 0 q ys.toArray os) := by
    intro q os ys hys
    unfold sortWorld
    rw [Lib.putRow_eq_setCells (encS l) w1 g 0 dl.toArray ys q hH (by simpa using hys)]
    exact ((turn_drewN _ w1 q).trans (turn_setCells g _ 0 _)).trans (Turn.ofBelow (below_only _ os))
  have hcmp : CmpLays1 Try.prog 38 #[] (encS l) (cfS l) g 0 dl.toArray.size w1 := by
    intro q os dk hdk x y
    have ht := turnW q os dk.toList (by simpa using hdk)
    rw [show dk.toList.toArray = dk from by simp] at ht
    refine (cmp_any x.1 y.1 _ ((hf x.1 x.2).turn ht (hng x.1 x.2)) ((hf y.1 y.2).turn ht (hng y.1 y.2))).mono ?_
    rintro e w' ⟨he, k, hk⟩
    exact ⟨he, k, #[], by rw [hk, grow_empty]⟩
  have hS := Any.slices_SortFunc_total Try.sortL (encS l) (fun _ => rfl) (cfS l) (swoS l) 38 #[] g 0 c2 dl.toArray w1 eg hcmp hH hgl (by have := hr.few.2; simp; omega) (totS hr.ats)
  rw [show dl.toArray.size = l.length from by simpa using hdn] at hS
  refine Calls.mono hS ?_
  rintro e w' ⟨rfl, q, os, rfl⟩
  obtain ⟨ys, hys⟩ : ∃ ys, ys = dl.mergeSort (fun x y => !(ltOf (cfS l)) y x) := ⟨_, rfl⟩
  have hp : ys.Perm dl := by rw [hys]; exact List.mergeSort_perm _ _
  have hso : ys.Pairwise (fun x y => (!(ltOf (cfS l)) y x) = true) := by
    rw [hys]
    refine List.pairwise_mergeSort (fun a b c h1 h2 => ?_) (fun a b => ?_) dl
    · simp only [Bool.not_eq_true'] at *
      exact (swoS l).ntrans _ _ _ h2 h1
    · rw [lt_cfS, lt_cfS]
      simp only [Bool.or_eq_true, Bool.not_eq_true', decide_eq_false_iff_not]
      omega
  have hl := hp.length_eq
  have hT2 := turnW q os ys hl
  rw [show (dl.toArray.toList.mergeSort fun x y => !(ltOf (cfS l)) y x).toArray = ys.toArray from by rw [hys]]
  refine ⟨rfl, hT2, ys.map Subtype.val, ?_, ?_, ?_⟩
  · have := hp.map Subtype.val
    rwa [hdl] at this
  · rw [List.pairwise_map]
    refine hso.imp (fun {x y} h => ?_)
    rw [Bool.not_eq_true', lt_cfS, decide_eq_false_iff_not] at h
    omega
  · intro j x hx
    rw [List.getElem?_map] at hx
    have hj : j < ys.length := by
      rcases Nat.lt_or_ge j ys.length with h | h
      · exact h
      · rw [List.getElem?_eq_none h] at hx; cases hx
    rw [List.getElem?_eq_getElem hj] at hx
    injection hx with hx
    unfold sortWorld
    rw [Lib.putRow_eq_setCells (encS l) w1 g 0 dl.toArray ys q hH (by simpa using hl)]
    have h1 := World.cell?_setCells_in g (ys.map (encS l)) 0 (w1.drewN q) (fun i hi => by
      have hi' : i < dl.length := by rw [← hl]; simpa using hi
      have h2 := (hH i (by simpa using hi')).1
      show ((w1.cell? ⟨g, 0 + i, none⟩).isSome) = true
      rw [h2]; rfl) j (by simpa using hj)
    rw [Nat.zero_add] at h1
    refine ((below_only _ os).cell (p := ⟨g, j, none⟩) (block_lt_of_cell h1)).trans (h1.trans ?_)
    rw [List.getElem_map, ← hx]; rfl

theorem rising_any : RisingOk := by
  intro w p n v m l A N c h q
  have HC := Lib.hid (cloneF_any q)
  have HQ := Lib.hid q
  have c2 := q.c2
  clear q
  go_enter Try.func26, Try.ntmps26
  go_wp2_with fail
  refine HC.out.mono ?_
  rintro e w1 ⟨A2, cc, rfl, ho, hb⟩
  have HO := Lib.hid ho
  have HB := Lib.hid hb
  have HQ1 := Lib.hid (HQ.out.keep (Turn.ofBelow hb))
  clear ho hb HC c2
  rcases Nat.eq_zero_or_pos N with h0 | h0
  · subst h0
    have HN := Lib.hid (AnyF.slices_SortFunc_none (P := Try.prog) (ρ := Try.sortL_ren) { Try.sortL with } A2 cc (.func (.func 38) #[] #[]) w1)
    go_wp2_with fail
    refine HN.out.mono ?_
    rintro e w2 ⟨rfl, hw⟩
    replace hw := hw.symm
    subst hw
    go_wp2_with fail
    go_ret
    have hl0 : l = [] := List.eq_nil_of_length_eq_zero HQ.out.len
    subst hl0
    exact ⟨[], A2, cc, rfl, List.Perm.refl _, List.Pairwise.nil, fun k x hx => (by simp at hx), HB.out⟩
  · have hN := HQ.out.len
    obtain ⟨A3, c3, e3, _, _, hA3⟩ := Rk.Own.form rf_ok HO.out
    injection e3 with e1 e2 e3
    subst e1
    obtain ⟨g, rfl, hgw, hgl⟩ : ∃ g, A2 = some ⟨g, 0, none⟩ ∧ w.heap.size ≤ g ∧ g < w1.heap.size := by
      rcases hA3 with e | e
      · subst e
        rcases HO.out.2 with ⟨_, h1⟩ | ⟨g, cap, cur, e, _⟩
        · rw [List.length_map] at h1; omega
        · injection e with e; cases e
      · exact e
    have HS := Lib.hid (sortF_any HQ1.out.ring (N := N) (fun x hx => HQ1.out.f hx) hN h0 (HO.out.le (Nat.zero_le _)) (fun x hx e => by
      have := HQ.out.lt x.g (.inr (.inr (List.mem_map.2 ⟨x, hx, rfl⟩)))
      omega))
    have HGW := Lib.hid hgw
    clear hN h0 hA3 e2 e3 hgw hgl
    go_wp2_with fail
    refine HS.out.mono ?_
    rintro e w2 ⟨rfl, ht, l2, hp, hu, hrow⟩
    have HT := Lib.hid ht
    have HP := Lib.hid hp
    have HU := Lib.hid hu
    have HRW := Lib.hid hrow
    clear ht hp hu hrow
    go_wp2_with fail
    go_ret
    have hb2 : Below w.heap.size w w2 := HB.out.trans (HT.out.below (fun k e => by rw [e]; exact HGW.out) HB.out.size)
    exact ⟨l2, _, cc, rfl, HP.out, HU.out, fun k x hx => ⟨g, 0, rfl, HGW.out, by have h1 := HRW.out k x hx; exact block_lt_of_cell h1, by rw [Nat.zero_add]; exact HRW.out k x hx⟩, hb2⟩
end
end Go.Proofs.Ytnpgmiokimahiaa
