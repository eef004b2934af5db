/-
  The library's sort and its compact, on a row of numbers of the call's own.
-/
import Derived.Test.YtbokhhialfbjcaaGreatRowsA
import Derived.Test.YtbokhhialfbjcaaGreatHasA
import Derived.Shelf.Sort.Plain
import Derived.Shelf.Slices.In.SortNone
import Derived.Sort.OwnSortedInts
import Derived.Test.YtbokhhialfbjcaaGreatMvA
import Derived.Test.YtbokhhialfbjcaaGreatWtd11
import Derived.Test.YtbokhhialfbjcaaGreatEof11
namespace Go.Proofs
open Go.Shelf
def Tryz.lays189_ren : Go.Shelf.Ren := ⟨fun | 189 => 22 | 125 => 48 | 257 => 47 | 128 => 80 | 129 => 81 | 294 => 71 | 295 => 72 | 296 => 73 | 297 => 74 | 298 => 75 | 299 => 76 | 216 => 77 | 300 => 78 | 301 => 79 | 328 => 94 | 329 => 95 | 330 => 96 | 331 => 97 | 332 => 98 | 215 => 99 | 343 => 103 | n => n, fun | 28 => 37 | 3 => 3 | 46 => 98 | 0 => 0 | 51 => 134 | 53 => 136 | 4 => 4 | 183 => 128 | 182 => 127 | 131 => 116 | 5 => 5 | 9 => 9 | 218 => 152 | 222 => 156 | 228 => 160 | 229 => 161 | n => n, fun | n => n⟩
theorem Tryz.lays189 : Go.Proofs.Lays.n189 Tryz.prog Tryz.lays189_ren := {
  mixed := by kernel_rfl
  f125 := Tryz.func48.trans (congrArg some (by kernel_rfl))
  f128 := Tryz.func80.trans (congrArg some (by kernel_rfl))
  f129 := Tryz.func81.trans (congrArg some (by kernel_rfl))
  f189 := Tryz.func22.trans (congrArg some (by kernel_rfl))
  f215 := Tryz.func99.trans (congrArg some (by kernel_rfl))
  f216 := Tryz.func77.trans (congrArg some (by kernel_rfl))
  f257 := Tryz.func47.trans (congrArg some (by kernel_rfl))
  f294 := Tryz.func71.trans (congrArg some (by kernel_rfl))
  f295 := Tryz.func72.trans (congrArg some (by kernel_rfl))
  f296 := Tryz.func73.trans (congrArg some (by kernel_rfl))
  f297 := Tryz.func74.trans (congrArg some (by kernel_rfl))
  f298 := Tryz.func75.trans (congrArg some (by kernel_rfl))
  f299 := Tryz.func76.trans (congrArg some (by kernel_rfl))
  f300 := Tryz.func78.trans (congrArg some (by kernel_rfl))
  f301 := Tryz.func79.trans (congrArg some (by kernel_rfl))
  f328 := Tryz.func94.trans (congrArg some (by kernel_rfl))
  f329 := Tryz.func95.trans (congrArg some (by kernel_rfl))
  f330 := Tryz.func96.trans (congrArg some (by kernel_rfl))
  f331 := Tryz.func97.trans (congrArg some (by kernel_rfl))
  f332 := Tryz.func98.trans (congrArg some (by kernel_rfl))
  f343 := Tryz.func103.trans (congrArg some (by kernel_rfl))
  t0 := Tryz.underlying0
  a0 := Tryz.isAgg0
  z0 := Tryz.sizeOf0
  v0 := Tryz.zeroValue0
  t3 := Tryz.underlying3
  a3 := Tryz.isAgg3
  z3 := Tryz.sizeOf3
  v3 := Tryz.zeroValue3
  t4 := Tryz.underlying4
  a4 := Tryz.isAgg4
  z4 := Tryz.sizeOf4
  v4 := Tryz.zeroValue4
  t5 := Tryz.underlying5
  a5 := Tryz.isAgg5
  z5 := Tryz.sizeOf5
  v5 := Tryz.zeroValue5
  t9 := Tryz.underlying9
  a9 := Tryz.isAgg9
  z9 := Tryz.sizeOf9
  v9 := Tryz.zeroValue9
  t28 := Tryz.underlying37
  a28 := Tryz.isAgg37
  z28 := Tryz.sizeOf37
  v28 := Tryz.zeroValue37
  t46 := Tryz.underlying98
  a46 := Tryz.isAgg98
  z46 := Tryz.sizeOf98
  v46 := Tryz.zeroValue98
  t51 := Tryz.underlying134
  a51 := Tryz.isAgg134
  z51 := Tryz.sizeOf134
  v51 := Tryz.zeroValue134
  t53 := Tryz.underlying136
  a53 := Tryz.isAgg136
  z53 := Tryz.sizeOf136
  v53 := Tryz.zeroValue136
  t131 := Tryz.underlying116
  a131 := Tryz.isAgg116
  z131 := Tryz.sizeOf116
  v131 := Tryz.zeroValue116
  t182 := Tryz.underlying127
  a182 := Tryz.isAgg127
  z182 := Tryz.sizeOf127
  v182 := Tryz.zeroValue127
  t183 := Tryz.underlying128
  a183 := Tryz.isAgg128
  z183 := Tryz.sizeOf128
  v183 := Tryz.zeroValue128
  t218 := Tryz.underlying152
  a218 := Tryz.isAgg152
  z218 := Tryz.sizeOf152
  v218 := Tryz.zeroValue152
  t222 := Tryz.underlying156
  a222 := Tryz.isAgg156
  z222 := Tryz.sizeOf156
  v222 := Tryz.zeroValue156
  t228 := Tryz.underlying160
  a228 := Tryz.isAgg160
  z228 := Tryz.sizeOf160
  v228 := Tryz.zeroValue160
  t229 := Tryz.underlying161
  a229 := Tryz.isAgg161
  z229 := Tryz.sizeOf161
  v229 := Tryz.zeroValue161 }
end Go.Proofs
namespace Go.Proofs.YtbokhhialfbjcaaGreat
set_option maxRecDepth 100000
set_option linter.unusedVariables false
set_option linter.unusedSimpArgs false
open Go.RowKit Go.Shelf Go.Sort

def toI (l : List Nat) : List Int := l.map fun x : Nat => (x : Int)
theorem ri_toI (l : List Nat) : RI.cells l = (toI l).map (Value.int .i64) := by
  rw [← ri_cells]
  unfold toI idC
  rw [List.map_map]; rfl
theorem toI_len (l : List Nat) : (toI l).length = l.length := by simp [toI]
theorem mem_toI {l : List Nat} {x : Int} : x ∈ toI l ↔ ∃ n ∈ l, (n : Int) = x := by simp [toI]
theorem of_toI (z : List Int) (h : ∀ x ∈ z, 0 ≤ x) : ∃ l, z = toI l := by
  refine ⟨z.map Int.toNat, ?_⟩
  unfold toI
  rw [List.map_map]
  conv => lhs; rw [← List.map_id z]
  refine List.map_congr_left fun x hx => ?_
  have := h x hx
  show x = ((x.toNat : Nat) : Int)
  omega
theorem toI_pw {l : List Nat} : (toI l).Pairwise (· ≤ ·) → l.Pairwise (· ≤ ·) := by
  unfold toI
  rw [List.pairwise_map]
  exact fun h => h.imp fun h => by omega

theorem own_holds {w : World} {base g n cap : Nat} {l : List Nat} (h : RI.Own w base (.slice (some ⟨g, 0, none⟩) n cap) l) : n = l.length ∧ g < w.heap.size ∧ n ≤ cap ∧ Holds (Value.int .i64) w g 0 (toI l).toArray := by
  have hlt := (h.lt g rfl).2
  rcases h.2 with ⟨e, _⟩ | ⟨g', cap', cur, e, hb, hh, hnc, hcm, hcs, ht⟩
  · cases e
  · injection e with e1 e2 e3
    injection e1 with e1
    injection e1 with e1
    subst e1
    subst e3
    refine ⟨e2, hlt, by omega, holds_of_blockI hh ?_⟩
    rw [toI_len, ← ri_toI, ← ht]
    show _ = List.take (l.length * 1) _
    rw [Nat.mul_one]

/-- 'slices.Sort' -/
theorem sortI_any {base : Nat} {v : Value} {l : List Nat} (w : World) (h : RI.Own w base v l) (hl : l.length ≤ 1000000000) :
    Calls Tryz.prog 22 #[v] w fun e w' => e = .returned (.tuple #[]) ∧ ∃ l', RI.Own w' base v l' ∧ l'.length = l.length ∧ (∀ x, x ∈ l' ↔ x ∈ l) ∧ l'.Pairwise (· ≤ ·) ∧ w.grownBy w' v.ownBlock := by
  obtain ⟨A, c, rfl, hlc, _, hA⟩ := Rk.Own.form ri_ok h
  rcases hA with rfl | ⟨g, rfl, hbg, hg⟩
  · have h0 : l = [] := by
      rcases h.2 with ⟨e, h1⟩ | ⟨g, cap, cur, e, _⟩
      · exact List.eq_nil_of_length_eq_zero h1
      · cases e
    subst h0
    refine (Any.slices_Sort_int_none Tryz.lays189 none c w).mono ?_
    rintro e w' ⟨rfl, rfl⟩
    exact ⟨rfl, [], h, rfl, fun x => Iff.rfl, List.Pairwise.nil, ⟨rfl, rfl, rfl, Nat.le_refl _, fun _ _ _ => rfl⟩⟩
  · obtain ⟨_, hgl, _, hH⟩ := own_holds h
    have hc := Any.slices_Sort_int Tryz.lays189 g 0 c (toI l) w hH hgl (by rw [toI_len]; omega)
    rw [toI_len] at hc
    refine hc.mono ?_
    rintro e w' ⟨rfl, n, os, rfl⟩
    obtain ⟨ts, hts⟩ : ∃ ts, ts = (toI l).mergeSort fun x y => decide (x ≤ y) := ⟨_, rfl⟩
    rw [← hts]
    have hmem : ∀ x, x ∈ ts ↔ x ∈ toI l := fun x => by rw [hts]; exact (List.mergeSort_perm _ _).mem_iff
    have hlen : ts.length = l.length := by rw [hts, List.length_mergeSort, toI_len]
    have hpw : ts.Pairwise (· ≤ ·) := by
      have := List.pairwise_mergeSort (le := fun x y : Int => decide (x ≤ y)) (fun a b c h1 h2 => by simp at h1 h2 ⊢; omega) (fun a b => by simp; omega) (toI l)
      rw [← hts] at this
      exact this.imp fun h => by simpa using h
    obtain ⟨l', rfl⟩ := of_toI ts (fun x hx => by obtain ⟨n, _, e⟩ := mem_toI.1 ((hmem x).1 hx); omega)
    rw [toI_len] at hlen
    rcases h.2 with ⟨e, _⟩ | ⟨g', cap', cur, e, hb, hh, hnc, hcm, hcs, ht⟩
    · cases e
    · injection e with e1 e2 e3
      injection e1 with e1
      injection e1 with e1
      subst e1
      subst e3
      have ho := ownsRow_sortedI (w := w) (base := base) (g := g) (cap := c) (n := n) (os := os) (ss := toI l) (ts := toI l') (by rw [toI_len, toI_len, hlen]) hb hh (by rw [toI_len]; omega) hcm hcs
      refine ⟨rfl, l', ?_, hlen, fun x => ?_, toI_pw hpw, grownBy_sortedI _⟩
      · rw [toI_len] at ho
        unfold Rk.Own
        rw [ri_toI, hlen]
        exact ho
      · have := hmem (x : Int)
        rw [mem_toI, mem_toI] at this
        constructor
        · intro hx
          obtain ⟨n, h1, h2⟩ := this.1 ⟨x, hx, rfl⟩
          have : n = x := by omega
          rw [← this]; exact h1
        · intro hx
          obtain ⟨n, h1, h2⟩ := this.2 ⟨x, hx, rfl⟩
          have : n = x := by omega
          rw [← this]; exact h1

theorem comp_up {d : Array Int} (hd : ∀ i j, i ≤ j → j < d.size → d[i]! ≤ d[j]!) : ∀ m, m ≤ d.size → (Lib.compactUpTo d m).Pairwise (· < ·) ∧ ∀ x, x ∈ Lib.compactUpTo d m ↔ ∃ j, j < m ∧ x = d[j]!
  | 0, _ => by simp [Lib.compactUpTo]
  | m + 1, hm => by
    obtain ⟨h1, h2⟩ := comp_up hd m (by omega)
    rw [Lib.compactUpTo_succ]
    by_cases hk : Lib.keeps d m = true
    · rw [if_pos hk]
      have hk : m = 0 ∨ d[m]! ≠ d[m - 1]! := by simpa [Lib.keeps] using hk
      refine ⟨List.pairwise_append.2 ⟨h1, List.pairwise_singleton _ _, fun x hx y hy => ?_⟩, fun x => ?_⟩
      · obtain ⟨j, hj, rfl⟩ := (h2 x).1 hx
        have : y = d[m]! := by simpa using hy
        subst this
        have a1 := hd j (m - 1) (by omega) (by omega)
        have a2 := hd (m - 1) m (by omega) (by omega)
        rcases hk with hk | hk <;> omega
      · rw [List.mem_append, h2]
        constructor
        · rintro (⟨j, hj, e⟩ | h)
          · exact ⟨j, by omega, e⟩
          · exact ⟨m, by omega, by simpa using h⟩
        · rintro ⟨j, hj, e⟩
          rcases Nat.lt_or_ge j m with h | h
          · exact .inl ⟨j, h, e⟩
          · have : j = m := by omega
            subst this
            exact .inr (by simpa using e)
    · rw [if_neg hk, List.append_nil]
      have hk : ¬ (m = 0 ∨ d[m]! ≠ d[m - 1]!) := by simpa [Lib.keeps] using hk
      refine ⟨h1, fun x => ?_⟩
      rw [h2]
      constructor
      · rintro ⟨j, hj, e⟩
        exact ⟨j, by omega, e⟩
      · rintro ⟨j, hj, e⟩
        rcases Nat.lt_or_ge j m with h | h
        · exact ⟨j, h, e⟩
        · have : j = m := by omega
          subst this
          refine ⟨j - 1, by omega, ?_⟩
          have : d[j]! = d[j - 1]! := by
            refine Classical.byContradiction fun hn => hk (.inr hn)
          rw [e, this]
/-- what is left of a row that rises -/
theorem compact_up {l : List Nat} (h : l.Pairwise (· ≤ ·)) : ∃ l', Lib.compact (toI l) = toI l' ∧ l'.Pairwise (· < ·) ∧ ∀ x, x ∈ l' ↔ x ∈ l := by
  have hz : (toI l).toArray.size = l.length := by simp [toI]
  have hget : ∀ j, j < l.length → ((toI l).toArray)[j]! = (l.getD j 0 : Nat) := fun j hj => by
    rw [getElem!_pos _ _ (by rw [hz]; exact hj)]
    simp [toI, hj]
  obtain ⟨h1, h2⟩ := comp_up (d := (toI l).toArray) (fun i j hij hj => by
    rw [hz] at hj
    rw [hget i (by omega), hget j hj]
    rcases Nat.eq_or_lt_of_le hij with e | e
    · subst e; exact Int.le_refl _
    · have := List.pairwise_iff_getElem.1 h i j (by omega) hj e
      simp [List.getD_eq_getElem?_getD, List.getElem?_eq_getElem (show i < l.length by omega), List.getElem?_eq_getElem hj]
      exact_mod_cast this) l.length (by rw [hz]; exact Nat.le_refl _)
  have e : Lib.compact (toI l) = Lib.compactUpTo (toI l).toArray l.length := by unfold Lib.compact; rw [toI_len]
  rw [e]
  obtain ⟨l', hl'⟩ := of_toI (Lib.compactUpTo (toI l).toArray l.length) (fun x hx => by
    obtain ⟨j, hj, rfl⟩ := (h2 x).1 hx
    rw [hget j hj]; omega)
  rw [hl'] at h1 h2
  refine ⟨l', hl', ?_, fun x => ?_⟩
  · unfold toI at h1
    rw [List.pairwise_map] at h1
    exact h1.imp fun h => by omega
  · have h3 := h2 (x : Int)
    rw [mem_toI] at h3
    constructor
    · intro hx
      obtain ⟨j, hj, e⟩ := h3.1 ⟨x, hx, rfl⟩
      rw [hget j hj] at e
      have : x = l.getD j 0 := by omega
      rw [this, List.getD_eq_getElem?_getD, List.getElem?_eq_getElem hj]
      exact List.getElem_mem hj
    · intro hx
      obtain ⟨j, hj, e⟩ := List.getElem_of_mem hx
      obtain ⟨n, h4, h5⟩ := h3.2 ⟨j, hj, by rw [hget j hj, List.getD_eq_getElem?_getD, List.getElem?_eq_getElem hj, ← e]; rfl⟩
      have : n = x := by omega
      rw [← this]; exact h4
/-- two rows that rise, with the same ones -/
theorem up_one : ∀ {a b : List Nat}, a.Pairwise (· < ·) → b.Pairwise (· < ·) → (∀ x, x ∈ a ↔ x ∈ b) → a = b
  | [], [], _, _, _ => rfl
  | [], y :: b, _, _, h => by have := (h y).2 (by simp); simp at this
  | x :: a, [], _, _, h => by have := (h x).1 (by simp); simp at this
  | x :: a, y :: b, ha, hb, h => by
    obtain ⟨ha1, ha2⟩ := List.pairwise_cons.1 ha
    obtain ⟨hb1, hb2⟩ := List.pairwise_cons.1 hb
    have e : x = y := by
      rcases List.mem_cons.1 ((h x).1 (by simp)) with h1 | h1
      · exact h1
      · rcases List.mem_cons.1 ((h y).2 (by simp)) with h2 | h2
        · exact h2.symm
        · have := hb1 x h1
          have := ha1 y h2
          omega
    subst e
    congr 1
    refine up_one ha2 hb2 fun z => ?_
    constructor
    · intro hz
      rcases List.mem_cons.1 ((h z).1 (List.mem_cons_of_mem _ hz)) with h1 | h1
      · have := ha1 z hz; omega
      · exact h1
    · intro hz
      rcases List.mem_cons.1 ((h z).2 (List.mem_cons_of_mem _ hz)) with h1 | h1
      · have := hb1 z hz; omega
      · exact h1

/-- 'slices.Compact' of a row that rises -/
theorem compactI_any {base : Nat} {v : Value} {l : List Nat} (w : World) (h : RI.Own w base v l) (hl : l.length ≤ 1000000000) (hp : l.Pairwise (· ≤ ·)) :
    Calls Tryz.prog 23 #[v] w fun e w' => ∃ A c l', e = .returned (.slice A l'.length c) ∧ l'.length ≤ c ∧ RI.At w' A l' ∧ (A = none ∨ ∃ g, A = some ⟨g, 0, none⟩ ∧ base ≤ g ∧ g < w'.heap.size) ∧ l'.Pairwise (· < ·) ∧ (∀ x, x ∈ l' ↔ x ∈ l) ∧ w.grownBy w' v.ownBlock := by
  obtain ⟨A, c, rfl, hlc, hat, hA⟩ := Rk.Own.form ri_ok h
  rcases hA with rfl | ⟨g, rfl, hbg, hg⟩
  · have h0 : l = [] := by
      rcases h.2 with ⟨e, h1⟩ | ⟨g, cap, cur, e, _⟩
      · exact List.eq_nil_of_length_eq_zero h1
      · cases e
    subst h0
    refine (AnyG.slices_Compact_int_empty Tryz.compI none c w).mono ?_
    rintro e w' ⟨rfl, rfl⟩
    exact ⟨none, c, [], rfl, Nat.zero_le _, .inl rfl, .inl rfl, List.Pairwise.nil, fun x => Iff.rfl, ⟨rfl, rfl, rfl, Nat.le_refl _, fun _ _ _ => rfl⟩⟩
  · obtain ⟨_, hgl, hcap, hH⟩ := own_holds h
    have hc := AnyG.slices_Compact_int Tryz.compI g 0 c (toI l) w hH (by rw [toI_len]; omega) (by rw [toI_len]; omega)
    rw [toI_len] at hc
    obtain ⟨l', he, hp', hm'⟩ := compact_up hp
    rw [he, toI_len] at hc
    refine hc.mono ?_
    rintro e w' ⟨rfl, q, rfl⟩
    have hll : l'.length ≤ l.length := by
      have h1 : (toI l').length = (Lib.compact (toI l)).length := by rw [he]
      rw [toI_len] at h1
      rw [h1]
      unfold Lib.compact Lib.compactUpTo
      rw [List.length_map]
      have := List.length_filter_le (Lib.keeps (toI l).toArray) (List.range (toI l).length)
      rw [List.length_range, toI_len] at this
      simpa [toI_len] using this
    obtain ⟨d, hd⟩ : ∃ d, d = (toI l' ++ List.replicate (l.length - l'.length) 0).toArray := ⟨_, rfl⟩
    have hds : d.size = (toI l).toArray.size := by rw [hd]; simp [toI]; omega
    rw [← hd]
    have hH2 : Holds (Value.int .i64) (Sort.ahead w q) g 0 (toI l).toArray := holds_ahead (Value.int .i64) w q g 0 _ hH
    refine ⟨some ⟨g, 0, none⟩, c, l', rfl, by omega, .inr ⟨g, 0, rfl, ?_, fun j u hu => ?_⟩, .inr ⟨g, rfl, hbg, ?_⟩, hp', hm', ?_⟩
    · simpa using hgl
    · have hjl : j < l'.length := by
        have := (List.getElem?_eq_some_iff.1 hu).1
        rw [ri_ok.length] at this
        have e : RI.m = 1 := rfl
        rw [e] at this; omega
      have hjs : j < d.size := by rw [hds]; simp [toI]; omega
      rw [cell?_putRow (Value.int .i64) (Sort.ahead w q) g 0 (toI l).toArray d hH2 hds j hjs, ← hu, ri_toI, List.getElem?_map, getElem!_pos d j hjs]
      subst hd
      rw [List.getElem_toArray, List.getElem_append_left (by rw [toI_len]; exact hjl), List.getElem?_eq_getElem (by rw [toI_len]; exact hjl)]
      rfl
    · simpa using hgl
    · have h1 := grownBy_sortedI (w := w) (g := g) (n := q) (os := #[]) d
      have e : grow (putRow (Value.int .i64) (Sort.ahead w q) g 0 d) #[] = putRow (Value.int .i64) (Sort.ahead w q) g 0 d := by simp [grow]; rfl
      rw [e] at h1
      exact h1
end Go.Proofs.YtbokhhialfbjcaaGreat

namespace Go.Proofs.YtbokhhialfbjcaaGreat
set_option maxRecDepth 100000
set_option linter.unusedVariables false
set_option linter.unusedSimpArgs false
open Go.RowKit Go.Shelf Go.Sort Go.Maps

abbrev nilI : Value := .slice none 0 0
/-- rows of numbers, each in a block of its own: at 2 p the first map's, at 2 p + 1 the second's, at 512 the variable's -/
structure Rw (W : World) (B : Nat) (R : Nat → Value) (L : Nat → List Nat) : Prop where
  own : ∀ i, i < 513 → RI.Own W B (R i) (L i)
  apart : ∀ i j k, i < 513 → j < 513 → (R i).ownBlock = some k → (R j).ownBlock = some k → i = j
theorem Rw.start (W : World) (B : Nat) : Rw W B (fun _ => nilI) (fun _ => []) := ⟨fun _ _ => Rk.Own.nil _ _ _, fun i j k _ _ e => by cases e⟩
theorem Rw.turn {W W' : World} {B : Nat} {R : Nat → Value} {L : Nat → List Nat} {S : Nat → Prop} (h : Rw W B R L) (ht : Turn S W W') (hS : ∀ q, S q → q < B) : Rw W' B R L :=
  ⟨fun i hi => (h.own i hi).turn ht (fun k e hs => by have h1 := ((h.own i hi).lt k e).1; have h2 := hS k hs; omega), h.apart⟩
theorem Rw.congr {W : World} {B : Nat} {R : Nat → Value} {L L' : Nat → List Nat} (h : Rw W B R L) (e : ∀ i, i < 513 → L i = L' i) : Rw W B R L' :=
  ⟨fun i hi => by rw [← e i hi]; exact h.own i hi, h.apart⟩
theorem Rw.step {W W' : World} {B : Nat} {R : Nat → Value} {L : Nat → List Nat} {S : Nat → Prop} (h : Rw W B R L) (ht : Turn S W W') (i0 : Nat) (h0 : i0 < 513) (hS : ∀ q, S q → q < B ∨ (R i0).ownBlock = some q) {v : Value} {l : List Nat}
    (ho : RI.Own W' B v l) (hv : ∀ k, v.ownBlock = some k → (R i0).ownBlock = some k ∨ W.heap.size ≤ k) : Rw W' B (fun i => if i = i0 then v else R i) (fun i => if i = i0 then l else L i) := by
  refine ⟨fun i hi => ?_, fun i j k hi hj ei ej => ?_⟩
  · by_cases e : i = i0
    · simp only [e, if_true]; exact ho
    · simp only [e, if_false]
      refine (h.own i hi).turn ht (fun k e1 hs => ?_)
      rcases hS k hs with h1 | h1
      · have := ((h.own i hi).lt k e1).1; omega
      · exact e (h.apart i i0 k hi h0 e1 h1)
  · have old : ∀ i, i < 513 → i ≠ i0 → (R i).ownBlock = some k → v.ownBlock ≠ some k := fun i hi hne e1 e2 => by
      rcases hv k e2 with h1 | h1
      · exact hne (h.apart i i0 k hi h0 e1 h1)
      · have := ((h.own i hi).lt k e1).2; omega
    by_cases e : i = i0
    · by_cases e2 : j = i0
      · rw [e, e2]
      · simp only [e, if_true] at ei
        simp only [e2, if_false] at ej
        exact absurd ei (old j hj e2 ej)
    · simp only [e, if_false] at ei
      by_cases e2 : j = i0
      · simp only [e2, if_true] at ej
        exact absurd ej (old i hi e ei)
      · simp only [e2, if_false] at ej
        exact h.apart i j k hi hj ei ej

/-- what is next of n, and what is ahead of it -/
def nxE (E : List (Nat × Nat)) (n : Nat) : List Nat := (E.filter fun e => decide (e.1 = n)).map Prod.snd
def bkE (E : List (Nat × Nat)) (n : Nat) : List Nat := (E.filter fun e => decide (e.2 = n)).map Prod.fst
def lstE (E : List (Nat × Nat)) (i : Nat) : List Nat := if i = 512 then E.map Prod.fst else if i % 2 = 0 then nxE E (i / 2) else bkE E (i / 2)
theorem mem_nxE {E : List (Nat × Nat)} {n x : Nat} : x ∈ nxE E n ↔ (n, x) ∈ E := by
  unfold nxE
  rw [List.mem_map]
  constructor
  · rintro ⟨⟨a, b⟩, h, e⟩
    obtain ⟨h1, h2⟩ := List.mem_filter.1 h
    simp at h2 e
    subst h2; subst e
    exact h1
  · intro h
    exact ⟨(n, x), List.mem_filter.2 ⟨h, by simp⟩, rfl⟩
theorem mem_bkE {E : List (Nat × Nat)} {n x : Nat} : x ∈ bkE E n ↔ (x, n) ∈ E := by
  unfold bkE
  rw [List.mem_map]
  constructor
  · rintro ⟨⟨a, b⟩, h, e⟩
    obtain ⟨h1, h2⟩ := List.mem_filter.1 h
    simp at h2 e
    subst h2; subst e
    exact h1
  · intro h
    exact ⟨(x, n), List.mem_filter.2 ⟨h, by simp⟩, rfl⟩
theorem nxE_snoc (E : List (Nat × Nat)) (a b n : Nat) : nxE (E ++ [(a, b)]) n = nxE E n ++ (if a = n then [b] else []) := by
  unfold nxE
  rw [List.filter_append, List.map_append]
  congr 1
  by_cases h : a = n <;> simp [h]
theorem bkE_snoc (E : List (Nat × Nat)) (a b n : Nat) : bkE (E ++ [(a, b)]) n = bkE E n ++ (if b = n then [a] else []) := by
  unfold bkE
  rw [List.filter_append, List.map_append]
  congr 1
  by_cases h : b = n <;> simp [h]
theorem nxE_len (E : List (Nat × Nat)) (n : Nat) : (nxE E n).length ≤ E.length := by
  unfold nxE; rw [List.length_map]; exact List.length_filter_le _ _
theorem bkE_len (E : List (Nat × Nat)) (n : Nat) : (bkE E n).length ≤ E.length := by
  unfold bkE; rw [List.length_map]; exact List.length_filter_le _ _
/-- one edge more: three rows grow -/
theorem lstE_snoc (E : List (Nat × Nat)) (a b : Nat) (ha : a < 256) (hb : b < 256) (i : Nat) (hi : i < 513) :
    (if i = 512 then E.map Prod.fst ++ [a] else if i = 2 * b + 1 then bkE E b ++ [a] else if i = 2 * a then nxE E a ++ [b] else lstE E i) = lstE (E ++ [(a, b)]) i := by
  unfold lstE
  by_cases h : i = 512
  · simp [h]
  · rw [if_neg h, if_neg h, if_neg h]
    by_cases h2 : i % 2 = 0
    · rw [if_pos h2, if_neg (show ¬ i = 2 * b + 1 by omega), if_pos h2, nxE_snoc]
      by_cases h3 : i = 2 * a
      · rw [if_pos h3, if_pos (show a = i / 2 by omega), show i / 2 = a from by omega]
      · rw [if_neg h3, if_neg (show ¬ a = i / 2 by omega), List.append_nil]
    · rw [if_neg h2, if_neg h2, bkE_snoc]
      by_cases h3 : i = 2 * b + 1
      · rw [if_pos h3, if_pos (show b = i / 2 by omega), show i / 2 = b from by omega]
      · rw [if_neg h3, if_neg (show ¬ i = 2 * a by omega), if_neg (show ¬ b = i / 2 by omega), List.append_nil]

/-- a step of a walk that this row is ahead of -/
def stepOf (V : Nat → Value) (n : Nat) : Sp1 := match V n with | .slice A k c => ⟨n, A, k, c⟩ | _ => ⟨n, none, 0, 0⟩
theorem stepOf_eq {V : Nat → Value} {n : Nat} {A : Option Addr} {k c : Nat} (h : V n = .slice A k c) : stepOf V n = ⟨n, A, k, c⟩ := by unfold stepOf; rw [h]
theorem rows_nx {W : World} {B M : Nat} {V : Nat → Value} {nx : Nat → List Nat} (hV : ∀ n, n < 64 → RI.Own W B (V n) (nx n)) (hlt : ∀ n, n < 64 → ∀ z ∈ nx n, z < 64) (hfew : ∀ n, n < 64 → (nx n).length ≤ M) : Nx W nx (stepOf V) M := by
  refine ⟨fun n hn => ?_, hlt, hfew⟩
  obtain ⟨A, c, e, hc, hat, hsp⟩ := Rk.Own.form ri_ok (hV n hn)
  rw [stepOf_eq e]
  exact ⟨rfl, rfl, hc, hsp.imp id (fun ⟨g, e, _⟩ => ⟨g, 0, e⟩), hat⟩

abbrev Mb (W : World) (g bm : Nat) : Prop := Bk W g #[.map (some bm)] 58
theorem on_any (n g bm nn : Nat) (V : Nat → Value) (W : World) (hn : n < 256) (hm : Mv W bm nn nilI V) (hb : Mb W g bm) :
    Calls Tryz.prog 20 #[.int .i64 (n : Int), .pointer (some ⟨g, 0, none⟩)] W fun e w' => e = .returned (V n) ∧ w' = W := by
  have c0 := hb.c 0 _ rfl
  have hl := hm.look 58 37 Tryz.underlying58 (fun W => Tryz.zeroValue37 W) n hn
  go_enter Tryz.func20, Tryz.ntmps20
  go_wp2_with fail
  go_ret
  exact ⟨rfl, rfl⟩
theorem by_any (n g bm nn : Nat) (V : Nat → Value) (W : World) (hn : n < 256) (hm : Mv W bm nn nilI V) (hb : Mb W g bm) :
    Calls Tryz.prog 21 #[.int .i64 (n : Int), .pointer (some ⟨g, 0, none⟩)] W fun e w' => e = .returned (V n) ∧ w' = W := by
  have c0 := hb.c 0 _ rfl
  have hl := hm.look 58 37 Tryz.underlying58 (fun W => Tryz.zeroValue37 W) n hn
  go_enter Tryz.func21, Tryz.ntmps21
  go_wp2_with fail
  go_ret
  exact ⟨rfl, rfl⟩
theorem stepOf_val {W : World} {B : Nat} {V : Nat → Value} {n : Nat} {l : List Nat} (h : RI.Own W B (V n) l) : V n = .slice (stepOf V n).a (stepOf V n).k (stepOf V n).c := by
  obtain ⟨A, c, e, _⟩ := Rk.Own.form ri_ok h
  rw [stepOf_eq e]; exact e
theorem on_fx {W : World} {B M g bm nn : Nat} {V : Nat → Value} {nx : Nat → List Nat} (hV : ∀ n, n < 64 → RI.Own W B (V n) (nx n)) (hlt : ∀ n, n < 64 → ∀ z ∈ nx n, z < 64) (hfew : ∀ n, n < 64 → (nx n).length ≤ M) (hm : Mv W bm nn nilI V) (hb : Mb W g bm) :
    Fx W 20 g nx (stepOf V) M :=
  ⟨enters_of Tryz.func20 (by kernel_rfl) rfl, rows_nx hV hlt hfew, fun U hU n hn => (on_any n g bm nn V U (by omega) (hm.below hU) (hb.below hU)).mono fun e w' h => ⟨by rw [h.1, ← stepOf_val (hV n hn)], by rw [h.2]; exact Below.refl _ _⟩⟩
theorem by_fx {W : World} {B M g bm nn : Nat} {V : Nat → Value} {nx : Nat → List Nat} (hV : ∀ n, n < 64 → RI.Own W B (V n) (nx n)) (hlt : ∀ n, n < 64 → ∀ z ∈ nx n, z < 64) (hfew : ∀ n, n < 64 → (nx n).length ≤ M) (hm : Mv W bm nn nilI V) (hb : Mb W g bm) :
    Fx W 21 g nx (stepOf V) M :=
  ⟨enters_of Tryz.func21 (by kernel_rfl) rfl, rows_nx hV hlt hfew, fun U hU n hn => (by_any n g bm nn V U (by omega) (hm.below hU) (hb.below hU)).mono fun e w' h => ⟨by rw [h.1, ← stepOf_val (hV n hn)], by rw [h.2]; exact Below.refl _ _⟩⟩
end Go.Proofs.YtbokhhialfbjcaaGreat

namespace Go.Proofs.YtbokhhialfbjcaaGreat
set_option maxRecDepth 100000
set_option linter.unusedVariables false
set_option linter.unusedSimpArgs false
open Go.RowKit Go.Shelf Go.Sort Go.Maps

theorem lstE_even {l : List (Nat × Nat)} {a : Nat} (h : a < 256) : lstE l (2 * a) = nxE l a := by
  unfold lstE
  rw [if_neg (by omega), if_pos (by omega), show 2 * a / 2 = a from by omega]
theorem lstE_odd {l : List (Nat × Nat)} {b : Nat} : lstE l (2 * b + 1) = bkE l b := by
  unfold lstE
  rw [if_neg (by omega), if_neg (by omega), show (2 * b + 1) / 2 = b from by omega]
theorem lstE_all {l : List (Nat × Nat)} : lstE l 512 = l.map Prod.fst := by unfold lstE; rw [if_pos rfl]

section
variable {wz w7 w8 w9 : World} {m B a b : Nat} {R : Nat → Value} {l : List (Nat × Nat)} {v1 v2 v3 : Value}
/-- the first map's row grew -/
theorem Rw.one (h : Rw wz B R (lstE l)) (ha : a < 256) (hm : m + 1 < B)
    (t7 : Turn (fun q => q = m ∨ (R (2 * a)).ownBlock = some q) wz w7) (o1 : RI.Own w7 B v1 (nxE l a ++ [b])) (n1 : ∀ k, v1.ownBlock = some k → (R (2 * a)).ownBlock = some k ∨ wz.heap.size ≤ k) :
    Rw w7 B (fun i => if i = 2 * a then v1 else R i) (fun i => if i = 2 * a then nxE l a ++ [b] else lstE l i) :=
  h.step t7 (2 * a) (by omega) (fun q e => e.imp (fun e => by omega) id) o1 n1
theorem Rw.two (h : Rw wz B R (lstE l)) (ha : a < 256) (hb : b < 256) (hm : m + 1 < B)
    (t7 : Turn (fun q => q = m ∨ (R (2 * a)).ownBlock = some q) wz w7) (o1 : RI.Own w7 B v1 (nxE l a ++ [b])) (n1 : ∀ k, v1.ownBlock = some k → (R (2 * a)).ownBlock = some k ∨ wz.heap.size ≤ k)
    (t8 : Turn (fun q => q = m + 1 ∨ (R (2 * b + 1)).ownBlock = some q) w7 w8) (o2 : RI.Own w8 B v2 (bkE l b ++ [a])) (n2 : ∀ k, v2.ownBlock = some k → (R (2 * b + 1)).ownBlock = some k ∨ w7.heap.size ≤ k) :
    Rw w8 B (fun i => if i = 2 * b + 1 then v2 else if i = 2 * a then v1 else R i) (fun i => if i = 2 * b + 1 then bkE l b ++ [a] else if i = 2 * a then nxE l a ++ [b] else lstE l i) := by
  have e : (if 2 * b + 1 = 2 * a then v1 else R (2 * b + 1)) = R (2 * b + 1) := if_neg (by omega)
  exact (h.one ha hm t7 o1 n1).step t8 (2 * b + 1) (by omega) (fun q e1 => by simp only [e]; exact e1.imp (fun e => by omega) id) o2 (by simp only [e]; exact n2)
theorem Rw.three (h : Rw wz B R (lstE l)) (ha : a < 256) (hb : b < 256) (hm : m + 1 < B)
    (t7 : Turn (fun q => q = m ∨ (R (2 * a)).ownBlock = some q) wz w7) (o1 : RI.Own w7 B v1 (nxE l a ++ [b])) (n1 : ∀ k, v1.ownBlock = some k → (R (2 * a)).ownBlock = some k ∨ wz.heap.size ≤ k)
    (t8 : Turn (fun q => q = m + 1 ∨ (R (2 * b + 1)).ownBlock = some q) w7 w8) (o2 : RI.Own w8 B v2 (bkE l b ++ [a])) (n2 : ∀ k, v2.ownBlock = some k → (R (2 * b + 1)).ownBlock = some k ∨ w7.heap.size ≤ k)
    (t9 : Turn (fun q => (R 512).ownBlock = some q) w8 w9) (o3 : RI.Own w9 B v3 (l.map Prod.fst ++ [a])) (n3 : ∀ k, v3.ownBlock = some k → (R 512).ownBlock = some k ∨ w8.heap.size ≤ k) :
    Rw w9 B (fun i => if i = 512 then v3 else if i = 2 * b + 1 then v2 else if i = 2 * a then v1 else R i) (lstE (l ++ [(a, b)])) := by
  have e : (if 512 = 2 * b + 1 then v2 else if 512 = 2 * a then v1 else R 512) = R 512 := by rw [if_neg (by omega), if_neg (by omega)]
  exact ((h.two ha hb hm t7 o1 n1 t8 o2 n2).step t9 512 (by omega) (fun q e1 => by simp only [e]; exact .inr e1) o3 (by simp only [e]; exact n3)).congr (lstE_snoc l a b ha hb)
end
theorem evenV {R : Nat → Value} {v1 v2 v3 : Value} {a b : Nat} : (fun p => if p < 256 then (if 2 * p = 512 then v3 else if 2 * p = 2 * b + 1 then v2 else if 2 * p = 2 * a then v1 else R (2 * p)) else nilI) = fun p => if p < 256 then (if p = a then v1 else R (2 * p)) else nilI := by
  funext p
  by_cases h : p < 256
  · rw [if_pos h, if_pos h, if_neg (by omega), if_neg (by omega)]
    by_cases e : p = a
    · rw [if_pos (by omega), if_pos e]
    · rw [if_neg (by omega), if_neg e]
  · rw [if_neg h, if_neg h]
/-- values that are the same below 256 -/
theorem Mv.congr {W : World} {b n : Nat} {z : Value} {V V' : Nat → Value} (h : Mv W b n z V) (e : ∀ p, p < 256 → V p = V' p) : Mv W b n z V' := by
  obtain ⟨D, ho, hm, ha⟩ := h
  exact ⟨D, ho, hm, fun p hp => by rw [← e p hp]; exact ha p hp⟩

theorem wp_build_int {W : World} {n : Nat} {o : Oper} {a : Act} {K : Act → World → Prop} {Q : Exit → Act → World → Prop} (x : Operand) (ho : o.op = .buildSlice 37 1 #[(0, x)]) (hx : a.eval x = .int .i64 (n : Int))
    (h : ∀ w' h', W.heap.size ≤ h' → RI.At w' (some ⟨h', 0, none⟩) [n] → Below W.heap.size W w' → K (a.put o.dst (.slice (some ⟨h', 0, none⟩) 1 1)) w') : o.wp Tryz.prog a W K Q := by
  unfold Oper.wp execOp
  simp only [ho, List.map_toArray, List.map_cons, List.map_nil, hx]
  go_simp
  exact h _ _ (Nat.le_refl _) (Rk.At.new ri_ok W n _) (below_new W _)

/-- of one ring -/
def cnd (num : Nat → Option Nat) (e : Nat × Nat) : Bool := decide ((num e.1).getD 0 = (num e.2).getD 0)
/-- all edges: who waits for its kids, and who waits for whom -/
def allE (T : Tr) (L : List Lk) (Q : List Wn) : List (Nat × Nat) := kidN T T.l.length ++ efL T.l.length (edgL T L Q)
theorem mem_allE {T : Tr} (hG : Good T) {L : List Lk} {Q : List Wn} {a b : Nat} : (a, b) ∈ allE T L Q ↔ onR T (edgL T L Q) a b := by
  unfold allE onR
  rw [List.mem_append, mem_kidN hG, mem_efL]
  constructor
  · rintro (⟨h1, h2, h3⟩ | ⟨h1, h2, h3⟩)
    · exact ⟨⟨h1, h2⟩, .inr h3⟩
    · exact ⟨⟨h2, h3⟩, .inl h1⟩
  · rintro ⟨⟨h1, h2⟩, h3 | h3⟩
    · exact .inr ⟨h3, h1, h2⟩
    · exact .inl ⟨h1, h2, h3⟩
theorem stk_same {T : Tr} (hG : Good T) {L : List Lk} {Q : List Wn} {Tt S : List Nat} {num : Nat → Option Nat} (h : Nm (nxE (allE T L Q)) (bkE (allE T L Q)) Tt 0 S num) (hd : Dn (nxE (allE T L Q)) Tt) (hall : ∀ a, nxE (allE T L Q) a ≠ [] → a ∈ Tt)
    {a b : Nat} (hab : (a, b) ∈ efL T.l.length (edgL T L Q)) : ∃ ka kb, num a = some ka ∧ num b = some kb ∧ (ka = kb ↔ Rch (onR T (edgL T L Q)) b a) := by
  have h1 : b ∈ nxE (allE T L Q) a := mem_nxE.2 (List.mem_append_right _ hab)
  obtain ⟨ka, kb, h2, h3, _, _, h4⟩ := h.same hd hall h1
  refine ⟨ka, kb, h2, h3, h4.trans ⟨fun h => h.mono fun u v huv => (mem_allE hG).1 (mem_nxE.1 huv), fun h => h.mono fun u v huv => mem_nxE.2 ((mem_allE hG).2 huv)⟩⟩
theorem stk_mem {T : Tr} (hG : Good T) {L : List Lk} {Q : List Wn} {Tt S : List Nat} {num : Nat → Option Nat} (h : Nm (nxE (allE T L Q)) (bkE (allE T L Q)) Tt 0 S num) (hd : Dn (nxE (allE T L Q)) Tt) (hall : ∀ a, nxE (allE T L Q) a ≠ [] → a ∈ Tt)
    {l : List Nat} (hl : ∀ x, x ∈ l ↔ x ∈ ((efL T.l.length (edgL T L Q)).filter (cnd num)).map Prod.fst) (hp : l.Pairwise (· < ·)) : l = stuckL T (edgL T L Q) := by
  classical
  refine up_one hp ?_ fun x => ?_
  · unfold stuckL stuckN
    exact List.Pairwise.filter _ List.pairwise_lt_range
  · rw [hl, stuckL_mem, List.mem_map]
    unfold stuckR
    constructor
    · rintro ⟨⟨a, b⟩, h1, rfl⟩
      obtain ⟨h1, h2⟩ := List.mem_filter.1 h1
      obtain ⟨ka, kb, h3, h4, h5⟩ := stk_same hG h hd hall h1
      obtain ⟨h6, h7, h8⟩ := mem_efL.1 h1
      unfold cnd at h2
      simp only [h3, h4, Option.getD_some, decide_eq_true_eq] at h2
      exact ⟨b, h6, h7, h8, h5.1 h2⟩
    · rintro ⟨y, h1, h2, h3, h4⟩
      have h5 := mem_efL.2 ⟨h1, h2, h3⟩
      obtain ⟨ka, kb, h6, h7, h8⟩ := stk_same hG h hd hall h5
      refine ⟨(x, y), List.mem_filter.2 ⟨h5, ?_⟩, rfl⟩
      unfold cnd
      simp only [h6, h7, Option.getD_some, decide_eq_true_eq]
      exact h8.2 h4
end Go.Proofs.YtbokhhialfbjcaaGreat
