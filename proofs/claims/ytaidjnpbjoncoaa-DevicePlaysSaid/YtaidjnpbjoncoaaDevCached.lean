/-
  Cached: the sectors that are, by rising numbers, whatever order the map tells them in.
-/
import Derived.Test.YtaidjnpbjoncoaaDevFlush
import Derived.Test.YtaidjnpbjoncoaaSortInt
import Derived.Sort.OwnSortedInts
namespace Go.Proofs.Ytaidjnpbjoncoaa
open Go.RowKit Go.Maps Go.Sort

/-- numbers of sectors, as Go has them -/
def natI (l : List Nat) : List Int := l.map fun (i : Nat) => (i : Int)
def natV (l : List Nat) : List Value := l.map fun (i : Nat) => Value.int .i64 (i : Int)
theorem natV_eq (l : List Nat) : (natI l).map (Value.int .i64) = natV l := by simp [natI, natV]

/-- what was collected: no sector twice; a sector is on the list just where it is cached and no longer to come -/
def Coll (late : Nat → Option (List UInt8)) (left : Lit → Bool) (l : List Nat) : Prop := l.Nodup ∧ ∀ i, i ∈ l ↔ ((late i).isSome = true ∧ left (keyL i) = false)

theorem Coll.start {D : DataW Unit} {late : Nat → Option (List UInt8)} (h : Reads D late) : Coll late (Maps.has D) [] := ⟨List.nodup_nil, fun i => by rw [h.has i]; cases late i <;> simp⟩
theorem Coll.step {late : Nat → Option (List UInt8)} {left : Lit → Bool} {l : List Nat} (h : Coll late left l) {i : Nat} {s : List UInt8} (hi : late i = some s) (hl : left (keyL i) = true) : Coll late (fun z => left z && !z.sameKey (keyL i)) (l ++ [i]) := by
  have hnew : i ∉ l := fun hx => by have := ((h.2 i).1 hx).2; rw [hl] at this; cases this
  refine ⟨List.nodup_append.2 ⟨h.1, by simp, fun a ha b hb => by simp at hb; subst hb; exact fun e => hnew (e ▸ ha)⟩, fun j => ?_⟩
  show _ ↔ ((late j).isSome = true ∧ (left (keyL j) && !(keyL j).sameKey (keyL i)) = false)
  by_cases e : j = i
  · subst e
    rw [hi, WideAt.sameKey_self (show WideAt.IsKeyLit (keyL j) from trivial)]
    simp
  · rw [sameKey_ne (keyL_ne e)]
    simp [h.2 j, e]

theorem Coll.sorted {D : Dv} {left : Lit → Bool} {l : List Nat} (h : Coll D.late left l) (ok : D.Ok) (hl : ∀ kl, left kl = false) : ((natI l).mergeSort fun x y => decide (x ≤ y)) = natI D.keys := by
  have hp : (natI l).Perm (natI D.keys) := List.Perm.map _ ((List.perm_ext_iff_of_nodup h.1 D.keys_nodup).2 fun i => by
    rw [h.2 i, Dv.mem_keys, hl]
    constructor
    · intro ⟨h1, _⟩
      obtain ⟨s, hs⟩ := Option.isSome_iff_exists.1 h1
      exact ⟨ok.inn i s hs, h1⟩
    · intro ⟨_, h1⟩
      exact ⟨h1, rfl⟩)
  have tr : ∀ a b c : Int, (decide (a ≤ b)) = true → (decide (b ≤ c)) = true → (decide (a ≤ c)) = true := fun a b c h1 h2 => by simp only [decide_eq_true_eq] at *; omega
  have to : ∀ a b : Int, (decide (a ≤ b) || decide (b ≤ a)) = true := fun a b => by simp only [Bool.or_eq_true, decide_eq_true_eq]; omega
  refine List.Perm.eq_of_pairwise (le := fun a b => decide (a ≤ b) = true) (fun a b _ _ h1 h2 => ?_) (List.pairwise_mergeSort tr to (natI l)) ?_ ((List.mergeSort_perm (natI l) _).trans hp)
  · simp only [decide_eq_true_eq] at h1 h2
    omega
  · unfold natI
    rw [List.pairwise_map]
    exact D.keys_sorted.imp fun {a b} hab => by simp only [decide_eq_true_eq]; omega

/-- 'Cached' has answered the list in new memory -/
def Listed (w : World) (l : List Nat) (e : Ending) (w' : World) : Prop :=
  ∃ A n cap, e = .returned (.slice A n cap) ∧ n = l.length ∧ w'.ownsRow w.heap.size 3 1 (.slice A n cap) n (natV l) ∧ Below w.heap.size w w'

theorem int_facts : (Try.prog.info? 3).map (fun i => (i.zero, i.size, i.bytes)) = some (some (.int .i64 0), 1, 8) := by kernel_rfl

theorem cached_nil (w : World) : Calls Try.prog 26 #[.pointer none] w (Listed w []) := by
  go_enter Try.func26, Try.ntmps26
  go_wp2_with (go_at_call 33; refine (made_nil w).mono ?_; rintro e w' ⟨rfl, hw⟩; replace hw := hw.symm; subst hw)
  go_ret
  exact ⟨none, 0, 0, rfl, rfl, World.ownsRow_nil _ _ _ _, Below.refl _ _⟩

set_option maxRecDepth 100000 in
set_option maxHeartbeats 1000000 in
theorem cached_any {w : World} {p L M : Nat} {D : Dv} (h : IsDev w p L M D) (hf : D.spent ≤ 1000001) : Calls Try.prog 26 #[ptr p] w (Listed w D.keys) := by
  obtain ⟨i0, hi, hz0, hz1, hz2⟩ := info_parts int_facts
  have hm := made_any h
  have c1 := h.c1
  obtain ⟨Dd, hown, hR⟩ := h.cache
  have hml := h.lt.2.2
  have HR := Lib.hid hR
  have H := Lib.hid h
  have hsz : Maps.size Dd ≤ D.spent := hown.size_le
  have hmax : Maps.size Dd ≤ maxLen := by unfold maxLen; omega
  have hbytes : i0.bytes * Maps.size Dd ≤ 281474976710656 := by rw [hz2]; omega
  have hsz2 : Maps.size Dd ≤ 1000001 := by omega
  have HSZ := Lib.hid hsz2
  clear h hR hsz hf hsz2
  go_enter Try.func26, Try.ntmps26
  go_wp2_with (first
    | (go_at_call 33; refine hm.mono ?_; rintro e w' ⟨rfl, hw⟩; replace hw := hw.symm; subst hw)
    | (at_len; refine wpList_len_own _ rfl _ 56 rfl 3 60 Try.underlying56 _ M D.spent _ rfl hown ?_)
    | (at_make; refine wpList_make_own _ rfl _ _ 47 rfl w.heap.size 3 i0 (.int .i64 0) 1 Try.underlying47 hi hz0 hz1 _ _ _ (Maps.size Dd) rfl rfl rfl hbytes hmax (Nat.le_refl _) ?_; intro w1 hrow1 hg1; have c1' := hg1.cell c1 (by simp); have HROW1 := Lib.hid hrow1; have HG1 := Lib.hid hg1; clear hrow1 hg1)
    | (at_range; refine wpList_range_own _ rfl _ 56 rfl 3 60 lawK Try.underlying56 _ M D.spent _ rfl (hown.kept HG1.out (by simp)) ?_; intro w0 hrg0 hg0 hs0; have HRG0 := Lib.hid hrg0; have HG0 := Lib.hid hg0; clear hrg0 hg0 hs0))
  go_frame
  have HB := Lib.hid hbytes
  have HMX := Lib.hid hmax
  clear hbytes hmax
  go_loopw [3] (fun v wr => ∃ (left : Lit → Bool) (cnt : Nat) (ss : List Nat), Hid (wr.ranges Try.prog 3 secElem M w1.heap.size D.spent Dd left cnt) ∧ Hid (ss.length + cnt ≤ Maps.size Dd) ∧
      Hid (wr.ownsRow w.heap.size 3 1 v ss.length (natV ss)) ∧ Hid (v ≠ .slice none 0 0) ∧ Hid (Coll D.late left ss) ∧ Hid (Below w.heap.size w wr))
    (fun _ wr => wr.rangeLeft M w1.heap.size)
  case atStart =>
    exact ⟨_, _, [], HRG0, by simp [Hid], HROW1.out.kept HG0.out (Or.inr (by simp [Value.ownBlock])), by simp [Hid], Coll.start HR.out,
      ((Below.refl _ _).grown HG1.out (Nat.le_refl _) (fun j hj => by cases hj)).grown HG0.out HG1.out.size (fun j hj => by cases hj)⟩
  case round =>
    obtain ⟨left, cnt, ss, hrg, hcs, hrow, hnn, hC, hnx⟩ := hrel
    go_wp2_with (at_next; refine wpList_next_ranges _ rfl _ rfl 3 lawK secElem (Value.int .i64) secV invK invV M w1.heap.size D.spent _ _ _ rfl hrg.out ?_ ?_)
    · intro hc0 hl0
      have HL0 := Lib.hid hl0
      clear hl0 hc0
      rcases hrow.out.2 with ⟨hnil, _⟩ | ⟨g, cap, cur, rfl, hbase, hb, h1, h2, h3, h4⟩
      · exact absurd hnil hnn.out
      have hH : Holds (Value.int .i64) wr g 0 (natI ss).toArray := holds_of_blockI hb (by rw [natV_eq]; simpa [natI] using h4)
      have hgl : g < wr.heap.size := (Array.getElem?_eq_some_iff.1 hb).1
      have hln : (natI ss).length = ss.length := by simp [natI]
      have hc := sort_any g 0 cap (natI ss) wr hH hgl (by rw [hln]; have := hcs.out; have := HSZ.out; omega)
      rw [hln] at hc
      have HC := Lib.hid hc
      have HBK := Lib.hid (show _ ∧ _ ∧ _ ∧ _ ∧ _ from ⟨hbase, hb, h1, h2, h3⟩)
      clear hc hH hgl hln hbase hb h1 h2 h3 h4
      go_wp2_with (go_at_call 34; refine HC.out.mono ?_; rintro e w' ⟨rfl, nn, os, rfl⟩)
      go_ret
      obtain ⟨hbase, hb, h1, h2, h3⟩ := HBK.out
      have es := hC.out.sorted H.out.ok HL0.out
      rw [es]
      have el : (natI D.keys).length = ss.length := by rw [← es, List.length_mergeSort]; simp [natI]
      have hr2 := ownsRow_sortedI (n := nn) (os := os) (ss := natI ss) (ts := natI D.keys) (by rw [el]; simp [natI]) hbase hb (by simpa [natI] using h1) h2 h3
      have el2 : D.keys.length = ss.length := by rw [← el]; simp [natI]
      rw [natV_eq] at hr2
      refine ⟨_, ss.length, cap, rfl, el2.symm, by simpa [natI] using hr2, hnx.out.grown (grownBy_sortedI _) hnx.out.size (fun j hj => by cases hj; exact hbase)⟩
    · intro x c kl yd yp w2 cnt2 hkey hlk hv hat hrg2 hlt hg2 hs2 hen
      obtain ⟨i, rfl, rfl, hil, hs⟩ := HR.out.entry hkey hv hat
      have hrow2 := hrow.out.kept hg2 (Or.inr (row_ne_iter hrow.out hrg.out).symm)
      have HRG2 := Lib.hid hrg2
      have HG2 := Lib.hid hg2
      have HLT := Lib.hid hlt
      have HLE := Lib.hid hrg.out.left_eq
      have HC2 := Lib.hid (hC.out.step hil hlk)
      have hbl2 : w.heap.size ≤ w2.heap.size := Nat.le_trans hnx.out.size hg2.size
      have hss : ss.length + 1 ≤ 1000001 := by have := hcs.out; have := HSZ.out; omega
      clear hs2 hkey hlk hv hat hrg2 hlt hg2 hil hs
      go_wp2_with (at_builtin; refine wpList_append_own _ rfl _ _ 47 rfl w.heap.size 3 i0 (.int .i64 0) 1 8 Try.underlying47 hi hz0 hz1 hz2 rfl (by decide) _ _ _ rfl (hrow2.alloc _) ⟨w2.heap.size, 0, none⟩ 1 1 [.int .i64 (i : Int)] rfl rfl (cell_one_new _ _ _) (ints_oneCell .i64 [(i : Int)]) (by unfold maxLen; omega) (by omega) (by simp; omega) ?_; intro v' w3 hown' hg3 hnil3; go_frame)
      have hrg3 := (HRG2.out.alloc (.cells #[.int .i64 (i : Int)] 3)).kept hg3 (row_ne_low hrow2 hml) (row_ne_iter hrow2 HRG2.out)
      refine ⟨⟨_, cnt2, ss ++ [i], hrg3, ?_, ?_, fun hv' => by have := (hnil3.1 hv').2; omega, HC2.out, ?_⟩, ?_⟩
      · have := hcs.out
        have := HLT.out
        show (ss ++ [i]).length + cnt2 ≤ _
        rw [List.length_append, List.length_singleton]
        omega
      · show w3.ownsRow _ _ _ _ (ss ++ [i]).length (natV (ss ++ [i]))
        rw [List.length_append, List.length_singleton, show natV (ss ++ [i]) = natV ss ++ [Value.int .i64 (i : Int)] from by simp [natV]]
        exact hown'
      · exact ((hnx.out.grown HG2.out hnx.out.size (fun j hj => by cases hj; exact HG1.out.size)).alloc hbl2 _).grown hg3 (by simp; omega) (fun j hj => (hrow2.lt j hj).1)
      · rw [hrg3.left_eq, HLE.out]; exact HLT.out

end Go.Proofs.Ytaidjnpbjoncoaa
