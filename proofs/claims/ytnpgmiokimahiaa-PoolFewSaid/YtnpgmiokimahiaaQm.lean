/-
  Held, Dirty and Clean, over what 'rising' answers.
-/
import Derived.Test.YtnpgmiokimahiaaQl
namespace Go.Proofs.Ytnpgmiokimahiaa
set_option maxRecDepth 100000
set_option linter.unusedVariables false
set_option linter.unusedSimpArgs false
open Go.RowKit Pl

/-- the frames by rising sectors, in a row of new memory -/
structure Rose (w : World) (l : List Fq) (N : Nat) (l2 : List Fq) (A2 : Option Addr) (c2 : Nat) (w' : World) : Prop where
  perm : l2.Perm l
  up : l2.Pairwise fun x y => x.at_ ≤ y.at_
  row : ∀ (k : Nat) (x : Fq), l2[k]? = some x → ∃ g o, A2 = some ⟨g, o, none⟩ ∧ w.heap.size ≤ g ∧ g < w'.heap.size ∧ w'.cell? ⟨g, o + k, none⟩ = some (ptr x.g)
  new : Below w.heap.size w w'
def RisingOk : Prop := ∀ (w : World) (p n v : Nat) (m : Pm) (l : List Fq) (A : Option Addr) (N c h : Nat), PoolAt w p n v m l A N c h →
  Calls Try.prog 26 #[ptr v] w fun e w' => ∃ l2 A2 c2, e = .returned (.slice A2 N c2) ∧ Rose w l N l2 A2 c2 w'

def RI : Rk Nat := ⟨3, 41, 1, 8, .int .i64 0, fun i => [.int .i64 (i : Int)]⟩
theorem ri_ok : RI.Ok := ⟨by decide, by decide, fun _ => rfl, fun x v hv => by simp [RI] at hv; subst hv; rfl, Try.underlying41, by kernel_rfl, rfl⟩
theorem ri_cells : ∀ l : List Nat, RI.cells l = natV l
  | [] => rfl
  | x :: l => by
    have h := ri_cells l
    unfold Rk.cells at h ⊢
    rw [List.flatMap_cons, h]; rfl
theorem own_listed {w w' : World} {v : Value} {l : List Nat} (ho : RI.Own w' w.heap.size v l) (hb : Below w.heap.size w w') : Listed w l (.returned v) w' := by
  obtain ⟨A, c, rfl, _⟩ := Rk.Own.form ri_ok ho
  refine ⟨A, l.length, c, rfl, rfl, ?_, hb⟩
  have : w'.ownsRow w.heap.size RI.e RI.m (.slice A l.length c) l.length (RI.cells l) := ho
  rw [ri_cells] at this
  exact this

section
variable {w W : World} {p n v L M : Nat} {m m' : Pm} {l l' : List Fq} {A : Option Addr} {N c h h' : Nat} {x y : Fq} {j : Nat} {D D' : Dv}

theorem take_snoc {l : List Fq} {k : Nat} {x : Fq} (hx : l[k]? = some x) : l.take (k + 1) = l.take k ++ [x] := by
  rw [List.take_add_one, hx]; rfl

set_option maxHeartbeats 4000000 in
theorem held_any (HRI : RisingOk) : HeldOk lay := by
  intro w p L M v D m T hp
  obtain ⟨l, A, N, c, h, q, rfl⟩ := hp.pat
  have HR := Lib.hid (HRI w p D.n v m l A N c h q)
  have HQ := Lib.hid q
  have hle := q.le.1
  have HLE := Lib.hid hle
  clear hp q HRI
  go_enter Try.func21, Try.ntmps21
  go_wp2_with fail
  refine HR.out.mono ?_
  rintro e w1 ⟨l2, A2, c2, rfl, hro⟩
  have HRO := Lib.hid hro
  have HL2 : Hid (l2.length = N) := Lib.hid (by rw [hro.perm.length_eq]; exact HQ.out.len)
  have HQ1 := Lib.hid (HQ.out.keep (Turn.ofBelow hro.new))
  clear hro HR
  go_wp2_with fail
  go_loopg [3, 5, 9] N (fun gn lv _ i wr => ∃ k : Nat, i = .int .i64 (k : Int) ∧ k + gn = N ∧ Hid (RI.Own wr w1.heap.size lv ((l2.take k).map Fq.at_)) ∧ Hid (Below w1.heap.size w1 wr))
  case atStart => exact ⟨0, rfl, by omega, Lib.hid (by rw [List.take_zero]; exact Rk.Own.nil _ _ _), Lib.hid (Below.refl _ _)⟩
  case round =>
    obtain ⟨k, rfl, hog, HO, HB⟩ := hrel
    rcases Nat.lt_or_ge k N with hlt | hge
    · have hd1 : decide (k < N) = true := decide_eq_true hlt
      have hd2 : decide ((k : Int) < (N : Int)) = true := decide_eq_true (by omega)
      have hki : (k : Int) < (N : Int) := by omega
      obtain ⟨x, hx⟩ : ∃ x, l2[k]? = some x := ⟨_, List.getElem?_eq_getElem (by have := HL2.out; omega)⟩
      have hxm : x ∈ l := HRO.out.perm.mem_iff.1 (List.mem_of_getElem? hx)
      obtain ⟨g, o, hA, _, hgl, hcg⟩ := HRO.out.row k x hx
      subst hA
      have cg := (HB.out.cell (p := ⟨g, o + k, none⟩) hgl).trans hcg
      have f0 := ((HQ1.out.f hxm).turn (S := fun _ => False) (Turn.ofBelow HB.out) (fun h => h)).c0
      have HTK := Lib.hid (take_snoc hx)
      have HLB : Hid (w1.heap.size ≤ wr.heap.size) := Lib.hid HB.out.size
      have HLN : Hid (((l2.take k).map Fq.at_).length ≤ 64) := Lib.hid (by rw [List.length_map, List.length_take]; omega)
      have HUL := Lib.hid (fun q (e : u3.ownBlock = some q) => (HO.out.lt q e).1)
      generalize hat : x.at_ = at_ at *
      have HAT := Lib.hid hat
      generalize x.g = xg at *
      clear hx hxm hcg hgl hat
      go_wp2_with (first
        | (at_builtin; refine Rk.wpList_append ri_ok rfl (.tmp 13) (.tmp 18) rfl w1.heap.size u3 ((l2.take k).map Fq.at_) [at_] rfl (HO.out.below (below_new wr (.cells #[.int .i64 (at_ : Int)] 3))) _ 1 1 rfl (Rk.At.new ri_ok wr at_ _) rfl (.inr ⟨_, _, rfl⟩) (by have := HLN.out; rw [List.length_singleton]; omega) (Nat.le_trans HLB.out (below_new wr _).size) ?_; intro v7 w7 hx1 hg1 ha1; have HO7 := Lib.hid hx1; have HG7 := Lib.hid hg1; clear hx1 hg1 ha1)
        | fail)
      go_roundg (gk - 1)
      case measure => omega
      case rel =>
        refine ⟨k + 1, by go_num, by omega, Lib.hid ?_, Lib.hid ?_⟩
        · rw [HTK.out, List.map_append]
          have := HO7.out
          rw [← HAT.out] at this
          exact this
        · exact Below.grown ((HB.out).trans ((below_new wr _).mono HB.out.size)) HG7.out (Nat.le_trans HB.out.size (below_new wr _).size) (fun q e => HUL.out q e)
    · obtain rfl : k = N := by omega
      have hd1 : decide (k < k) = false := decide_eq_false (by omega)
      have hd2 : decide ((k : Int) < (k : Int)) = false := decide_eq_false (by omega)
      go_wp2_with fail
      go_ret
      have hk : l2.take k = l2 := List.take_of_length_le (by have := HL2.out; omega)
      have ho := HO.out
      rw [hk, HQ.out.ring.sorted HRO.out.perm HRO.out.up] at ho
      exact own_listed (ho.le HRO.out.new.size) (below_two HRO.out.new HB.out)

/-- which of the frames are dirty -/
theorem dirt_take (q : PoolAt w p n v m l A N c h) {l2 : List Fq} (hp : l2.Perm l) : ∀ k, ((l2.take k).filter fun x => x.dirty).map Fq.at_ = ((l2.take k).map Fq.at_).filter fun i => isDirty (m.F i) := by
  intro k
  rw [List.filter_map]
  congr 1
  apply List.filter_congr
  intro x hx
  obtain ⟨f, hf, ha⟩ := q.ring.has x (hp.mem_iff.1 (List.mem_of_mem_take hx))
  show x.dirty = isDirty (m.F x.at_)
  rw [hf]
  exact ha.dirty.symm
theorem take_snoc_dirt {l : List Fq} {k : Nat} {x : Fq} (hx : l[k]? = some x) : (l.take (k + 1)).filter (fun x => x.dirty) = (l.take k).filter (fun x => x.dirty) ++ (if x.dirty = true then [x] else []) := by
  rw [take_snoc hx, List.filter_append, List.filter_cons, List.filter_nil]

set_option maxHeartbeats 4000000 in
theorem dirty_any (HRI : RisingOk) : DirtyOk lay := by
  intro w p L M v D m T hp
  obtain ⟨l, A, N, c, h, q, rfl⟩ := hp.pat
  have HR := Lib.hid (HRI w p D.n v m l A N c h q)
  have HQ := Lib.hid q
  have hle := q.le.1
  clear hp q HRI
  go_enter Try.func16, Try.ntmps16
  go_wp2_with fail
  refine HR.out.mono ?_
  rintro e w1 ⟨l2, A2, c2, rfl, hro⟩
  have HRO := Lib.hid hro
  have HL2 : Hid (l2.length = N) := Lib.hid (by rw [hro.perm.length_eq]; exact HQ.out.len)
  have HQ1 := Lib.hid (HQ.out.keep (Turn.ofBelow hro.new))
  clear hro HR
  go_wp2_with fail
  go_loopg [3, 5, 9] N (fun gn lv _ i wr => ∃ k : Nat, i = .int .i64 (k : Int) ∧ k + gn = N ∧ Hid (RI.Own wr w1.heap.size lv (((l2.take k).filter fun x => x.dirty).map Fq.at_)) ∧ Hid (Below w1.heap.size w1 wr))
  case atStart => exact ⟨0, rfl, by omega, Lib.hid (by rw [List.take_zero]; exact Rk.Own.nil _ _ _), Lib.hid (Below.refl _ _)⟩
  case round =>
    obtain ⟨k, rfl, hog, HO, HB⟩ := hrel
    rcases Nat.lt_or_ge k N with hlt | hge
    · have hd1 : decide (k < N) = true := decide_eq_true hlt
      have hd2 : decide ((k : Int) < (N : Int)) = true := decide_eq_true (by omega)
      have hki : (k : Int) < (N : Int) := by omega
      obtain ⟨x, hx⟩ : ∃ x, l2[k]? = some x := ⟨_, List.getElem?_eq_getElem (by have := HL2.out; omega)⟩
      have hxm : x ∈ l := HRO.out.perm.mem_iff.1 (List.mem_of_getElem? hx)
      obtain ⟨g, o, hA, _, hgl, hcg⟩ := HRO.out.row k x hx
      subst hA
      have cg := (HB.out.cell (p := ⟨g, o + k, none⟩) hgl).trans hcg
      have hfa := (HQ1.out.f hxm).turn (S := fun _ => False) (Turn.ofBelow HB.out) (fun h => h)
      have f0 := hfa.c0
      have f65 := hfa.c65
      have HTK := Lib.hid (take_snoc_dirt hx)
      have HLB : Hid (w1.heap.size ≤ wr.heap.size) := Lib.hid HB.out.size
      have HLN : Hid ((((l2.take k).filter fun x => x.dirty).map Fq.at_).length ≤ 64) := Lib.hid (by
        have h1 := List.length_filter_le (fun x : Fq => x.dirty) (l2.take k)
        rw [List.length_take] at h1
        rw [List.length_map]
        omega)
      have HUL := Lib.hid (fun q (e : u3.ownBlock = some q) => (HO.out.lt q e).1)
      generalize hat : x.at_ = at_ at *
      have HAT := Lib.hid hat
      generalize x.g = xg at *
      clear hx hxm hcg hgl hat hfa
      cases hdy : x.dirty with
      | true =>
        rw [hdy] at f65
        have HDY := Lib.hid hdy
        clear hdy
        go_wp2_with (first
          | (at_builtin; refine Rk.wpList_append ri_ok rfl (.tmp 17) (.tmp 22) rfl w1.heap.size u3 (((l2.take k).filter fun x => x.dirty).map Fq.at_) [at_] rfl (HO.out.below (below_new wr (.cells #[.int .i64 (at_ : Int)] 3))) _ 1 1 rfl (Rk.At.new ri_ok wr at_ _) rfl (.inr ⟨_, _, rfl⟩) (by have := HLN.out; rw [List.length_singleton]; omega) (Nat.le_trans HLB.out (below_new wr _).size) ?_; intro v7 w7 hx1 hg1 ha1; have HO7 := Lib.hid hx1; have HG7 := Lib.hid hg1; clear hx1 hg1 ha1)
          | fail)
        go_roundg (gk - 1)
        case measure => omega
        case rel =>
          refine ⟨k + 1, by go_num, by omega, Lib.hid ?_, Lib.hid ?_⟩
          · rw [HTK.out, if_pos HDY.out, List.map_append]
            have := HO7.out
            rw [← HAT.out] at this
            exact this
          · exact Below.grown ((HB.out).trans ((below_new wr _).mono HB.out.size)) HG7.out (Nat.le_trans HB.out.size (below_new wr _).size) (fun q e => HUL.out q e)
      | false =>
        rw [hdy] at f65
        have HDY := Lib.hid hdy
        clear hdy
        go_wp2_with fail
        go_roundg (gk - 1)
        case measure => omega
        case rel =>
          refine ⟨k + 1, by go_num, by omega, Lib.hid ?_, HB⟩
          rw [HTK.out, if_neg (by rw [HDY.out]; exact Bool.false_ne_true), List.append_nil]
          exact HO.out
    · obtain rfl : k = N := by omega
      have hd1 : decide (k < k) = false := decide_eq_false (by omega)
      have hd2 : decide ((k : Int) < (k : Int)) = false := decide_eq_false (by omega)
      go_wp2_with fail
      go_ret
      have ho := HO.out
      rw [dirt_take HQ.out HRO.out.perm, show l2.take k = l2 from List.take_of_length_le (by have := HL2.out; omega), HQ.out.ring.sorted HRO.out.perm HRO.out.up, ← dirt_keys] at ho
      exact own_listed (ho.le HRO.out.new.size) (below_two HRO.out.new HB.out)

theorem held_nil (w : World) : Calls Try.prog 21 #[.pointer none] w fun e w' => (∃ A c, e = .returned (.slice A 0 c)) ∧ Below w.heap.size w w' := by
  go_enter Try.func21, Try.ntmps21
  go_wp2_with fail
  refine (rising_nil w).mono ?_
  rintro e w1 ⟨rfl, hw⟩
  replace hw := hw.symm
  subst hw
  go_wp2_with fail
  go_loopg [3, 5, 9] 0 (fun gn lv _ i wr => lv = .slice none 0 0 ∧ i = .int .i64 0 ∧ wr = w)
  case atStart => exact ⟨rfl, rfl, rfl⟩
  case round =>
    obtain ⟨rfl, rfl, hwr⟩ := hrel
    replace hwr := hwr.symm
    subst hwr
    go_wp2_with fail
    go_ret
    exact ⟨⟨none, 0, rfl⟩, Below.refl _ _⟩
theorem dirty_nil (w : World) : Calls Try.prog 16 #[.pointer none] w fun e w' => (∃ A c, e = .returned (.slice A 0 c)) ∧ Below w.heap.size w w' := by
  go_enter Try.func16, Try.ntmps16
  go_wp2_with fail
  refine (rising_nil w).mono ?_
  rintro e w1 ⟨rfl, hw⟩
  replace hw := hw.symm
  subst hw
  go_wp2_with fail
  go_loopg [3, 5, 9] 0 (fun gn lv _ i wr => lv = .slice none 0 0 ∧ i = .int .i64 0 ∧ wr = w)
  case atStart => exact ⟨rfl, rfl, rfl⟩
  case round =>
    obtain ⟨rfl, rfl, hwr⟩ := hrel
    replace hwr := hwr.symm
    subst hwr
    go_wp2_with fail
    go_ret
    exact ⟨⟨none, 0, rfl⟩, Below.refl _ _⟩
end
end Go.Proofs.Ytnpgmiokimahiaa
