/-
  Whether a want is held up by one ahead of it.
-/
import Derived.Test.YtbokhhialfbjcaaGreatStand11
import Derived.Test.YtbokhhialfbjcaaGreatWnA
namespace Go.Proofs.YtbokhhialfbjcaaGreat
set_option maxRecDepth 100000
set_option linter.unusedVariables false
set_option linter.unusedSimpArgs false
open Go.RowKit Go.Shelf Go.Sort

theorem contI_any (A : Option Addr) (l : List Nat) (n c x : Nat) (w : World) (hA : RI.At w A l) (hn : l.length = n) (hn2 : n ≤ 100000) :
    Calls Tryz.prog 101 #[.slice A n c, .int .i64 (x : Int)] w fun e w' => e = .returned (.bool (l.contains x)) ∧ w' = w := by
  subst hn
  rcases hA with rfl | ⟨b, o, rfl, hb, hc⟩
  · exact AnyG.slices_Contains_int_empty (P := Tryz.prog) (ρ := Tryz.contI_ren) Tryz.contI A c (x : Int) w
  · have h := AnyG.slices_Contains_int (P := Tryz.prog) (ρ := Tryz.contI_ren) Tryz.contI b o l.length c (l.map fun z : Nat => (z : Int)) (x : Int) w (by simp) (by omega) (fun j hj => by
      rw [List.length_map] at hj
      have hR : RI.At w (some ⟨b, o, none⟩) l := .inr ⟨b, o, rfl, hb, hc⟩
      obtain ⟨b', o', e, _, h2⟩ := RI_cell hR (List.getElem?_eq_getElem hj)
      injection e with e
      injection e with e1 e2
      subst e1; subst e2
      rw [h2]
      simp [List.getD_eq_getElem?_getD, hj])
    have e : ((l.map fun z : Nat => (z : Int)).take l.length).contains (x : Int) = l.contains x := by
      rw [List.take_of_length_le (by simp)]
      rw [Bool.eq_iff_iff]
      simp only [List.contains_iff_mem, List.mem_map]
      constructor
      · rintro ⟨z, hz, e⟩
        have : z = x := by omega
        subst this; exact hz
      · intro h; exact ⟨x, h, rfl⟩
    rw [e] at h
    exact h

theorem held1_any (s : St) (lo : List Nat) (gs : Nat) (w : World) (hs : Sb w gs s) (hlo : RI.At w s.o lo) (hno : lo.length = s.no) (hn2 : s.no ≤ 100000) :
    PredAt Tryz.prog 100 #[.pointer (some ⟨gs, 0, none⟩)] (fun x : Nat => .int .i64 (x : Int)) (fun x => !lo.contains x) w := fun V x hb => by
  have c4 := (hs.below hb).c 4 _ rfl
  have HC := Lib.hid (contI_any s.o lo s.no s.co x V (hlo.below hb) hno hn2)
  obtain ⟨z, hz⟩ : ∃ z, z = lo.contains x := ⟨_, rfl⟩
  simp only [← hz]
  rw [← hz] at HC
  clear hz hs hlo hb
  show Calls Tryz.prog 100 #[.int .i64 (x : Int), .pointer (some ⟨gs, 0, none⟩)] V _
  go_enter Tryz.func100, Tryz.ntmps100
  go_wp2_with (first | (go_at_call 101; refine HC.out.mono ?_; rintro e w' ⟨rfl, hw⟩; subst hw) | fail)
  go_ret
  exact ⟨rfl, 0, rfl⟩

theorem cfI_any (s : St) (lo la : List Nat) (gs : Nat) (A : Option Addr) (n c : Nat) (w : World) (hs : Sb w gs s) (hlo : RI.At w s.o lo) (hno : lo.length = s.no) (hn2 : s.no ≤ 100000) (hA : RI.At w A la) (hn : la.length = n) (hn3 : n ≤ 100000) :
    Calls Tryz.prog 102 #[.slice A n c, .func (.func 100) #[] #[.pointer (some ⟨gs, 0, none⟩)]] w fun e w' => e = .returned (.bool (la.any fun x => !lo.contains x)) ∧ Below w.heap.size w w' := by
  have eg : ∀ args w, (callFunc 100 args).run Tryz.prog w = .ok (.enter 100 args) w := enters_of Tryz.func100 (by kernel_rfl) rfl
  subst hn
  rcases hA with rfl | ⟨b, o, rfl, hb, hc⟩
  · refine (AnyE.slices_ContainsFunc_empty (P := Tryz.prog) (ρ := Tryz.cfI_ren) Tryz.cfI A c _ w).mono ?_
    rintro e w' ⟨rfl, rfl⟩
    exact ⟨rfl, Below.refl _ _⟩
  · have h := AnyE.slices_ContainsFunc (P := Tryz.prog) (ρ := Tryz.cfI_ren) Tryz.cfI (fun x : Nat => .int .i64 (x : Int)) (fun x => !lo.contains x) 100 #[.pointer (some ⟨gs, 0, none⟩)] eg b o la.length c la w (held1_any s lo gs w hs hlo hno hn2) (Nat.le_refl _) (by omega) (fun j hj => by
      have hR : RI.At w (some ⟨b, o, none⟩) la := .inr ⟨b, o, rfl, hb, hc⟩
      obtain ⟨b', o', e, _, h2⟩ := RI_cell hR (List.getElem?_eq_getElem hj)
      injection e with e
      injection e with e1 e2
      subst e1; subst e2
      rw [h2, getElem!_pos la j hj])
    rw [List.take_length] at h
    refine Calls.mono h ?_
    rintro e w' ⟨rfl, q, rfl⟩
    exact ⟨rfl, ⟨rfl, rfl, rfl, Nat.le_refl _, fun _ _ => rfl⟩⟩

def heldB (s a : St) (lo la : List Nat) : Bool := (decide (s.w.m = 2) || decide (a.w.m = 2)) && !(la.any fun x => !lo.contains x)

set_option maxHeartbeats 1000000 in
theorem held_any (s a : St) (lo la : List Nat) (w : World) (hlo : RI.At w s.o lo) (hno : lo.length = s.no) (hn2 : s.no ≤ 100000) (hA : RI.At w a.a la) (hn : la.length = a.na) (hn3 : a.na ≤ 100000) (hms : s.w.m = 1 ∨ s.w.m = 2) (hma : a.w.m = 1 ∨ a.w.m = 2) :
    Calls Tryz.prog 86 #[stV s, stV a] w fun e w' => e = .returned (.bool (heldB s a lo la)) ∧ Below w.heap.size w w' := by
  obtain ⟨wa, hwa⟩ : ∃ wa, wa = w.alloc (.cells #[.int .i64 (s.w.x : Int), .int .i64 s.w.b, .int .i64 s.w.m, .slice s.a s.na s.ca, .slice s.o s.no s.co] 141) := ⟨_, rfl⟩
  obtain ⟨w1, hw1⟩ : ∃ w1, w1 = wa.alloc (.cells #[.int .i64 (a.w.x : Int), .int .i64 a.w.b, .int .i64 a.w.m, .slice a.a a.na a.ca, .slice a.o a.no a.co] 141) := ⟨_, rfl⟩
  have sa : wa.heap.size = w.heap.size + 1 := by rw [hwa]; simp
  have b1 : Below w.heap.size w w1 := by rw [hw1, hwa]; exact below_two (below_new _ _) (below_new _ _)
  have k1 : Sb w1 w.heap.size s := by rw [hw1, hwa]; exact (Bk.new w _ _).below (below_new _ _)
  have k2 : Sb w1 (w.heap.size + 1) a := by
    have h := Bk.new wa #[.int .i64 (a.w.x : Int), .int .i64 a.w.b, .int .i64 a.w.m, .slice a.a a.na a.ca, .slice a.o a.no a.co] 141
    rw [sa] at h
    rw [hw1]; exact h
  have HC := Lib.hid (cfI_any s lo la w.heap.size a.a a.na a.ca w1 k1 (hlo.below b1) hno hn2 (hA.below b1) hn hn3)
  have HB := Lib.hid b1
  have c0 := k1.c 2 _ rfl
  have c1 := k2.c 2 _ rfl
  have c2 := k2.c 3 _ rfl
  obtain ⟨q, hq⟩ : ∃ q, q = la.any fun x => !lo.contains x := ⟨_, rfl⟩
  unfold heldB
  rw [← hq] at HC ⊢
  clear k1 k2 b1 hlo hA hno hn hq sa
  unfold stV
  rcases hms with hms | hms <;> rcases hma with hma | hma
  · rw [hms] at hwa c0 ⊢
    rw [hma] at hw1 c1 ⊢
    go_enter Tryz.func86, Tryz.ntmps86
    go_upto_region 1 with fail
    rw [← hwa, ← hw1]
    clear hwa hw1 wa
    go_wp2_with fail
    go_ret
    exact ⟨rfl, HB.out⟩
  all_goals
    rw [hms] at hwa c0 ⊢
    rw [hma] at hw1 c1 ⊢
    go_enter Tryz.func86, Tryz.ntmps86
    go_upto_region 1 with fail
    rw [← hwa, ← hw1]
    clear hwa hw1 wa
    go_wp2_with (first | (go_at_call 102; refine HC.out.mono ?_; rintro e w' ⟨rfl, hb2⟩; have HB2 := Lib.hid hb2; clear hb2) | fail)
    go_ret
    exact ⟨by simp, HB.out.trans (HB2.out.mono HB.out.size)⟩

/-- what it tells is what the plain words say -/
theorem held_up {T : Tr} {L : List Lk} (hl : LG L) {s a : St} (hb : a.w.b = s.w.b) (hma : a.w.m = 1 ∨ a.w.m = 2) :
    heldB s a (agL T s.w.x s.w.b 2 L) (agL T a.w.x a.w.b a.w.m L) = upB T L a.w s.w := by
  unfold heldB upB
  rw [decide_eq_true hb, Bool.true_and, Bool.or_comm]
  congr 1
  congr 1
  have key : ∀ u ∈ agL T a.w.x a.w.b a.w.m L, (!(agL T s.w.x s.w.b 2 L).contains u) = T.stands (s.w.x : Int) (u : Int) := by
    intro u hu
    obtain ⟨z, hz, hzu, hzb, hze, _⟩ := agL_mem hu
    have hz0 := (hl.may z hz).x
    have hzx : z.x = (u : Int) := by omega
    have he2 : exc 2 z.s = true := by
      rcases hma with h | h
      · rw [h] at hze
        unfold exc at hze ⊢
        simp at hze ⊢
        omega
      · rw [h] at hze; exact hze
    cases hst : T.stands (s.w.x : Int) (u : Int) with
    | false =>
      have : u ∈ agL T s.w.x s.w.b 2 L := agL_iff.2 ⟨z, hz, hzu, by rw [hzb, hb], he2, by rw [hzx]; exact hst⟩
      simp [this]
    | true =>
      have : u ∉ agL T s.w.x s.w.b 2 L := fun hm => by
        obtain ⟨y, hy, hyu, _, _, hys⟩ := agL_iff.1 hm
        have hy0 := (hl.may y hy).x
        rw [show y.x = (u : Int) from by omega, hst] at hys
        cases hys
      simp [this]
  rw [Bool.eq_iff_iff, List.any_eq_true, List.any_eq_true]
  constructor
  · rintro ⟨u, hu, h⟩; exact ⟨u, hu, by rw [← key u hu]; exact h⟩
  · rintro ⟨u, hu, h⟩; exact ⟨u, hu, by rw [key u hu]; exact h⟩
end Go.Proofs.YtbokhhialfbjcaaGreat
