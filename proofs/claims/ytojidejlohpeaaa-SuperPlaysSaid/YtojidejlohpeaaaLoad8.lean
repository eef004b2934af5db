/-
  What is loaded of a device: the program's answer.
-/
import Derived.Test.YtojidejlohpeaaaDec8
import Derived.Test.YtojidejlohpeaaaSm
namespace Go.Proofs.Ytojidejlohpeaaa
set_option maxRecDepth 100000
open Go.RowKit Crc Wm Sup

/-- what is loaded, by what Read answers -/
def ldEf (rE : Nat → Int) (rd : Nat → List UInt8) : Int := if rE 0 ≠ 0 then rE 0 else if rE 1 ≠ 0 then rE 1 else pickE (rd 0) (rd 1)
def ldSf (rE : Nat → Int) (rd : Nat → List UInt8) : Sup := if rE 0 ≠ 0 ∨ rE 1 ≠ 0 then Sup.zero else pick (rd 0) (rd 1)
theorem ldEf_dv (D : Dv) : ldEf (fun i => D.readE i) (fun i => D.read i) = D.ldE := rfl
theorem ldSf_dv (D : Dv) : ldSf (fun i => D.readE i) (fun i => D.read i) = D.ldS := rfl

/-- what is known when j sectors were gone over -/
def ldK (rd : Nat → List UInt8) : Nat → Int
  | 0 => 6
  | j + 1 => if decE (rd j) = 0 then 0 else ldK rd j
def ldT (rd : Nat → List UInt8) : Nat → Sup
  | 0 => Sup.zero
  | j + 1 => if decE (rd j) = 0 ∧ (ldK rd j ≠ 0 ∨ (ldT rd j).V < (decS (rd j)).V) then decS (rd j) else ldT rd j
theorem ldK_two (rd : Nat → List UInt8) (j : Nat) : ldK rd j = 0 ∨ ldK rd j = 6 := by
  induction j with
  | zero => exact .inr rfl
  | succ j ih =>
    show (if decE (rd j) = 0 then (0 : Int) else ldK rd j) = 0 ∨ (if decE (rd j) = 0 then (0 : Int) else ldK rd j) = 6
    split
    · exact .inl rfl
    · exact ih
theorem ld_all (rd : Nat → List UInt8) : ldK rd 2 = pickE (rd 0) (rd 1) ∧ ldT rd 2 = pick (rd 0) (rd 1) := by
  have h1 : ldK rd 1 = if decE (rd 0) = 0 then 0 else 6 := rfl
  have h2 : ldT rd 1 = decS (rd 0) := by
    have h0 : ldT rd 1 = if decE (rd 0) = 0 ∧ (ldK rd 0 ≠ 0 ∨ (ldT rd 0).V < (decS (rd 0)).V) then decS (rd 0) else ldT rd 0 := rfl
    rw [h0]
    by_cases h : decE (rd 0) = 0
    · rw [if_pos ⟨h, .inl (by show (6 : Int) ≠ 0; decide)⟩]
    · rw [if_neg (fun g => h g.1), decE_not h]
      rfl
  have h3 : ldK rd 2 = if decE (rd 1) = 0 then 0 else ldK rd 1 := rfl
  have h4 : ldT rd 2 = if decE (rd 1) = 0 ∧ (ldK rd 1 ≠ 0 ∨ (ldT rd 1).V < (decS (rd 1)).V) then decS (rd 1) else ldT rd 1 := rfl
  rw [h3, h4, h1, h2]
  unfold pickE pick
  by_cases ha : decE (rd 0) = 0 <;> by_cases hb : decE (rd 1) = 0 <;> simp [ha, hb]

theorem Got.lies {w : World} {base : Nat} {A : Option Addr} {n c : Nat} {l : List UInt8} (h : Got w base A n c l) : Lies w A c n l := by
  refine ⟨h.rd, h.len, ?_⟩
  rcases h with ⟨_, _, rfl, rfl⟩ | ⟨g, _, rfl, rfl, _⟩ <;> exact Nat.le_refl _
theorem Got.small {w : World} {base : Nat} {A : Option Addr} {n c : Nat} {l : List UInt8} (h : Got w base A n c l) : n ≤ 64 := by
  rcases h with ⟨_, _, rfl, rfl⟩ | ⟨g, _, rfl, rfl, _⟩ <;> omega

/-- the result, and the newest so far -/
structure Ld (w W : World) (t : TypeId) (s : Sup) : Prop where
  res : SupAt W w.heap.size t Sup.zero
  new : SupAt W (w.heap.size + 1) t s
  bel : Below w.heap.size w W
theorem Ld.below {w W V : World} {t : TypeId} {s : Sup} (h : Ld w W t s) (hb : Below W.heap.size W V) : Ld w V t s := ⟨h.res.below hb, h.new.below hb, h.bel.trans (hb.mono h.bel.size)⟩
theorem Ld.set {w W V : World} {t : TypeId} {s s' : Sup} (h : Ld w W t s) (hg : W.grownBy V (some (w.heap.size + 1))) (hs : SupAt V (w.heap.size + 1) t s') : Ld w V t s' :=
  ⟨h.res.far hg (by omega), hs, h.bel.grown hg h.bel.size (fun k hk => by injection hk with hk; omega)⟩
theorem Ld.other {w W V : World} {t : TypeId} {s : Sup} {r : Nat} (h : Ld w W t s) (hg : W.grownBy V (some r)) (hr : w.heap.size + 1 < r) : Ld w V t s :=
  ⟨h.res.far hg (by omega), h.new.far hg (by omega), h.bel.grown hg h.bel.size (fun k hk => by injection hk with hk; omega)⟩

set_option maxHeartbeats 1000000 in
theorem load_core (dv : Value) (rE : Nat → Int) (rd : Nat → List UInt8) (w : World) (hrd : ∀ W, Below w.heap.size w W → ∀ i : Nat, i < 2 → Calls Try.prog 36 #[dv, .int .i64 (i : Int)] W (ReadOut W (rd i) (rE i))) :
    Calls Try.prog 23 #[dv] w (SupOut w (ldSf rE rd) (ldEf rE rd)) := by
  have HRD := Lib.hid hrd
  clear hrd
  have hb0 := below_two (below_new w (.cells (supC Sup.zero) 29)) (below_new _ (.cells (supC Sup.zero) 29))
  have HL0 : Hid (Ld w ((w.alloc (.cells (supC Sup.zero) 29)).alloc (.cells (supC Sup.zero) 29)) 29 Sup.zero) := Lib.hid (by
    refine ⟨SupAt.below (show SupAt _ w.heap.size 29 Sup.zero from heap_alloc_new w _) (below_new _ (.cells (supC Sup.zero) 29)), ?_, hb0⟩
    have h2 := heap_alloc_new (w.alloc (.cells (supC Sup.zero) 29)) (.cells (supC Sup.zero) 29)
    rw [World.size_alloc] at h2
    exact h2)
  have hz : supC Sup.zero = #[.int .i64 0, .int .i64 0, .int .i64 0, .int .i64 0, .int .i64 0, .int .i64 0, .int .i64 0] := rfl
  rw [hz] at HL0
  clear hz hb0
  go_enter Try.func23, Try.ntmps23
  go_upto_region 2 with fail
  generalize (w.alloc (.cells #[.int .i64 0, .int .i64 0, .int .i64 0, .int .i64 0, .int .i64 0, .int .i64 0, .int .i64 0] 29)).alloc (.cells #[.int .i64 0, .int .i64 0, .int .i64 0, .int .i64 0, .int .i64 0, .int .i64 0, .int .i64 0] 29) = w0 at *
  go_wp2_with fail
  go_loopw [5, 11] (fun kv u wr => ∃ j : Nat, u = .int .i64 (j : Int) ∧ kv = .int .i64 (ldK rd j) ∧ j ≤ 2 ∧ Hid (∀ i, i < j → rE i = 0) ∧ Hid (Ld w wr 29 (ldT rd j))) (fun _ u _ => 2 - (intOf u).toNat)
  case atStart => exact ⟨0, rfl, rfl, by omega, fun _ h => absurd h (by omega), HL0⟩
  case round =>
    obtain ⟨j, rfl, rfl, hj, HOK, HLD⟩ := hrel
    clear HL0
    rcases Nat.lt_or_ge j 2 with hlt | hge
    · have hdj : decide ((j : Int) < 2) = true := decide_eq_true (by omega)
      have hk2 := ldK_two rd j
      have HK1 : Hid (ldK rd (j + 1) = if decE (rd j) = 0 then 0 else ldK rd j) := Lib.hid rfl
      have HT1 : Hid (ldT rd (j + 1) = if decE (rd j) = 0 ∧ (ldK rd j ≠ 0 ∨ (ldT rd j).V < (decS (rd j)).V) then decS (rd j) else ldT rd j) := Lib.hid rfl
      generalize ldK rd j = k0 at *
      generalize ldT rd j = s0 at *
      have HK2 := Lib.hid hk2
      clear hk2
      go_wp2_with fail
      refine (HRD.out wr HLD.out.bel j hlt).mono ?_
      rintro e w1 ⟨A, n, c, rfl, hgot, hb1⟩
      have HL1 := Lib.hid (HLD.out.below hb1)
      clear hb1 HLD
      by_cases hE : rE j = 0
      · rw [hE]
        have HGL := Lib.hid hgot.lies
        have HGN := Lib.hid hgot.small
        have HOK1 : Hid (∀ i, i < j + 1 → rE i = 0) := Lib.hid (fun i hi => by
          rcases Nat.lt_or_ge i j with h | h
          · exact HOK.out i h
          · obtain rfl : i = j := by omega
            exact hE)
        clear hE hgot
        go_wp2_with fail
        refine (dec_any A c n (rd j) w1 HGL.out (by have := HGN.out; omega)).mono ?_
        rintro e w2 ⟨rfl, hb2⟩
        have hbx := below_new w2 (.cells #[.int .i64 0, .int .i64 0, .int .i64 0, .int .i64 0, .int .i64 0, .int .i64 0, .int .i64 0] 29)
        have HZ : Hid (SupAt (w2.alloc (.cells #[.int .i64 0, .int .i64 0, .int .i64 0, .int .i64 0, .int .i64 0, .int .i64 0, .int .i64 0] 29)) w2.heap.size 29 Sup.zero) := Lib.hid (heap_alloc_new w2 _)
        have HL2 := Lib.hid ((HL1.out.below hb2).below hbx)
        have hlt2 : w.heap.size + 1 < w2.heap.size := lt_of_block (HL1.out.below hb2).new
        clear hb2 hbx HL1 HGL HGN
        obtain ⟨s1, hs1⟩ : ∃ s1, s1 = decS (rd j) := ⟨_, rfl⟩
        rw [← hs1] at HT1 ⊢
        clear hs1
        by_cases hd : decE (rd j) = 0
        · rw [hd]
          rw [if_pos hd] at HK1
          rcases HK2.out with hk | hk
          · subst hk
            by_cases hv : s0.V < s1.V
            · have HT1' : Hid (ldT rd (j + 1) = s1) := Lib.hid (by rw [HT1.out, if_pos ⟨hd, .inr hv⟩])
              have e2 : decide (s0.V < s1.V) = true := decide_eq_true hv
              clear hd HT1 HK2
              go_wp2_with (first
                | (refine wpList_load_sup tyP HT3.out rfl (.tmp 9) rfl rfl ?_)
                | (refine wpList_store_sup tyP HZ.out rfl (.tmp 9) (.tmp 27) rfl rfl s1 rfl ?_; intro w3 hs3 hg3; have HT3 := Lib.hid hs3; have HL3 := Lib.hid (HL2.out.other hg3 hlt2); have c9 : w3.cell? ⟨w2.heap.size, 0, none⟩ = some (.int .i64 s1.V) := HT3.out.cell (i := 0) (by omega); have c4 : w3.cell? ⟨w.heap.size + 1, 0, none⟩ = some (.int .i64 s0.V) := HL3.out.new.cell (i := 0) (by omega); clear hs3 hg3 HZ HL2)
                | (refine wpList_store_sup tyP HL3.out.new rfl (.tmp 4) (.tmp 42) rfl rfl s1 rfl ?_; intro w4 hs4 hg4; have HL4 := Lib.hid (HL3.out.set hg4 hs4); clear hs4 hg4 c9 c4))
              go_roundw
              case rel => exact ⟨j + 1, by go_num, by rw [HK1.out], by omega, HOK1, by rw [HT1'.out]; exact HL4⟩
              case measure => simp [intOf]; omega
            · have HT1' : Hid (ldT rd (j + 1) = s0) := Lib.hid (by rw [HT1.out, if_neg (fun h => by rcases h.2 with g | g; exact g rfl; exact hv g)])
              have e2 : decide (s0.V < s1.V) = false := decide_eq_false hv
              clear hd HT1 HK2
              go_wp2_with (refine wpList_store_sup tyP HZ.out rfl (.tmp 9) (.tmp 27) rfl rfl s1 rfl ?_; intro w3 hs3 hg3; have HT3 := Lib.hid hs3; have HL3 := Lib.hid (HL2.out.other hg3 hlt2); have c9 : w3.cell? ⟨w2.heap.size, 0, none⟩ = some (.int .i64 s1.V) := HT3.out.cell (i := 0) (by omega); have c4 : w3.cell? ⟨w.heap.size + 1, 0, none⟩ = some (.int .i64 s0.V) := HL3.out.new.cell (i := 0) (by omega); clear hs3 hg3 HZ HL2)
              go_roundw
              case rel => exact ⟨j + 1, by go_num, by rw [HK1.out], by omega, HOK1, by rw [HT1'.out]; exact HL3⟩
              case measure => simp [intOf]; omega
          · subst hk
            have HT1' : Hid (ldT rd (j + 1) = s1) := Lib.hid (by rw [HT1.out, if_pos ⟨hd, .inl (by decide)⟩])
            clear hd HT1 HK2
            go_wp2_with (first
              | (refine wpList_load_sup tyP HT3.out rfl (.tmp 9) rfl rfl ?_)
              | (refine wpList_store_sup tyP HZ.out rfl (.tmp 9) (.tmp 27) rfl rfl s1 rfl ?_; intro w3 hs3 hg3; have HT3 := Lib.hid hs3; have HL3 := Lib.hid (HL2.out.other hg3 hlt2); clear hs3 hg3 HZ HL2)
              | (refine wpList_store_sup tyP HL3.out.new rfl (.tmp 4) (.tmp 42) rfl rfl s1 rfl ?_; intro w4 hs4 hg4; have HL4 := Lib.hid (HL3.out.set hg4 hs4); clear hs4 hg4))
            go_roundw
            case rel => exact ⟨j + 1, by go_num, by rw [HK1.out], by omega, HOK1, by rw [HT1'.out]; exact HL4⟩
            case measure => simp [intOf]; omega
        · have e1 : (decE (rd j) == 0) = false := beq_eq_false_iff_ne.2 hd
          rw [if_neg hd] at HK1
          have HT1' : Hid (ldT rd (j + 1) = s0) := Lib.hid (by rw [HT1.out, if_neg (fun h => hd h.1)])
          clear hd HT1 HK2
          go_wp2_with (refine wpList_store_sup tyP HZ.out rfl (.tmp 9) (.tmp 27) rfl rfl s1 rfl ?_; intro w3 hs3 hg3; have HL3 := Lib.hid (HL2.out.other hg3 hlt2); clear hs3 hg3 HZ HL2)
          go_roundw
          case rel => exact ⟨j + 1, by go_num, by rw [HK1.out], by omega, HOK1, by rw [HT1'.out]; exact HL3⟩
          case measure => simp [intOf]; omega
      · have e1 : (rE j == 0) = false := beq_eq_false_iff_ne.2 hE
        have HE : Hid (ldEf rE rd = rE j ∧ ldSf rE rd = Sup.zero) := Lib.hid (by
          unfold ldEf ldSf
          rcases (show j = 0 ∨ j = 1 by omega) with rfl | rfl
          · rw [if_pos hE, if_pos (.inl hE)]; exact ⟨rfl, rfl⟩
          · rw [if_neg (fun h => h (HOK.out 0 (by omega))), if_pos hE, if_pos (.inr hE)]; exact ⟨rfl, rfl⟩)
        clear hE hgot HK1 HT1 HK2 HOK
        go_wp2_with (refine wpList_store_sup tyP HL1.out.res rfl (.tmp 2) (.tmp 22) rfl rfl Sup.zero rfl ?_; intro w6 hs6 hg6)
        exact bodyPost_ret (results_sup2 tyP rfl _ rfl _ rfl hs6) rfl ⟨by rw [HE.out.1, HE.out.2]; rfl, HL1.out.bel.grown hg6 HL1.out.bel.size (fun k hk => by injection hk with hk; omega)⟩
    · obtain rfl : j = 2 := by omega
      have HE : Hid (ldEf rE rd = ldK rd 2 ∧ ldSf rE rd = ldT rd 2) := Lib.hid (by
        unfold ldEf ldSf
        rw [if_neg (fun h => h (HOK.out 0 (by omega))), if_neg (fun h => h (HOK.out 1 (by omega))), if_neg (fun h => by rcases h with h | h; exact h (HOK.out 0 (by omega)); exact h (HOK.out 1 (by omega))), (ld_all rd).1, (ld_all rd).2]
        exact ⟨rfl, rfl⟩)
      clear HOK
      generalize ldK rd 2 = k0 at *
      generalize ldT rd 2 = s0 at *
      go_wp2_with (first
        | (refine wpList_load_sup tyP HLD.out.new rfl (.tmp 4) rfl rfl ?_)
        | (refine wpList_store_sup tyP HLD.out.res rfl (.tmp 2) (.tmp 44) rfl rfl s0 rfl ?_; intro w6 hs6 hg6))
      exact bodyPost_ret (results_sup2 tyP rfl _ rfl _ rfl hs6) rfl ⟨by rw [HE.out.1, HE.out.2]; rfl, HLD.out.bel.grown hg6 HLD.out.bel.size (fun k hk => by injection hk with hk; omega)⟩

theorem load_any {w : World} {p L M : Nat} {D : Dv} (h : IsDev w p L M D) : Calls Try.prog 23 #[ptr p] w (SupOut w D.ldS D.ldE) := by
  have k := load_core (ptr p) (fun i => D.readE i) (fun i => D.read i) w (fun W hW i _ => dread_any (h.turn (Turn.ofBelow (S := fun _ => False) hW) (fun h => h) (fun h => h) (fun h => h)) (i : Int))
  rw [ldEf_dv, ldSf_dv] at k
  exact k
theorem load_nil (w : World) : Calls Try.prog 23 #[.pointer none] w (SupOut w Sup.zero 11) := by
  have k := load_core (.pointer none) (fun _ => 11) (fun _ => []) w (fun W _ i _ => read_nil W (i : Int))
  exact k

end Go.Proofs.Ytojidejlohpeaaa
