/-
  The way up, by a range over a function: its contract, for every loop body that keeps the tree and the maps.
-/
import Derived.Test.YtohnfjneghbceaaTv
namespace Go.Proofs.Ytohnfjneghbceaa
set_option maxRecDepth 100000
set_option linter.unusedVariables false
open Go.RowKit Go.Shelf
attribute [local go_sem] Oper.semAt_some

/-- what a round keeps: walks lie as they lay, and all that was there but blocks of S -/
structure Kp (S : Nat → Prop) (W W' : World) : Prop where
  walks : KeepsWalks W W'
  turn : Turn S W W'

theorem Kp.t {S : Nat → Prop} {a b c : World} (h : Kp S a b) (k : Kp S b c) : Kp S a c := ⟨h.walks.trans k.walks, h.turn.trans k.turn⟩
theorem Kp.b {S : Nat → Prop} {w : World} (hS : ∀ k, w.heap.size ≤ k → S k) (W : World) (l : Nat) (o o' : Obj) (hl : w.heap.size ≤ l) (h : W.heap[l]? = some o) (_ : o.isCells = false) (hw : o.isWalk = false) : Kp S W (W.putObj l o') :=
  ⟨KeepsWalks.putObj _ h hw, (Turn.refl S W).grown (grownBy_putObj' W l o') (fun j e => by cases e; exact .inl (hS l hl))⟩

theorem cell_al {W : World} {a : Addr} {v : Value} (o : Obj) (h : W.cell? a = some v) : (W.alloc o).cell? a = some v := cell_kept h (World.grownBy_alloc W o none) (fun r e => by cases e)
theorem cell_new (w : World) (cs : Array Value) (ty : TypeId) (j : Nat) : (w.alloc (.cells cs ty)).cell? ⟨w.heap.size, j, none⟩ = cs[j]? := cell_of_row _ _ _ _ _ _ (heap_alloc_new w _)
theorem frozen_new (w : World) (cs : Array Value) (ty : TypeId) (j : Nat) : (w.alloc (.cells cs ty)).frozen? ⟨w.heap.size, j, none⟩ = false := by
  have h := heap_alloc_new w (.cells cs ty)
  unfold World.frozen?
  simp only [h]
  simp
/-- an ID's number, of n -/
abbrev Id (n : Nat) := Fin n

theorem wfN {z : Int} (h0 : -1 ≤ z) (h1 : z ≤ 1000) : (Lit.int .i64 z).wf = true := by
  simp only [Lit.wf, Bool.and_eq_true, decide_eq_true_eq]
  exact ⟨show (-9223372036854775808 : Int) ≤ z by omega, show z ≤ (9223372036854775807 : Int) by omega⟩

theorem way_step {T : Tr} (hG : Good T) {i : Nat} (hi : i < T.l.length) : T.way (i : Int) = i :: T.way (T.tx i).p := by
  rw [Tr.way_nat hi]
  have hp := hG.par i hi
  by_cases h0 : 0 ≤ (T.tx i).p
  · obtain ⟨j, hj⟩ : ∃ j : Nat, (T.tx i).p = j := ⟨(T.tx i).p.toNat, by omega⟩
    rw [wayN_up (f := T.par) (j := j) hj (by omega), hj, Tr.way_nat (by omega)]
  · rw [wayN_top (f := T.par) (show (T.tx i).p < 0 by omega), Tr.way_none (by omega)]

theorem way_len {T : Tr} (hG : Good T) (i : Int) : (T.way i).length ≤ 8 := by
  unfold Tr.way
  split
  · next h => exact hG.deep _ (by omega)
  · simp

theorem way_prefix {pre : List Nat} {i : Nat} {l : List Nat} : (pre ++ [i]) <+: pre ++ i :: l := ⟨l, by simp⟩

set_option maxHeartbeats 4000000 in
theorem up1_in (K : World → World → Prop) (n : Nat) (hn : 2 ≤ n) (l Bi Bt : Nat) (S : Nat → Prop) (A : Option Addr) (T : Tr) (N cap : Nat) (c i : Int) (hN : T.l.length = N) (hG : Good T) (J Jx : List (Id N) → World → Prop)
    (hA : ∀ b o, A = some ⟨b, o, none⟩ → T.l = [] ∨ ¬ S b) (hSt : ¬ S Bt) (hK : ∀ a b, K a b → Turn S a b)
    (W : World) (hJ : AbidesFrom W.heap.size J)
    (hY : ∀ pre x W1, J pre W1 → pre.length < 9 → YieldAt Fence.wide (n - 1) Try.prog l #[.int .i64 ((x : Id N).val : Int)] W1 fun e W' =>
      (e = .returned (.bool true) ∧ J (pre ++ [x]) W' ∧ K W1 W') ∨ (e = .returned (.bool false) ∧ Jx (pre ++ [x]) W'))
    (ci : W.cell? ⟨Bi, 0, none⟩ = some (.int .i64 i)) (ct0 : W.cell? ⟨Bt, 0, none⟩ = some (.slice A N cap)) (ct1 : W.cell? ⟨Bt, 1, none⟩ = some (.int .i64 c)) (hT : TxAt W A T.l) (h0 : J [] W) :
    CallsIn Fence.wide n Try.prog 62 #[.func (.yield l) #[] #[], .pointer (some ⟨Bi, 0, none⟩), .pointer (some ⟨Bt, 0, none⟩)] W fun e W' => (∃ v, e = .returned v) ∧
      ((∃ xs : List (Id N), xs.map (·.val) = T.way i ∧ J xs W') ∨ (∃ pre : List (Id N), pre.map (·.val) <+: T.way i ∧ Jx pre W')) := by
  have HG := Lib.hid hG
  have HY := Lib.hid hY
  have HT := Lib.hid hT
  have HJ := Lib.hid hJ
  have HN := Lib.hid hN
  have H0 := Lib.hid h0
  have HK0 := Lib.hid hK
  have hn64 : N ≤ 64 := by have := hG.n; omega
  clear hG hY hT hJ hN h0 hK
  refine callsIn_of_wp Try.func62 rfl trivial ?_ rfl
  simp only [Try.ntmps62, List.size_toArray, List.length_cons, List.length_nil, Nat.reduceAdd, Nat.reduceSub, Array.replicate_succ, Array.replicate_zero, List.push_toArray, List.append_toArray, List.nil_append, List.cons_append]
  gi_wp2
  gi_loopw [4, 5, 6, 7] (fun pm pf pl pa wr => ∃ (pre : List (Id N)) (z m : Int) (f q : Nat), pm = .int .i64 m ∧ pf = .int .i64 (f : Int) ∧ pl = .int .i64 (q : Int) ∧ pa = .int .i64 z ∧ Hid (pre.map (·.val) ++ T.way z = T.way i) ∧ Hid (J pre wr) ∧
      Hid (m = -1 ∨ z < m) ∧ Hid (1 ≤ q ∧ q ≤ f ∧ f ≤ 2 ^ pre.length) ∧ wr.cell? ⟨Bt, 0, none⟩ = some (.slice A N cap) ∧ wr.cell? ⟨Bt, 1, none⟩ = some (.int .i64 c) ∧ Hid (TxAt wr A T.l))
    (fun _ _ _ p _ => (intOf p + 1).toNat)
  case atStart => exact ⟨[], i, -1, 1, 1, rfl, rfl, rfl, rfl, rfl, H0, .inl rfl, ⟨Nat.le_refl _, Nat.le_refl _, Nat.le_refl _⟩, ct0, ct1, HT⟩
  case round =>
    obtain ⟨pre, z, m, f, q, rfl, rfl, rfl, rfl, hpre, hJp, hm, hf, kt0, kt1, hT2⟩ := hrel
    clear ci ct0 ct1 HT H0
    have hk := known_any A N cap c z wr
    by_cases hin : 0 ≤ z ∧ z < (N : Int)
    · rw [decide_eq_true hin] at hk
      obtain ⟨x, rfl⟩ : ∃ x : Nat, z = x := ⟨z.toNat, by omega⟩
      have hx : x < N := by omega
      have hxl : x < T.l.length := by rw [HN.out]; exact hx
      obtain ⟨w1, hw1⟩ : ∃ w1, w1 = wr.alloc (.cells #[.slice A N cap, .int .i64 c] 26) := ⟨_, rfl⟩
      have g1 : wr.grownBy w1 none := by rw [hw1]; exact World.grownBy_alloc _ _ _
      have J1 := HJ.out pre _ _ none hJp.out g1 (fun r e => by cases e)
      have hway := way_step HG.out hxl
      have hlen : pre.length < 9 := by
        have h1 : (T.way i).length ≤ 8 := way_len HG.out i
        rw [← hpre.out] at h1
        simp at h1
        omega
      have hfb : f ≤ 512 := Nat.le_trans hf.out.2.2 (Nat.le_trans (Nat.pow_le_pow_right (by decide) (Nat.le_of_lt hlen)) (by decide))
      have hq := hf.out.1
      have hqf := hf.out.2.1
      have hmn : ((x : Int) != m) = true := by
        have : ¬ (x : Int) = m := by
          rcases hm.out with h | h
          · omega
          · omega
        simpa using this
      obtain ⟨fn, tmps, assign, body, hy, hR⟩ := HY.out pre ⟨x, hx⟩ w1 J1 hlen
      dsimp only at hy
      have HK := Lib.hid hk
      have HW1 := Lib.hid hw1
      have HF := Lib.hid hf.out.2.2
      have HM : Hid (∀ z' : Int, z' < (x : Int) → (m = -1 ∨ z' < m)) := fun z' h => by rcases hm.out with h2 | h2; exact .inl h2; exact .inr (by omega)
      clear hk hJp J1 g1 hw1 hm hf
      gi_wp2_with fail
      refine ⟨trivial, fun _ => by omega, (callsIn_wide.2 HK.out).mono ?_⟩
      rintro e w1' ⟨rfl, hw⟩
      obtain rfl : w1' = w1 := by rw [HW1.out, hw]
      clear HK hw
      gi_wp2_with fail
      refine ⟨fun _ => by omega, hR.mono ?_⟩
      rintro e W3 (⟨rfl, hJ3, hk3⟩ | ⟨rfl, hJx3⟩)
      · have ht3 : Turn S wr W3 := ((Turn.ofBelow (by rw [HW1.out]; exact below_new wr _))).trans (HK0.out _ _ hk3)
        have c0 := ht3.cell kt0 hSt
        have c1 := ht3.cell kt1 hSt
        have hT3 := hT2.out.turn ht3 hA
        obtain ⟨b, hAe, hb, p0, _, _, _⟩ := hT3.get hxl
        subst hAe
        have hp := HG.out.par x hxl
        have HJ3 := Lib.hid hJ3
        have HT3 := Lib.hid hT3
        clear hJ3 hT3 hk3 ht3 kt0 kt1 hT2 hR hy
        obtain ⟨z, hz2⟩ : ∃ z, z = (T.tx x).p := ⟨_, rfl⟩
        rw [← hz2] at p0 hp hway
        have HP : Hid ((pre ++ [(⟨x, hx⟩ : Id N)]).map (·.val) ++ T.way z = T.way i) := by
          have h1 : pre.map (·.val) ++ T.way x = T.way i := hpre.out
          rw [hway] at h1
          show List.map _ (pre ++ [_]) ++ _ = _
          rw [← h1]; simp
        have HL : Hid ((pre ++ [(⟨x, hx⟩ : Id N)]).length = pre.length + 1) := by show _ = _; simp
        clear hz2 hway hpre hmn
        rcases (show q = 1 ∨ 2 ≤ q from by omega) with h1 | h2
        · subst h1
          have hw2 : IntKind.i64.wrap ((f : Int) * 2) = ((f * 2 : Nat) : Int) := by simp [IntKind.wrap, IntKind.bits, IntKind.signed]; omega
          gi_wp2
          go_roundw
          case rel => exact ⟨pre ++ [⟨x, hx⟩], z, x, f * 2, f * 2, rfl, rfl, rfl, rfl, HP, HJ3, .inr hp.2, ⟨by omega, Nat.le_refl _, by have h3 := HF.out; rw [HL.out, Nat.pow_succ]; exact Nat.mul_le_mul_right 2 h3⟩, c0, c1, HT3⟩
          case measure => simp [intOf]; omega
        · obtain ⟨q', rfl⟩ : ∃ q', q = q' + 1 := ⟨q - 1, by omega⟩
          have hw2 : IntKind.i64.wrap (((q' + 1 : Nat) : Int) - 1) = (q' : Int) := by simp [IntKind.wrap, IntKind.bits, IntKind.signed]; omega
          have hq0 : ((q' : Int) == 0) = false := by simp; omega
          gi_wp2
          go_roundw
          case rel => exact ⟨pre ++ [⟨x, hx⟩], z, m, f, q', rfl, rfl, rfl, rfl, HP, HJ3, HM.out z hp.2, ⟨by omega, by omega, by have h3 := HF.out; rw [HL.out, Nat.pow_succ]; omega⟩, c0, c1, HT3⟩
          case measure => simp [intOf]; omega
      · gi_wp2
        refine bodyPost_end (results_none rfl _ _ _) rfl ?_
        refine ⟨⟨_, rfl⟩, .inr ⟨pre ++ [⟨x, hx⟩], ?_, hJx3⟩⟩
        have h1 : pre.map (·.val) ++ T.way x = T.way i := hpre.out
        rw [← h1, hway]
        simp
    · rw [decide_eq_false hin] at hk
      have HK := Lib.hid hk
      clear hk
      gi_wp2_with fail
      refine ⟨trivial, fun _ => by omega, (callsIn_wide.2 HK.out).mono ?_⟩
      rintro e w1 ⟨rfl, hw⟩
      have HW1 := Lib.hid hw
      clear hw
      gi_wp2
      refine ⟨fun f e => (by cases e), ?_⟩
      gi_wp2
      go_end0
      refine ⟨⟨_, rfl⟩, .inl ⟨pre, ?_, HJ.out _ _ _ none hJp.out (by rw [HW1.out]; exact World.grownBy_alloc _ _ _) (fun r e => by cases e)⟩⟩
      have h1 : pre.map (·.val) ++ T.way z = T.way i := hpre.out
      rw [Tr.way_none (by rw [HN.out]; omega), List.append_nil] at h1
      exact h1

/-- **the function value that 'up' answers, as an iterator** -/
theorem up_stopsK (K : World → World → Prop) (n : Nat) (hn : 2 ≤ n) (S : Nat → Prop) (A : Option Addr) (T : Tr) (N cap : Nat) (c i : Int) (hN : T.l.length = N) (hG : Good T) (w : World) (hT : TxAt w A T.l)
    (hA : ∀ b o, A = some ⟨b, o, none⟩ → T.l = [] ∨ ¬ S b) (hSt : ¬ S w.heap.size) (hK : ∀ a b, K a b → Turn S a b) :
    SeqStopsK Fence.wide n Try.prog 62 #[.pointer (some ⟨w.heap.size + 1, 0, none⟩), .pointer (some ⟨w.heap.size, 0, none⟩)] (fun x : Id N => #[Value.int .i64 (x.val : Int)]) K (fun xs => xs.map (·.val) = T.way i) (fun pre => pre.map (·.val) <+: T.way i) 9
      ((w.alloc (.cells #[.slice A N cap, .int .i64 c] 26)).alloc (.cells #[.int .i64 i] 3)) := fun l J Jx W hW hJ _ hY h0 => by
  have k0 := cell_al (.cells #[.int .i64 i] 3) ((cell_new w #[.slice A N cap, .int .i64 c] 26 0).trans rfl)
  have k1 := cell_al (.cells #[.int .i64 i] 3) ((cell_new w #[.slice A N cap, .int .i64 c] 26 1).trans rfl)
  have k2 := (cell_new (w.alloc (.cells #[.slice A N cap, .int .i64 c] 26)) #[.int .i64 i] 3 0).trans rfl
  have hT2 : TxAt ((w.alloc (.cells #[.slice A N cap, .int .i64 c] 26)).alloc (.cells #[.int .i64 i] 3)) A T.l := (hT.below (below_new w _)).below (below_new _ _)
  refine up1_in K n hn l (w.heap.size + 1) w.heap.size S A T N cap c i hN hG J Jx hA hSt hK W hJ hY ((hW.cell (p := ⟨w.heap.size + 1, 0, none⟩) (by simp)).trans ?_) ((hW.cell (p := ⟨w.heap.size, 0, none⟩) (by simp; omega)).trans k0) ((hW.cell (p := ⟨w.heap.size, 1, none⟩) (by simp; omega)).trans k1) (hT2.below hW) h0
  simp

theorem up_stops (n : Nat) (hn : 2 ≤ n) (S : Nat → Prop) (A : Option Addr) (T : Tr) (N cap : Nat) (c i : Int) (hN : T.l.length = N) (hG : Good T) (w : World) (hT : TxAt w A T.l)
    (hA : ∀ b o, A = some ⟨b, o, none⟩ → T.l = [] ∨ ¬ S b) (hSt : ¬ S w.heap.size) :
    SeqStopsK Fence.wide n Try.prog 62 #[.pointer (some ⟨w.heap.size + 1, 0, none⟩), .pointer (some ⟨w.heap.size, 0, none⟩)] (fun x : Id N => #[Value.int .i64 (x.val : Int)]) (Kp S) (fun xs => xs.map (·.val) = T.way i) (fun pre => pre.map (·.val) <+: T.way i) 9
      ((w.alloc (.cells #[.slice A N cap, .int .i64 c] 26)).alloc (.cells #[.int .i64 i] 3)) := up_stopsK (Kp S) n hn S A T N cap c i hN hG w hT hA hSt (fun _ _ h => h.turn)
end Go.Proofs.Ytohnfjneghbceaa
