/-
  WireOrder: the walk: numbers of so many bytes are read as they were laid, one behind the other; the low byte is the first.
-/
import Derived.Test.YtgmnhaohbpclkaaBackWalk
import Derived.Test.YtgmnhaohbpclkaaSince
namespace Go.Proofs.Ytgmnhaohbpclkaa
open Go.RowKit Wm

/-- numbers laid one behind the other -/
def catB (K : Nat) (f : Nat → Nat) : Nat → List UInt8
  | 0 => []
  | j + 1 => catB K f j ++ putB K (f j)

theorem length_catB (K : Nat) (f : Nat → Nat) (j : Nat) : (catB K f j).length = K * j := by
  induction j with
  | zero => rfl
  | succ j ih => rw [catB, List.length_append, ih, length_putB, Nat.mul_succ]

theorem catB_piece (K : Nat) (f : Nat → Nat) (j : Nat) : ∀ m, j < m → ((catB K f m).drop (K * j)).take K = putB K (f j) := by
  intro m hm
  induction m with
  | zero => omega
  | succ m ih =>
    have hl : (catB K f m).length = K * m := length_catB K f m
    rcases Nat.lt_or_ge j m with h | h
    · have h1 : K * j + K ≤ K * m := by rw [← Nat.mul_succ]; exact Nat.mul_le_mul_left K h
      rw [catB, List.drop_append_of_le_length (by omega), List.take_append_of_le_length (by rw [List.length_drop]; omega)]
      exact ih h
    · obtain rfl : j = m := by omega
      rw [catB, ← hl, List.drop_left, List.take_of_length_le (by rw [length_putB]; omega)]

theorem catB_low (K : Nat) (f : Nat → Nat) (m j : Nat) (hj : j < m) (hK : 1 ≤ K) : (catB K f m)[K * j]? = some (UInt8.ofNat (f j)) := by
  have h := catB_piece K f j m hj
  obtain ⟨K, rfl⟩ : ∃ i, K = i + 1 := ⟨K - 1, by omega⟩
  have h0 : (((catB (K + 1) f m).drop ((K + 1) * j)).take (K + 1))[0]? = some (UInt8.ofNat (f j)) := by rw [h]; rfl
  rw [List.getElem?_take] at h0
  split at h0
  · rw [List.getElem?_drop] at h0; simpa using h0
  · cases h0

theorem mod_low (x K : Nat) (hK : 1 ≤ K) : x % 256 ^ K % 256 = x % 256 := by
  obtain ⟨K, rfl⟩ : ∃ i, K = i + 1 := ⟨K - 1, by omega⟩
  rw [Nat.pow_succ, Nat.mul_comm, Nat.mod_mul_right_mod]

/-- numbers of 64 bits that came in -/
def Us (w : World) (B : Nat) (a : Option Addr) (len : Nat) (f : Nat → Nat) : Prop :=
  (∀ i, f i ≤ 18446744073709551615) ∧ (len = 0 ∨ ∃ b o, a = some ⟨b, o, none⟩ ∧ b < B ∧ ∀ i, i < len → w.cell? ⟨b, o + i, none⟩ = some (.int .u64 (f i : Int)))

theorem rd_at {w : World} {B P : Nat} {A : Option Addr} {l : List UInt8} {x : UInt8} (h : Rd w B A l) (hx : l[P]? = some x) : ∃ b o, A = some ⟨b, o, none⟩ ∧ b < B ∧ w.cell? ⟨b, o + P, none⟩ = some (.int .u8 ((x.toNat : Nat) : Int)) := by
  rcases h with h | ⟨b, o, e, hb, hc⟩
  · subst h; cases hx
  · exact ⟨b, o, e, hb, hc P x hx⟩

set_option maxRecDepth 100000 in
set_option maxHeartbeats 4000000 in
theorem order_walk (a : Option Addr) (len cap : Nat) (f : Nat → Nat) (n : Int) (w : World) (hst : Us w w.heap.size a len f) :
    Calls Try.prog 7 #[.slice a len cap, .int .i64 n] w fun e w' => e = .returned (.bool true) ∧ Below w.heap.size w w' := by
  by_cases hlen : len ≤ 60
  · obtain ⟨y, K, hy, hy1, hy2, hK1, hK8⟩ : ∃ (y : Int) (K : Nat), y = n % 8 ∧ (K : Int) ≤ 1 + y ∧ 1 + y ≤ K ∧ 1 ≤ K ∧ K ≤ 8 := ⟨n % 8, (1 + n % 8).toNat, rfl, by omega, by omega, by omega, by omega⟩
    have hand : bits .and .i64 n 7 = y := by rw [and7, hy]
    clear hy
    have hfm := hide2 hst.1
    have hst2 := hst.2
    clear hst
    go_enter Try.func7, Try.ntmps7
    go_wp2_with fail
    refine (awake_any w).mono ?_
    rintro e w0 ⟨rfl, hb0⟩
    go_wp2_with fail
    clear hand
    generalize (1 + y) = z at *
    go_loopw [7, 8] (fun o i wr => ∃ (j T : Nat) (A' : Option Addr) (c' : Nat), j ≤ len ∧ i = .int .i64 (j : Int) ∧ o = .slice A' T c' ∧ T ≤ 8 * j ∧ Owns wr w.heap.size A' c' T (catB K f j) ∧ Below w.heap.size w wr) (fun _ i _ => len - (intOf i).toNat)
    case atStart => exact ⟨0, 0, none, 0, Nat.zero_le _, rfl, rfl, by omega, World.ownsRow_nil _ _ _ _, hb0⟩
    case round =>
      clear hb0
      obtain ⟨j, T, A', c', hj, rfl, rfl, hT, ho, hb⟩ := hrel
      by_cases hlt : j < len
      · rcases hst2 with h0 | ⟨b, o, rfl, hbB, hcs⟩
        · omega
        have hF : wr.cell? ⟨b, o + j, none⟩ = some (.int .u64 (f j : Int)) := (hb.cell (p := ⟨b, o + j, none⟩) hbB).trans (hcs j hlt)
        have hO := hide2 ho
        have hB := hide2 hb
        have HC := hide2 hcs
        clear ho hb hcs
        go_wp2_with fail
        refine (put_core A' c' T (catB K f j) hO.out.len (f j) z K wr hO.out.read (by omega) (hfm.out j) hK8 (by omega)).mono ?_
        rintro e V ⟨A2, c2, rfl, ho2, hb2⟩
        have hO2 := hide2 (ho2.base_le hB.out.size)
        have hB2 := hide2 (hB.out.trans (hb2.mono hB.out.size))
        clear ho2 hb2
        go_wp2_with fail
        go_roundw
        case rel => exact ⟨j + 1, T + K, A2, c2, by omega, by go_num, rfl, by omega, hO2.out, hB2.out⟩
        case measure => simp [intOf]; omega
      · obtain rfl : len = j := by omega
        clear hlt hj
        have hO := hide2 ho
        have hB := hide2 hb
        clear ho hb
        go_wp2_with fail
        refine (new_any hO.out.len hO.out.cap_le (by omega) hO.out.read).mono ?_
        rintro e w1 ⟨r, rfl, hcur, hb1, hr1⟩
        have hBr : w.heap.size ≤ r := Nat.le_trans hB.out.size hr1
        have hTT : Hid (T = K * len) := by have := hO.out.len; rw [length_catB] at this; exact this.symm
        have hB1 := hide2 (hB.out.trans (hb1.mono hB.out.size))
        have hO1 := hide2 (Owns.below hO.out hb1)
        have HCur := hide2 hcur
        have hrO := hide2 hr1
        clear hb1 hcur hr1 hB hO
        go_wp2_with fail
        go_loopw [10] (fun i wr => ∃ (j P : Nat), j ≤ len ∧ i = .int .i64 (j : Int) ∧ Hid (P = K * j) ∧ P ≤ T ∧ Cur wr r 57 A' c' T P (catB K f len) ∧ Below w.heap.size w wr) (fun i _ => len - (intOf i).toNat)
        case atStart => exact ⟨0, 0, Nat.zero_le _, rfl, rfl, Nat.zero_le _, HCur.out, hB1.out⟩
        case round =>
          obtain ⟨j, P, hj, rfl, hP, hPT, hcur, hb⟩ := hrel
          have HC2 := hide2 hcur
          have HB2 := hide2 hb
          clear hcur hb
          by_cases hlt : j < len
          · rcases hst2 with h0 | ⟨b, o, rfl, hbB, hcs⟩
            · omega
            obtain ⟨g, q, rfl, hgB, hlow⟩ := rd_at HC2.out.rd (show (catB K f len)[P]? = some (UInt8.ofNat (f j)) from by rw [hP.out]; exact catB_low K f len j hlt hK1)
            have hz : z = (K : Int) := by omega
            have hKj : Hid ((K * len : Nat) = K * j + K * (len - j) ∧ K ≤ K * (len - j)) := ⟨by rw [← Nat.mul_add]; congr 1; omega, Nat.le_mul_of_pos_right _ (by omega)⟩
            have hPK : P + K ≤ T := by have := hKj.out; have := hTT.out; have := hP.out; omega
            have e1 : IntKind.i64.wrap ((len : Int) - (j : Int)) = (len : Int) - (j : Int) := IntWalk.i64_in _ ⟨by omega, by omega⟩
            have e2 : IntKind.i64.wrap (z * ((len : Int) - (j : Int))) = (T : Int) - (P : Int) := by
              have h1 : z * ((len : Int) - (j : Int)) = (T : Int) - (P : Int) := by rw [hz, Int.mul_sub, hTT.out, hP.out]; simp
              rw [h1]; exact IntWalk.i64_in _ ⟨by omega, by omega⟩
            have e3 : IntKind.i64.wrap (z * (len : Int)) = (T : Int) := by
              have h1 : z * (len : Int) = (T : Int) := by rw [hz, hTT.out]; simp
              rw [h1]; exact IntWalk.i64_in _ ⟨by omega, by omega⟩
            have e4 : IntKind.i64.wrap (z * (j : Int)) = (P : Int) := by
              have h1 : z * (j : Int) = (P : Int) := by rw [hz, hP.out]; simp
              rw [h1]; exact IntWalk.i64_in _ ⟨by omega, by omega⟩
            clear hz
            have hPi : (P : Int) < (T : Int) := by omega
            have hji : (j : Int) < (len : Int) := by omega
            have hlo : ∀ V, Since wr V → V.cell? ⟨g, q + P, none⟩ = some (.int .u8 (((UInt8.ofNat (f j)).toNat : Nat) : Int)) := fun V hV => (Below.cell hV (p := ⟨g, q + P, none⟩) (Nat.lt_trans hgB HC2.out.lt)).trans hlow
            have hli : ∀ V, Since wr V → V.cell? ⟨b, o + j, none⟩ = some (.int .u64 (f j : Int)) := fun V hV => (Below.cell hV (p := ⟨b, o + j, none⟩) (Nat.lt_of_lt_of_le hbB HB2.out.size)).trans ((Below.cell HB2.out (p := ⟨b, o + j, none⟩) hbB).trans (hcs j hlt))
            have e9 : IntKind.u8.wrap (f j : Int) = (f j : Int) % 256 := IntKind.wrap_u8' _
            clear hcs hlow
            go_wp2_with fail
            refine wp_region_since (by kernel_rfl) ?_
            have hS : Since wr (World.drew wr) := (Below.refl _ _).drew
            refine wpAnyH_take (i := 0) (oi := ⟨some 42, _, _, _, _, _⟩) (v := ?_) rfl (by kernel_rfl) (by kernel_rfl) (by kernel_rfl) (fun _ _ _ h => h) (Or.inl ⟨by rfl, ?_⟩) hS ?_
            rotate_left
            · intro W hW; go_simp; with_reducible rfl
            try simp only [Act.put, List.setIfInBounds_toArray, List.set_cons_zero, List.set_cons_succ]
            refine wpAnyH_take (i := 2) (oi := ⟨some 44, _, _, _, _, _⟩) (v := ?_) rfl (by kernel_rfl) (by kernel_rfl) (by kernel_rfl) (fun _ _ _ h => h) (Or.inl ⟨by rfl, ?_⟩) hS ?_
            rotate_left
            · intro W hW; go_simp; with_reducible rfl
            try simp only [Act.put, List.setIfInBounds_toArray, List.set_cons_zero, List.set_cons_succ]
            refine wpAnyH_take (i := 3) (oi := ⟨some 45, _, _, _, _, _⟩) (v := ?_) rfl (by kernel_rfl) (by kernel_rfl) (by kernel_rfl) (fun _ _ _ h => h) (Or.inl ⟨by rfl, ?_⟩) hS ?_
            rotate_left
            · intro W hW; go_simp; with_reducible rfl
            try simp only [Act.put, List.setIfInBounds_toArray, List.set_cons_zero, List.set_cons_succ]
            refine wpAnyH_take (i := 4) (oi := ⟨some 46, _, _, _, _, _⟩) (v := ?_) rfl (by kernel_rfl) (by kernel_rfl) (by kernel_rfl) (fun _ _ _ h => h) (Or.inl ⟨by rfl, ?_⟩) hS ?_
            rotate_left
            · intro W hW; go_simp; with_reducible rfl
            try simp only [Act.put, List.setIfInBounds_toArray, List.set_cons_zero, List.set_cons_succ]
            refine wpAnyH_take (i := 5) (oi := ⟨some 47, _, _, _, _, _⟩) (v := ?_) rfl (by kernel_rfl) (by kernel_rfl) (by kernel_rfl) (fun _ _ _ h => h) (Or.inl ⟨by rfl, ?_⟩) hS ?_
            rotate_left
            · intro W hW; go_simp; with_reducible rfl
            try simp only [Act.put, List.setIfInBounds_toArray, List.set_cons_zero, List.set_cons_succ]
            refine wpAnyH_take (i := 6) (oi := ⟨some 48, _, _, _, _, _⟩) (v := ?_) rfl (by kernel_rfl) (by kernel_rfl) (by kernel_rfl) (fun _ _ _ h => h) (Or.inl ⟨by rfl, ?_⟩) hS ?_
            rotate_left
            · intro W hW; go_simp; with_reducible rfl
            try simp only [Act.put, List.setIfInBounds_toArray, List.set_cons_zero, List.set_cons_succ]
            refine wpAnyH_take (i := 7) (oi := ⟨some 49, _, _, _, _, _⟩) (v := ?_) rfl (by kernel_rfl) (by kernel_rfl) (by kernel_rfl) (fun _ _ _ h => h) (Or.inl ⟨by rfl, ?_⟩) hS ?_
            rotate_left
            · intro W hW; go_simp; with_reducible rfl
            try simp only [Act.put, List.setIfInBounds_toArray, List.set_cons_zero, List.set_cons_succ]
            -- operation 1: a call
            refine wpAnyH_ready (rs := [1]) (by kernel_rfl) (by simp) ?_
            refine AllReadyH.cons (o := ⟨some 43, _, _, _, _, _⟩) rfl (fun Kr hKr => ?_) AllReadyH.nil
            go_simp
            refine (rleft_any (show Cur wr.drew r 57 _ c' T P (catB K f len) from HC2.out.drewN 1)).mono ?_
            rintro e V1 ⟨rfl, hx1⟩
            show Kr _ _
            refine hKr.out _ _ ?_ (fun _ => ?_)
            · exact (since_trans hS hx1)
            clear hKr Kr
            replace hS : Since wr V1 := (since_trans hS hx1)
            try simp only [Act.put, List.setIfInBounds_toArray, List.set_cons_zero, List.set_cons_succ]
            refine wpAnyH_take (i := 8) (oi := ⟨some 50, _, _, _, _, _⟩) (v := ?_) rfl (by kernel_rfl) (by kernel_rfl) (by kernel_rfl) (fun _ _ _ h => h) (Or.inl ⟨by rfl, ?_⟩) hS ?_
            rotate_left
            · intro W hW; go_simp; with_reducible rfl
            try simp only [Act.put, List.setIfInBounds_toArray, List.set_cons_zero, List.set_cons_succ]
            refine wpAnyH_take (i := 9) (oi := ⟨some 51, _, _, _, _, _⟩) (v := ?_) rfl (by kernel_rfl) (by kernel_rfl) (by kernel_rfl) (fun _ _ _ h => h) (Or.inl ⟨by rfl, ?_⟩) hS ?_
            rotate_left
            · intro W hW; go_simp; with_reducible rfl
            try simp only [Act.put, List.setIfInBounds_toArray, List.set_cons_zero, List.set_cons_succ]
            refine wpAnyH_take (i := 10) (oi := ⟨some 52, _, _, _, _, _⟩) (v := ?_) rfl (by kernel_rfl) (by kernel_rfl) (by kernel_rfl) (fun _ _ _ h => h) (Or.inl ⟨by rfl, ?_⟩) hS ?_
            rotate_left
            · intro W hW; go_simp; with_reducible rfl
            try simp only [Act.put, List.setIfInBounds_toArray, List.set_cons_zero, List.set_cons_succ]
            refine wpAnyH_take (i := 11) (oi := ⟨some 53, _, _, _, _, _⟩) (v := ?_) rfl (by kernel_rfl) (by kernel_rfl) (by kernel_rfl) (fun _ _ _ h => h) (Or.inl ⟨by rfl, ?_⟩) hS ?_
            rotate_left
            · intro W hW; go_simp; with_reducible rfl
            try simp only [Act.put, List.setIfInBounds_toArray, List.set_cons_zero, List.set_cons_succ]
            refine wpAnyH_take (i := 12) (oi := ⟨some 54, _, _, _, _, _⟩) (v := ?_) rfl (by kernel_rfl) (by kernel_rfl) (by kernel_rfl) (fun _ _ _ h => h) (Or.inl ⟨by rfl, ?_⟩) hS ?_
            rotate_left
            · intro W hW; go_simp; with_reducible rfl
            try simp only [Act.put, List.setIfInBounds_toArray, List.set_cons_zero, List.set_cons_succ]
            refine wpAnyH_take (i := 13) (oi := ⟨some 55, _, _, _, _, _⟩) (v := ?_) rfl (by kernel_rfl) (by kernel_rfl) (by kernel_rfl) (fun _ _ _ h => h) (Or.inl ⟨by rfl, ?_⟩) hS ?_
            rotate_left
            · intro W hW; go_simp; with_reducible rfl
            try simp only [Act.put, List.setIfInBounds_toArray, List.set_cons_zero, List.set_cons_succ]
            refine wpAnyH_take (i := 14) (oi := ⟨some 56, _, _, _, _, _⟩) (v := ?_) rfl (by kernel_rfl) (by kernel_rfl) (by kernel_rfl) (fun _ _ _ h => h) (Or.inl ⟨by rfl, ?_⟩) hS ?_
            rotate_left
            · intro W hW; go_simp; with_reducible rfl
            try simp only [Act.put, List.setIfInBounds_toArray, List.set_cons_zero, List.set_cons_succ]
            refine wpAnyH_take (i := 15) (oi := ⟨some 57, _, _, _, _, _⟩) (v := ?_) rfl (by kernel_rfl) (by kernel_rfl) (by kernel_rfl) (fun _ _ _ h => h) (Or.inl ⟨by rfl, ?_⟩) hS ?_
            rotate_left
            · intro W hW; go_simp; with_reducible rfl
            try simp only [Act.put, List.setIfInBounds_toArray, List.set_cons_zero, List.set_cons_succ]
            refine wpAnyH_take (i := 16) (oi := ⟨some 58, _, _, _, _, _⟩) (v := ?_) rfl (by kernel_rfl) (by kernel_rfl) (by kernel_rfl) (fun _ _ _ h => h) (Or.inl ⟨by rfl, ?_⟩) hS ?_
            rotate_left
            · intro W hW; go_simp; with_reducible rfl
            try simp only [Act.put, List.setIfInBounds_toArray, List.set_cons_zero, List.set_cons_succ]
            refine wpAnyH_take (i := 17) (oi := ⟨some 59, _, _, _, _, _⟩) (v := ?_) rfl (by kernel_rfl) (by kernel_rfl) (by kernel_rfl) (fun _ _ _ h => h) (Or.inl ⟨by rfl, ?_⟩) hS ?_
            rotate_left
            · intro W hW; go_simp; with_reducible rfl
            try simp only [Act.put, List.setIfInBounds_toArray, List.set_cons_zero, List.set_cons_succ]
            refine wpAnyH_take (i := 18) (oi := ⟨some 60, _, _, _, _, _⟩) (v := ?_) rfl (by kernel_rfl) (by kernel_rfl) (by kernel_rfl) (fun _ _ _ h => h) (Or.inl ⟨by rfl, ?_⟩) hS ?_
            rotate_left
            · intro W hW; go_simp; with_reducible rfl
            try simp only [Act.put, List.setIfInBounds_toArray, List.set_cons_zero, List.set_cons_succ]
            refine wpAnyH_take (i := 19) (oi := ⟨some 61, _, _, _, _, _⟩) (v := ?_) rfl (by kernel_rfl) (by kernel_rfl) (by kernel_rfl) (fun _ _ _ h => h) (Or.inl ⟨by rfl, ?_⟩) hS ?_
            rotate_left
            · intro W hW; go_simp; with_reducible rfl
            try simp only [Act.put, List.setIfInBounds_toArray, List.set_cons_zero, List.set_cons_succ]
            refine wpAnyH_take (i := 20) (oi := ⟨some 62, _, _, _, _, _⟩) (v := ?_) rfl (by kernel_rfl) (by kernel_rfl) (by kernel_rfl) (fun _ _ _ h => h) (Or.inl ⟨by rfl, ?_⟩) hS ?_
            rotate_left
            · intro W hW; go_simp; with_reducible rfl
            try simp only [Act.put, List.setIfInBounds_toArray, List.set_cons_zero, List.set_cons_succ]
            refine wpAnyH_take (i := 21) (oi := ⟨some 63, _, _, _, _, _⟩) (v := ?_) rfl (by kernel_rfl) (by kernel_rfl) (by kernel_rfl) (fun _ _ _ h => h) (Or.inl ⟨by rfl, ?_⟩) hS ?_
            rotate_left
            · intro W hW; go_simp; with_reducible rfl
            try simp only [Act.put, List.setIfInBounds_toArray, List.set_cons_zero, List.set_cons_succ]
            refine wpAnyH_take (i := 22) (oi := ⟨some 64, _, _, _, _, _⟩) (v := ?_) rfl (by kernel_rfl) (by kernel_rfl) (by kernel_rfl) (fun _ _ _ h => h) (Or.inl ⟨by rfl, ?_⟩) hS ?_
            rotate_left
            · intro W hW; go_simp; with_reducible rfl
            try simp only [Act.put, List.setIfInBounds_toArray, List.set_cons_zero, List.set_cons_succ]
            refine wpAnyH_take (i := 23) (oi := ⟨some 65, _, _, _, _, _⟩) (v := ?_) rfl (by kernel_rfl) (by kernel_rfl) (by kernel_rfl) (fun _ _ _ h => h) (Or.inl ⟨by rfl, ?_⟩) hS ?_
            rotate_left
            · intro W hW; go_simp; with_reducible rfl
            try simp only [Act.put, List.setIfInBounds_toArray, List.set_cons_zero, List.set_cons_succ]
            refine wpAnyH_take (i := 24) (oi := ⟨some 66, _, _, _, _, _⟩) (v := ?_) rfl (by kernel_rfl) (by kernel_rfl) (by kernel_rfl) (fun _ _ _ h => h) (Or.inl ⟨by rfl, ?_⟩) hS ?_
            rotate_left
            · intro W hW; go_simp; with_reducible rfl
            try simp only [Act.put, List.setIfInBounds_toArray, List.set_cons_zero, List.set_cons_succ]
            refine wpAnyH_take (i := 25) (oi := ⟨some 67, _, _, _, _, _⟩) (v := ?_) rfl (by kernel_rfl) (by kernel_rfl) (by kernel_rfl) (fun _ _ _ h => h) (Or.inl ⟨by rfl, ?_⟩) hS ?_
            rotate_left
            · intro W hW; go_simp; with_reducible rfl
            try simp only [Act.put, List.setIfInBounds_toArray, List.set_cons_zero, List.set_cons_succ]
            refine wpAnyH_take (i := 26) (oi := ⟨some 68, _, _, _, _, _⟩) (v := ?_) rfl (by kernel_rfl) (by kernel_rfl) (by kernel_rfl) (fun _ _ _ h => h) (Or.inl ⟨by rfl, ?_⟩) hS ?_
            rotate_left
            · intro W hW; go_simp; with_reducible rfl
            try simp only [Act.put, List.setIfInBounds_toArray, List.set_cons_zero, List.set_cons_succ]
            refine wpAnyH_take (i := 27) (oi := ⟨some 69, _, _, _, _, _⟩) (v := ?_) rfl (by kernel_rfl) (by kernel_rfl) (by kernel_rfl) (fun _ _ _ h => h) (Or.inl ⟨by rfl, ?_⟩) hS ?_
            rotate_left
            · intro W hW; go_simp; with_reducible rfl
            try simp only [Act.put, List.setIfInBounds_toArray, List.set_cons_zero, List.set_cons_succ]
            refine wpAnyH_take (i := 28) (oi := ⟨some 70, _, _, _, _, _⟩) (v := ?_) rfl (by kernel_rfl) (by kernel_rfl) (by kernel_rfl) (fun _ _ _ h => h) (Or.inl ⟨by rfl, ?_⟩) hS ?_
            rotate_left
            · intro W hW; go_simp; with_reducible rfl
            try simp only [Act.put, List.setIfInBounds_toArray, List.set_cons_zero, List.set_cons_succ]
            refine wpAnyH_take (i := 29) (oi := ⟨some 71, _, _, _, _, _⟩) (v := ?_) rfl (by kernel_rfl) (by kernel_rfl) (by kernel_rfl) (fun _ _ _ h => h) (Or.inl ⟨by rfl, ?_⟩) hS ?_
            rotate_left
            · intro W hW; go_simp; with_reducible rfl
            try simp only [Act.put, List.setIfInBounds_toArray, List.set_cons_zero, List.set_cons_succ]
            refine wpAnyH_take (i := 30) (oi := ⟨some 72, _, _, _, _, _⟩) (v := ?_) rfl (by kernel_rfl) (by kernel_rfl) (by kernel_rfl) (fun _ _ _ h => h) (Or.inl ⟨by rfl, ?_⟩) hS ?_
            rotate_left
            · intro W hW; go_simp; with_reducible rfl
            try simp only [Act.put, List.setIfInBounds_toArray, List.set_cons_zero, List.set_cons_succ]
            refine wpAnyH_take (i := 31) (oi := ⟨some 73, _, _, _, _, _⟩) (v := ?_) rfl (by kernel_rfl) (by kernel_rfl) (by kernel_rfl) (fun _ _ _ h => h) (Or.inl ⟨by rfl, ?_⟩) hS ?_
            rotate_left
            · intro W hW; go_simp; with_reducible rfl
            try simp only [Act.put, List.setIfInBounds_toArray, List.set_cons_zero, List.set_cons_succ]
            refine wpAnyH_done (by kernel_rfl) ?_ _
            go_wp2_with fail
            obtain ⟨X, hX⟩ : ∃ X, Hid (X = f j % 256 ^ K) := ⟨_, rfl⟩
            have hcV : Cur V1 r 57 _ c' T P (catB K f len) := HC2.out.below hS
            refine (get_val hcV z K (by clear e1 e2 e3 e4 e9; omega) hK1 hK8 (by clear e1 e2 e3 e4 e9; omega) X (by rw [hP.out, catB_piece K f j len hlt, val_putB, hX.out]) (P + K) rfl).mono ?_
            rintro e V2 ⟨rfl, hc2, hg2⟩
            have HC3 := hide2 hc2
            have HB3 := hide2 (belowMore (HB2.out.trans (hS.mono HB2.out.size)) (Nat.le_refl _) hBr hg2)
            have hl2 : V2.cell? ⟨b, o + j, none⟩ = some (.int .u64 (f j : Int)) := ((HB3.out.cell (p := ⟨b, o + j, none⟩) hbB).trans ((HB2.out.cell (p := ⟨b, o + j, none⟩) hbB).symm)).trans (hli wr (Below.refl _ _))
            have HFj := hfm.out j
            have hq1 : ((X : Int) % 256 != (f j : Int) % 256) = false := by
              have h1 := mod_low (f j) K hK1
              have h2 : (X : Int) % 256 = (f j : Int) % 256 := by rw [hX.out]; omega
              rw [h2]; simp
            clear hc2 hg2 hli hlo hcV e1 e2 e3 e4 e9 hS
            rcases (show (K < 8 ∧ (z == 8) = false) ∨ (K = 8 ∧ (z == 8) = true) from by
              rcases Nat.lt_or_ge K 8 with h | h
              · exact .inl ⟨h, beq_eq_false_iff_ne.2 (by omega)⟩
              · exact .inr ⟨by omega, beq_iff_eq.2 (by omega)⟩) with ⟨hk8, hz8⟩ | ⟨hk8, hz8⟩
            · go_wp2_with fail
              go_roundw
              case rel => exact ⟨j + 1, P + K, by omega, by go_num, by show _ = _; rw [hP.out, Nat.mul_succ], hPK, HC3.out, HB3.out⟩
              case measure => simp [intOf]; omega
            · have hq2 : ((X : Int) != (f j : Int)) = false := by
                have e : (256 : Nat) ^ 8 = 18446744073709551616 := by decide
                rw [hX.out, hk8, e, Nat.mod_eq_of_lt (by omega)]; simp
              have Hk8 := hide2 hk8
              clear hk8
              go_wp2_with fail
              go_roundw
              case rel => exact ⟨j + 1, P + K, by omega, by go_num, by show _ = _; rw [hP.out, Nat.mul_succ], hPK, HC3.out, HB3.out⟩
              case measure => simp [intOf]; omega
          · have hPT2 : T ≤ P := by
              obtain rfl : j = len := by omega
              rw [hP.out, hTT.out]
              exact Nat.le_refl _
            go_wp2_with fail
            refine (rend_done HC2.out hPT2).mono ?_
            rintro e V3 ⟨rfl, hb3⟩
            have HB3 := hide2 (HB2.out.trans (hb3.mono HB2.out.size))
            clear hb3
            go_wp2_with fail
            go_ret
            exact ⟨rfl, HB3.out⟩
  · go_enter Try.func7, Try.ntmps7
    go_wp2_with fail
    refine (awake_any w).mono ?_
    rintro e w0 ⟨rfl, hb0⟩
    go_wp2_with fail
    go_ret
    exact ⟨rfl, hb0⟩

end Go.Proofs.Ytgmnhaohbpclkaa
