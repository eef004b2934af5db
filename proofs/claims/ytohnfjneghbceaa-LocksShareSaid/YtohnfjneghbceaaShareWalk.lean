/-
  LocksShare's walk.
-/
import Derived.Test.YtohnfjneghbceaaApartWalk
namespace Go.Proofs.Ytohnfjneghbceaa
set_option maxRecDepth 100000
set_option linter.unusedVariables false
set_option linter.unusedSimpArgs false
open Go.RowKit Go.Shelf

/-- so many top ones, all Live -/
structure Tops (T : Tr) (i : Nat) : Prop where
  good : Good T
  n : T.l.length = i
  c : T.c = i
  each : ∀ j, j < i → (T.tx j).p = -1 ∧ (T.tx j).s = 1
theorem tops_nil : Tops ⟨[], 0⟩ 0 := ⟨good_nil, rfl, rfl, fun j h => absurd h (Nat.not_lt_zero _)⟩
theorem Tops.way {T : Tr} {i : Nat} (h : Tops T i) {j : Nat} (hj : j < i) : wayN T.par j = [j] := wayN_top (by show (T.tx j).p < 0; rw [(h.each j hj).1]; decide)
theorem Tops.may {T : Tr} {i : Nat} (h : Tops T i) (hi : i ≤ 8) : MayBegin T (-1) := ⟨.inl rfl, by rw [h.n]; omega, by rw [Tr.way_none (by omega)]; decide⟩
theorem Tops.begun {T : Tr} {i : Nat} (h : Tops T i) (hi : i ≤ 8) : Tops (T.begun (-1)) (i + 1) := by
  refine ⟨h.good.begun (h.may hi), by rw [len_begun, h.n], by show T.c + 1 = _; rw [h.c]; omega, fun j hj => ?_⟩
  rcases Nat.lt_or_ge j i with hlt | hge
  · rw [tx_begun (by rw [h.n]; exact hlt)]; exact h.each j hlt
  · obtain rfl : j = i := by omega
    have := tx_begun_new (T := T) (p := -1)
    rw [h.n] at this
    rw [this]; exact ⟨rfl, rfl⟩
theorem Tops.mayIn {T : Tr} {i : Nat} (h : Tops T i) (hi : i ≤ 8) {v : Nat} (hv : v < i) : MayBegin T (v : Int) :=
  ⟨.inr ⟨v, rfl, by rw [h.n]; exact hv, (h.each v hv).2⟩, by rw [h.n]; omega, by rw [Tr.way_nat (by rw [h.n]; exact hv), h.way hv]; show 1 < 8; decide⟩

/-- each reads block 9 -/
def rd (i : Nat) : List Lk := (List.range i).map fun (j : Nat) => (⟨9, (j : Int), 1, 0⟩ : Lk)
theorem rd_succ (i : Nat) : rd (i + 1) = rd i ++ [⟨9, (i : Int), 1, 0⟩] := by unfold rd; rw [List.range_succ, List.map_append]; rfl
theorem rd_mem {i : Nat} {y : Lk} (h : y ∈ rd i) : ∃ j, j < i ∧ y = ⟨9, (j : Int), 1, 0⟩ := by
  unfold rd at h
  obtain ⟨j, hj, rfl⟩ := List.mem_map.1 h
  exact ⟨j, List.mem_range.1 hj, rfl⟩
theorem rd_len (i : Nat) : (rd i).length = i := by unfold rd; simp
theorem may9 (j : Nat) (hj : j ≤ 63) (h : Int) (hh : h = 1 ∨ h = 2) : May ⟨9, (j : Int), h, 0⟩ :=
  ⟨by show (0 : Int) ≤ 9 ∧ (9 : Int) ≤ 255; decide, by show 0 ≤ (j : Int) ∧ (j : Int) ≤ 63; omega, by show 0 ≤ h ∧ h ≤ 2; omega, ⟨Int.le_refl 0, show (0 : Int) ≤ 2 by decide⟩, by unfold Lk.s; show 0 < max h 0; omega⟩
theorem lg_rd (i : Nat) (hi : i ≤ 64) : LG (rd i) := by
  refine ⟨fun y hy => ?_, ?_⟩
  · obtain ⟨j, hj, rfl⟩ := rd_mem hy
    exact may9 j (by omega) 1 (.inl rfl)
  · unfold rd
    rw [List.pairwise_map]
    refine List.Pairwise.imp (fun {a b} h => ?_) List.pairwise_lt_range
    unfold Lk.q
    show (9 : Int) * 64 + (a : Int) < 9 * 64 + (b : Int)
    omega
theorem ins_rd (i : Nat) : ins (rd i) ⟨9, (i : Int), 1, 0⟩ = rd (i + 1) := by
  rw [rd_succ]
  refine ins_end fun y hy => ?_
  obtain ⟨j, hj, rfl⟩ := rd_mem hy
  unfold Lk.q
  show (9 : Int) * 64 + (j : Int) < 9 * 64 + (i : Int)
  omega
theorem ask_rd {T : Tr} {k i : Nat} (h : Tops T k) (hi : i < k) : askE T (rd i) (i : Int) 9 1 = 0 := by
  unfold askE
  rw [if_pos (by rw [h.n]; omega), if_pos (by simpa using (h.each i hi).2), if_pos ?_]
  unfold agL
  rw [List.map_eq_nil_iff, List.filter_eq_nil_iff]
  intro y hy
  obtain ⟨j, _, rfl⟩ := rd_mem hy
  unfold hit exc Lk.s
  simp
  intro hh
  omega
theorem tops_other {T : Tr} {k : Nat} (h : Tops T k) {i j : Nat} (hi : i < k) (hne : j ≠ i) : T.stands (i : Int) (j : Int) = false := by
  cases hh : T.stands (i : Int) (j : Int) with
  | false => rfl
  | true =>
    have := (stands_of (T := T) (i := i) (of := j) (by rw [h.n]; exact hi)).1 hh
    rw [h.way hi] at this
    exact absurd (by simpa using this) hne
theorem ask_wr {T : Tr} {k v : Nat} (h : Tops T k) (hv : v < k) : askE T (rd k) (v : Int) 9 2 = if k = 1 then 0 else 9 := by
  unfold askE
  rw [if_pos (by rw [h.n]; omega), if_pos (by simpa using (h.each v hv).2)]
  by_cases hk : k = 1
  · rw [if_pos hk, if_pos ?_]
    unfold agL
    rw [List.map_eq_nil_iff, List.filter_eq_nil_iff]
    intro y hy
    obtain ⟨j, hj, rfl⟩ := rd_mem hy
    have : j = v := by omega
    subst this
    unfold hit
    simp only
    rw [stands_self (by rw [h.n]; exact hv)]
    simp
  · rw [if_neg hk, if_neg ?_]
    intro hag
    obtain ⟨j, hj, hne⟩ : ∃ j, j < k ∧ j ≠ v := by
      rcases Nat.eq_zero_or_pos v with h0 | h0
      · exact ⟨1, by omega, by omega⟩
      · exact ⟨0, by omega, by omega⟩
    have := agL_nil hag (y := ⟨9, (j : Int), 1, 0⟩) (by unfold rd; exact List.mem_map.2 ⟨j, List.mem_range.2 hj, rfl⟩) rfl (by unfold exc Lk.s; simp; omega)
    rw [tops_other h hv hne] at this
    cases this
theorem ask_alone {T : Tr} {k v : Nat} (h : Tops T k) (hv : v < k) : askE T [⟨9, (v : Int), 1, 0⟩] (v : Int) 9 2 = 0 := by
  unfold askE
  rw [if_pos (by rw [h.n]; omega), if_pos (by simpa using (h.each v hv).2), if_pos ?_]
  unfold agL
  rw [List.map_eq_nil_iff, List.filter_eq_nil_iff]
  intro y hy
  rw [List.mem_singleton.1 hy]
  unfold hit
  simp only
  rw [stands_self (by rw [h.n]; exact hv)]
  simp
theorem ins_alone (v : Nat) : ins [⟨9, (v : Int), 1, 0⟩] ⟨9, (v : Int), 2, 0⟩ = [⟨9, (v : Int), 2, 0⟩] := by
  rw [ins_there (y := ⟨9, (v : Int), 1, 0⟩) (z := ⟨9, (v : Int), 2, 0⟩) rfl]
  rfl
theorem ask_kid {T : Tr} {k v : Nat} (h : Tops T k) (hk : k ≤ 8) (hv : v < k) : askE (T.begun (v : Int)) [⟨9, (v : Int), 2, 0⟩] (k : Int) 9 2 = 0 := by
  have hl := len_begun T (v : Int)
  have hnew := tx_begun_new (T := T) (p := (v : Int))
  rw [h.n] at hl hnew
  unfold askE
  rw [if_pos (by omega), if_pos (by rw [show (k : Int).toNat = k by simp, hnew]), if_pos ?_]
  unfold agL
  rw [List.map_eq_nil_iff, List.filter_eq_nil_iff]
  intro y hy
  rw [List.mem_singleton.1 hy]
  have hst : (T.begun (v : Int)).stands (k : Int) (v : Int) = true := by
    rw [stands_of (by omega)]
    rw [wayN_up (j := v) (by show ((T.begun (v : Int)).tx k).p = v; rw [hnew]) hv]
    exact List.mem_cons_of_mem _ (wayN_self _ _)
  unfold hit
  simp only
  rw [hst]
  simp
theorem ask_out {T : Tr} {k v u : Nat} (h : Tops T k) (hv : v < k) (hu : u < k) (hne : v ≠ u) : askE (T.begun (v : Int)) [⟨9, (v : Int), 2, 0⟩] (u : Int) 9 1 = 9 := by
  have hl := len_begun T (v : Int)
  rw [h.n] at hl
  have hun : u < T.l.length := by rw [h.n]; exact hu
  unfold askE
  rw [if_pos (by omega), if_pos (by rw [show (u : Int).toNat = u by simp, tx_begun hun]; exact (h.each u hu).2), if_neg ?_]
  intro hag
  have := agL_nil hag (y := ⟨9, (v : Int), 2, 0⟩) (by simp) rfl (by unfold exc Lk.s; simp; omega)
  have h2 := (stands_of (T := T.begun (v : Int)) (i := u) (of := v) (by omega)).1 this
  rw [way_begun hun, h.way hu] at h2
  exact absurd (by simpa using h2) hne
def oth (k v : Nat) : List Nat := (List.range k).filter fun j => decide (j ≠ v)
theorem oth_succ (j v : Nat) : oth (j + 1) v = if j = v then oth j v else oth j v ++ [j] := by
  unfold oth
  rw [List.range_succ, List.filter_append]
  by_cases h : j = v <;> simp [h]
theorem oth_len (k v : Nat) : (oth k v).length ≤ k := by unfold oth; have := List.length_filter_le (fun j => decide (j ≠ v)) (List.range k); simpa using this
theorem oth_mem {k v j : Nat} : j ∈ oth k v ↔ j < k ∧ j ≠ v := by unfold oth; simp
theorem range_one (v : Nat) : ∀ k, v < k → (List.range k).filter (fun j => decide (j = v)) = [v]
  | 0, h => absurd h (Nat.not_lt_zero _)
  | k + 1, h => by
    rw [List.range_succ, List.filter_append]
    rcases Nat.lt_or_ge v k with h1 | h1
    · rw [range_one v k h1]
      have : k ≠ v := by omega
      simp [this]
    · have e : k = v := by omega
      subst e
      have : (List.range k).filter (fun j => decide (j = k)) = [] := by
        rw [List.filter_eq_nil_iff]
        intro j hj
        have := List.mem_range.1 hj
        simp; omega
      rw [this]
      simp
theorem free_rd {k v : Nat} (hv : v < k) : freeL (rd k) (inL (oth k v)) = [⟨9, (v : Int), 1, 0⟩] := by
  unfold freeL rd
  rw [List.filter_map]
  have : (List.range k).filter ((fun y : Lk => !inL (oth k v) y.x) ∘ fun j : Nat => (⟨9, (j : Int), 1, 0⟩ : Lk)) = [v] := by
    rw [← range_one v k hv]
    refine List.filter_congr fun j hj => ?_
    have hjk := List.mem_range.1 hj
    have hh : inL (oth k v) (j : Int) = decide (j ≠ v) := by
      rw [Bool.eq_iff_iff, decide_eq_true_eq]
      unfold inL
      rw [List.any_eq_true]
      constructor
      · rintro ⟨i, hi, he⟩
        have e : i = j := by have := of_decide_eq_true he; omega
        rw [← e]; exact (oth_mem.1 hi).2
      · intro hne
        exact ⟨j, oth_mem.2 ⟨hjk, hne⟩, by simp⟩
    show (!inL (oth k v) (j : Int)) = decide (j = v)
    rw [hh]
    by_cases h : j = v <;> simp [h]
  rw [this]
  rfl

set_option maxHeartbeats 4000000 in
theorem share_walk (n0 wr0 : Int) (w : World) : Calls Try.prog 11 #[.int .i64 n0, .int .i64 wr0] w fun e w' => e = .returned (.bool true) ∧ Below w.heap.size w w' := by
  go_enter Try.func11, Try.ntmps11
  go_wp2_with fail
  refine (awake_any w).mono ?_
  rintro e w1 ⟨rfl, hb1⟩
  have HB1 := Lib.hid hb1
  clear hb1
  obtain ⟨y, hy, hlow⟩ := low n0 7 3 (by decide) (by omega)
  have hy8 : y < 8 := hy
  obtain ⟨k, hk⟩ : ∃ k : Nat, k = y + 1 := ⟨_, rfl⟩
  have hk2 : 1 + (y : Int) = (k : Int) := by omega
  have hk1 : 1 ≤ k ∧ k ≤ 8 := by omega
  obtain ⟨y3, hy3, hlow3⟩ := low wr0 7 3 (by decide) (by omega)
  have hy38 : y3 < 8 := hy3
  obtain ⟨v, hv⟩ : ∃ v : Nat, v = y3 % k := ⟨_, rfl⟩
  have hvk : v < k := by rw [hv]; exact Nat.mod_lt _ (by omega)
  have hmod : (y3 : Int) % (k : Int) = (v : Int) := by rw [hv]; simp
  have hmod2 : Int.tmod (y3 : Int) (k : Int) = (v : Int) := by rw [Int.tmod_eq_emod_of_nonneg (by omega)]; exact hmod
  have hvw : IntKind.i64.wrap (v : Int) = (v : Int) := by rw [IntKind.wrap_i64]; omega
  have hnz2 : ¬ (k : Int) = 0 := by omega
  have hnz3 : ¬ k = 0 := by omega
  clear hy hk hy3 hv
  obtain ⟨g, hg⟩ : ∃ g, g = w1.heap.size := ⟨_, rfl⟩
  go_upto_region 5 with fail
  rw [← hg]
  obtain ⟨w2, hw2⟩ : ∃ w2, w2 = w1.alloc (.cells #[.slice none 0 0, .int .i64 0] 26) := ⟨_, rfl⟩
  rw [← hw2]
  have HT0 := Lib.hid (show Tp w2 g none 0 0 0 ⟨[], 0⟩ from ⟨by rw [hw2, hg]; exact TB.new w1 none 0 0 0, .inl ⟨rfl, rfl⟩, rfl, rfl⟩)
  have HB2 := Lib.hid (show Below w.heap.size w w2 by rw [hw2]; exact HB1.out.trans ((below_new w1 _).mono HB1.out.size))
  have HGW := Lib.hid (show w.heap.size ≤ g by rw [hg]; exact HB1.out.size)
  clear hw2 hg hlow hy8 hk2 HB1 hlow3 hy38 hmod hmod2 hvw hnz2 hnz3
  go_wp2_with fail
  go_loopw [9] (fun iv wr => ∃ (i : Nat) (T : Tr) (A : Option Addr) (k1 : Nat), iv = .int .i64 (i : Int) ∧ i ≤ k ∧ Hid (Tops T i) ∧ Hid (Tp wr g A i k1 (i : Int) T) ∧ Hid (Below w.heap.size w wr)) (fun iv _ => k - (intOf iv).toNat)
  case atStart => exact ⟨0, ⟨[], 0⟩, none, 0, rfl, Nat.zero_le _, tops_nil, HT0.out, HB2.out⟩
  case round =>
    obtain ⟨i, T, A, k1, rfl, hi, HC, HT, HB⟩ := hrel
    clear HT0 HB2
    have c0 := HT.out.t.c0
    have c1 := HT.out.t.c1
    rcases Nat.lt_or_ge i k with hlt | hge
    · have HMY := Lib.hid (HC.out.may (by omega))
      have HC2 := Lib.hid (HC.out.begun (by omega))
      go_wp2_with fail
      refine (begin_any A T i k1 (i : Int) (-1) HT.out.hn HC.out.good HT.out.hc (by omega) wr HT.out.x).mono ?_
      rintro e w3 ⟨hb3, ⟨hm, A3, k3, nn, hnn, rfl, htx⟩ | ⟨_, _, hno, _⟩⟩
      · rw [show nn = i + 1 from by rw [hnn, HC.out.n], show (T.begun (-1)).c = ((i + 1 : Nat) : Int) from HC2.out.c]
        have HX3 := Lib.hid htx
        have HT3 := Lib.hid (HT.out.below hb3)
        have HB3 := Lib.hid (HB.out.trans (hb3.mono HB.out.size))
        clear hb3 htx hnn hm c0 c1
        obtain ⟨i2, hi2⟩ : ∃ i2, i2 = i + 1 := ⟨_, rfl⟩
        rw [← hi2]
        rw [← hi2] at HC2
        have HI2 := Lib.hid hi2
        clear hi2
        go_wp2_with (first | (refine wpList_store_tree rfl (.tmp 10) (.tmp 47) rfl rfl rfl (TB.new w3 none 0 0 0) ?_; intro w4 hu4 hg4; have q0 := hu4.c0; have q1 := hu4.c1; have HU4 := Lib.hid hu4; have HG4 := Lib.hid hg4; have ht4 := ((HT3.out.t.below (below_new w3 (.cells #[.slice none 0 0, .int .i64 0] 26))).far hg4 (fun e => by injection e with e; have := HT3.out.t.lt; omega)); have HT4 := Lib.hid ht4; clear hu4 hg4 ht4) | (refine wpList_store_tree rfl (.tmp 8) (.tmp 52) rfl rfl rfl HT4.out ?_; intro w5 hu5 hg5; have HU5 := Lib.hid hu5; have HG5 := Lib.hid hg5; clear hu5 hg5) | fail)
        have t4 : Below w3.heap.size w3 w4 := (below_new w3 _).grown HG4.out (by simp) (fun q e => by injection e with e; omega)
        have HT5 := Lib.hid (show Tp w5 g A3 i2 k3 (i2 : Int) (T.begun (-1)) from ⟨HU5.out, (HX3.out.below t4).box HT4.out HG5.out, HC2.out.n, HC2.out.c⟩)
        have HB5 := Lib.hid ((HB3.out.trans (t4.mono HB3.out.size)).grown HG5.out (Nat.le_trans HB3.out.size t4.size) (fun q e => by injection e with e; have := HGW.out; omega))
        clear t4
        go_roundw
        case rel => exact ⟨i2, T.begun (-1), A3, k3, by have := HI2.out; simp; omega, by have := HI2.out; omega, HC2.out, HT5.out, HB5.out⟩
        case measure => simp [intOf]; omega
      · exact absurd HMY.out hno
    · obtain rfl : i = k := by omega
      obtain ⟨h, hh⟩ : ∃ h, h = wr.heap.size := ⟨_, rfl⟩
      go_upto_region 13 with fail
      rw [← hh]
      obtain ⟨w3, hw3⟩ : ∃ w3, w3 = wr.alloc (.cells #[.slice none 0 0] 49) := ⟨_, rfl⟩
      rw [← hw3]
      have hbn : Below wr.heap.size wr w3 := by rw [hw3]; exact below_new _ _
      have HT3 := Lib.hid (HT.out.below hbn)
      have HL3 := Lib.hid (show Lp w3 h none 0 0 (rd 0) from ⟨by rw [hw3, hh]; exact KB.new wr none 0 0, .inl rfl, rfl, Nat.le_refl _, .inl rfl⟩)
      have HB3 := Lib.hid (HB.out.trans (hbn.mono HB.out.size))
      have HGH := Lib.hid (show g < h by rw [hh]; exact HT.out.t.lt)
      have HGW3 := Lib.hid (show w.heap.size ≤ h by have h1 := HGH.out; have h2 := HGW.out; omega)
      have HGT := Lib.hid HC.out.good
      clear hbn hw3 hh HT HB c0 c1 hge hi
      go_wp2_with fail
      go_loopw [14] (fun iv wr => ∃ (j : Nat) (B : Option Addr) (kb : Nat), iv = .int .i64 (j : Int) ∧ j ≤ i ∧ Hid (Lp wr h B j kb (rd j)) ∧ Hid (Tp wr g A i k1 (i : Int) T) ∧ Hid (Below w.heap.size w wr)) (fun iv _ => i - (intOf iv).toNat)
      case atStart => exact ⟨0, none, 0, rfl, Nat.zero_le _, HL3.out, HT3.out, HB3.out⟩
      case round =>
        obtain ⟨j, B, kb, rfl, hj, HL, HT, HB⟩ := hrel
        clear HL3 HT3 HB3
        have c0 := HT.out.t.c0
        have c1 := HT.out.t.c1
        have c2 := HL.out.t.c0
        rcases Nat.lt_or_ge j i with hjl | hjg
        · have HE := Lib.hid (ask_rd HC.out hjl)
          have HAK : Hid (Calls Try.prog 32 #[.agg #[.slice B j kb], .agg #[.slice A i k1, .int .i64 (i : Int)], .int .i64 (j : Int), .int .i64 9, .int .i64 1] wr fun e w' => ∃ A' n' k', e = .returned (.tuple #[.agg #[.slice A' n' k'], .int .i64 0]) ∧ OwnLk w' wr.heap.size (.slice A' n' k') (rd (j + 1)) ∧ Below wr.heap.size wr w') := by
            have h := ask_any B (rd j) j kb HL.out.hn HL.out.hk HL.out.s (lg_rd j (by omega)) A T i k1 (i : Int) HT.out.hn HGT.out (j : Int) 9 1 (by decide) (.inl rfl) wr HL.out.x HT.out.x
            unfold AskOut askL at h
            rw [HE.out, if_pos rfl, ins_rd] at h
            exact h
          go_wp2_with (first
            | (go_at_call 32; refine HAK.out.mono ?_; rintro e w4 ⟨B4, m4, kb4, rfl, ho4, hb4⟩; have HO4 := Lib.hid ho4; have HB4 := Lib.hid (HB.out.trans (hb4.mono HB.out.size)); have HL4 := Lib.hid (HL.out.below hb4); have HT4 := Lib.hid (HT.out.below hb4); clear ho4 hb4 c0 c1 c2)
            | (refine wpList_store_table rfl (.tmp 15) (.tmp 64) rfl rfl rfl (KB.new w4 none 0 0) ?_; intro w5 hk5 hg5; have hb5 := (below_new w4 (.cells #[.slice none 0 0] 49)).grown hg5 (by simp) (fun q e => by injection e with e; omega); have q0 := hk5.c0; have HL5 := Lib.hid (HL4.out.below hb5); have HT5 := Lib.hid (HT4.out.below hb5); have HB5 := Lib.hid (HB4.out.trans (hb5.mono HB4.out.size)); have HP5 := Lib.hid (HO4.out.below hb5).parts; clear hk5 hg5 hb5)
            | (refine wpList_store_table rfl (.tmp 13) (.tmp 68) rfl rfl rfl HL5.out.t ?_; intro w6 hk6 hg6; have HK6 := Lib.hid hk6; have HG6 := Lib.hid hg6; clear hk6 hg6)
            | fail)
          have hm4 : m4 = j + 1 := by have := HP5.out.1; rw [rd_len] at this; exact this.symm
          subst hm4
          have HL6 := Lib.hid (show Lp w6 h B4 (j + 1) kb4 (rd (j + 1)) from ⟨HK6.out, HP5.out.2.2.2.boxK HL5.out.t HG6.out, HP5.out.1, HP5.out.2.1, HP5.out.2.2.1⟩)
          have HT6 := Lib.hid (HT5.out.farK HL5.out.t HG6.out (by have h1 := HGH.out; omega))
          have HB6 := Lib.hid (HB5.out.grown HG6.out HB5.out.size (fun q e => by injection e with e; have h1 := HGW3.out; omega))
          go_roundw
          case rel => exact ⟨j + 1, B4, kb4, by simp, by omega, HL6.out, HT6.out, HB6.out⟩
          case measure => simp [intOf]; omega
        · obtain rfl : j = i := by omega
          obtain ⟨E1, hE1⟩ : ∃ E1, E1 = askE T (rd j) (v : Int) 9 2 := ⟨_, rfl⟩
          have HE1 := Lib.hid (show E1 = if j = 1 then 0 else 9 by rw [hE1]; exact ask_wr HC.out hvk)
          have HAK : Hid (Calls Try.prog 32 #[.agg #[.slice B j kb], .agg #[.slice A j k1, .int .i64 (j : Int)], .int .i64 (v : Int), .int .i64 9, .int .i64 2] wr fun e w' => ∃ A' n' k', e = .returned (.tuple #[.agg #[.slice A' n' k'], .int .i64 E1]) ∧ Below wr.heap.size wr w') := by
            refine (ask_any B (rd j) j kb HL.out.hn HL.out.hk HL.out.s (lg_rd j (by omega)) A T j k1 (j : Int) HT.out.hn HGT.out (v : Int) 9 2 (by decide) (.inr rfl) wr HL.out.x HT.out.x).mono ?_
            rintro e w' ⟨A', n', k', rfl, _, hb⟩
            exact ⟨A', n', k', by rw [hE1], hb⟩
          clear hE1
          go_upto_region 22 with (first
            | (go_at_call 32; refine HAK.out.mono ?_; rintro e w4 ⟨B4, m4, kb4, rfl, hb4⟩; have HB4 := Lib.hid (HB.out.trans (hb4.mono HB.out.size)); have HL4 := Lib.hid (HL.out.below hb4); have HT4 := Lib.hid (HT.out.below hb4); clear hb4 c0 c1 c2)
            | (refine wpList_store_table rfl (.tmp 17) (.tmp 74) rfl rfl rfl (KB.new w4 none 0 0) ?_; intro w5 hk5 hg5; have hb5 := (below_new w4 (.cells #[.slice none 0 0] 49)).grown hg5 (by simp) (fun q e => by injection e with e; omega); have HL5 := Lib.hid (HL4.out.below hb5); have HT5 := Lib.hid (HT4.out.below hb5); have HB5 := Lib.hid (HB4.out.trans (hb5.mono HB4.out.size)); clear hk5 hg5 hb5)
            | fail)
          clear HL4 HT4 HB4 HL HT HB
          go_wp2_with fail
          go_loopw [19, 20] (fun lv iv wr => ∃ (r : Nat), iv = .int .i64 (r : Int) ∧ r ≤ j ∧ Hid (OwnId wr w5.heap.size lv (oth r v)) ∧ Hid (Below w5.heap.size w5 wr)) (fun _ iv _ => j - (intOf iv).toNat)
          case atStart => exact ⟨0, rfl, Nat.zero_le _, OwnId.nil _ _, Below.refl _ _⟩
          case round =>
            obtain ⟨r, rfl, hr, HO, HR⟩ := hrel
            obtain ⟨wq, hwq⟩ : ∃ wq, wq = wr := ⟨_, rfl⟩
            subst hwq
            rcases Nat.lt_or_ge r j with hrl | hrg
            · by_cases hrv : r = v
              · have hbn : ((r : Int) != (v : Int)) = false := by rw [hrv]; simp
                have hbn2 : (r != v) = false := by rw [hrv]; simp
                have HRV := Lib.hid hrv
                clear hrv
                go_wp2
                go_roundw
                case rel => exact ⟨r + 1, by simp, by omega, by rw [oth_succ, if_pos HRV.out]; exact HO.out, HR.out⟩
                case measure => simp [intOf]; omega
              · have hbn : ((r : Int) != (v : Int)) = true := by simp; omega
                have hbn2 : (r != v) = true := by simpa using hrv
                have HRV := Lib.hid hrv
                clear hrv
                have HOL := Lib.hid (oth_len r v)
                go_wp2_with (first
                  | (at_builtin; refine wpList_append_id rfl _ _ rfl w5.heap.size u19 (oth r v) rfl (HO.out.below (below_new _ _)) _ r rfl ((cell_new wq _ _ 0).trans rfl) (by have := HOL.out; omega) (by have h1 := HR.out.size; simp; omega) ?_; intro v7 w7 hown7 hg7 hat7; have HO7 := Lib.hid hown7; have HG7 := Lib.hid hg7; clear hown7 hg7 hat7)
                  | fail)
                have HR7 := Lib.hid ((HR.out.alloc HR.out.size (.cells #[.int .i64 (r : Int)] 3)).grown HG7.out (by have := HR.out.size; simp; omega) (fun q eq => (HO.out.lt q eq).1))
                go_roundw
                case rel => exact ⟨r + 1, by simp, by omega, by rw [oth_succ, if_neg HRV.out]; exact HO7.out, HR7.out⟩
                case measure => simp [intOf]; omega
            · obtain rfl : r = j := by omega
              obtain ⟨A8, c8, rfl, hi8, _⟩ := HO.out.form
              have HI8 := Lib.hid hi8
              have HL8 := Lib.hid (HL5.out.below HR.out)
              have HT8 := Lib.hid (HT5.out.below HR.out)
              have HB8 := Lib.hid (HB5.out.trans (HR.out.mono HB5.out.size))
              have HOL := Lib.hid (oth_len r v)
              have HFR := Lib.hid (free_any B (rd r) r kb HL8.out.hn HL8.out.s (lg_rd r (by omega)) A8 (oth r v) _ c8 rfl (by have := HOL.out; omega) (fun x hx => by have := (oth_mem.1 hx).1; omega) wq HL8.out.x HI8.out)
              rw [free_rd hvk] at HFR
              have c2 := HL8.out.t.c0
              clear hi8 HO HR
              go_upto_region 28 with (first
                | (go_at_call 31; refine HFR.out.mono ?_; rintro e w9 ⟨B9, m9, kb9, rfl, ho9, hb9⟩; have HO9 := Lib.hid ho9; have HB9 := Lib.hid (HB8.out.trans (hb9.mono HB8.out.size)); have HL9 := Lib.hid (HL8.out.below hb9); have HT9 := Lib.hid (HT8.out.below hb9); clear ho9 hb9 c2)
                | (refine wpList_store_table rfl (.tmp 13) (.tmp 90) rfl rfl rfl HL9.out.t ?_; intro w10 hk10 hg10; have HK10 := Lib.hid hk10; have HG10 := Lib.hid hg10; clear hk10 hg10)
                | fail)
              have HL10 := Lib.hid (show Lp w10 h B9 m9 kb9 [⟨9, (v : Int), 1, 0⟩] from ⟨HK10.out, HO9.out.parts.2.2.2.boxK HL9.out.t HG10.out, HO9.out.parts.1, HO9.out.parts.2.1, HO9.out.parts.2.2.1⟩)
              have HT10 := Lib.hid (HT9.out.farK HL9.out.t HG10.out (by have h1 := HGH.out; omega))
              have HB10 := Lib.hid (HB9.out.grown HG10.out HB9.out.size (fun q e => by injection e with e; have h1 := HGW3.out; omega))
              clear HL8 HT8 HB8 HL9 HT9 HB9 HK10 HG10 HO9 HFR
              have c0 := HT10.out.t.c0
              have c1 := HT10.out.t.c1
              have c2 := HL10.out.t.c0
              have hlg1 : LG [(⟨9, (v : Int), 1, 0⟩ : Lk)] := LG.cons (may9 v (by omega) 1 (.inl rfl)) lg_nil (by simp)
              have HAK2 : Hid (Calls Try.prog 32 #[.agg #[.slice B9 m9 kb9], .agg #[.slice A r k1, .int .i64 (r : Int)], .int .i64 (v : Int), .int .i64 9, .int .i64 2] w10 fun e w' => ∃ A' n' k', e = .returned (.tuple #[.agg #[.slice A' n' k'], .int .i64 0]) ∧ OwnLk w' w10.heap.size (.slice A' n' k') [⟨9, (v : Int), 2, 0⟩] ∧ Below w10.heap.size w10 w') := by
                have h := ask_any B9 [⟨9, (v : Int), 1, 0⟩] m9 kb9 HL10.out.hn HL10.out.hk HL10.out.s hlg1 A T r k1 (r : Int) HT10.out.hn HGT.out (v : Int) 9 2 (by decide) (.inr rfl) w10 HL10.out.x HT10.out.x
                unfold AskOut askL at h
                rw [ask_alone HC.out hvk, if_pos rfl, ins_alone] at h
                exact h
              clear hlg1
              go_upto_region 29 with (first
                | (go_at_call 32; refine HAK2.out.mono ?_; rintro e w11 ⟨B11, m11, kb11, rfl, ho11, hb11⟩; have HO11 := Lib.hid ho11; have HB11 := Lib.hid (HB10.out.trans (hb11.mono HB10.out.size)); have HT11 := Lib.hid (HT10.out.below hb11); clear ho11 hb11 c0 c1 c2)
                | (refine wpList_store_table rfl (.tmp 21) (.tmp 96) rfl rfl rfl (KB.new w11 none 0 0) ?_; intro w12 hk12 hg12; have HK12 := Lib.hid hk12; have HG12 := Lib.hid hg12; clear hk12 hg12)
                | fail)
              obtain ⟨h12, hh12⟩ : ∃ h12, h12 = w11.heap.size := ⟨_, rfl⟩
              rw [← hh12]
              have t12 := (below_new w11 (.cells #[.slice none 0 0] 49)).grown HG12.out (by simp) (fun q e => by injection e with e; omega)
              have HL12 := Lib.hid (show Lp w12 h12 B11 m11 kb11 [⟨9, (v : Int), 2, 0⟩] from ⟨by rw [hh12]; exact HK12.out, (HO11.out.below t12).parts.2.2.2, HO11.out.parts.1, HO11.out.parts.2.1, HO11.out.parts.2.2.1⟩)
              have HT12 := Lib.hid (HT11.out.below t12)
              have HB12 := Lib.hid (HB11.out.trans (t12.mono HB11.out.size))
              clear t12 hh12 HL10 HT10 HB10 HT11 HB11 HK12 HG12 HO11 HAK2
              have c0 := HT12.out.t.c0
              have c1 := HT12.out.t.c1
              have HMI := Lib.hid (HC.out.mayIn hk1.2 hvk)
              have HLB := Lib.hid (show (T.begun (v : Int)).l.length = r + 1 by rw [len_begun, HC.out.n])
              have HCB := Lib.hid (show (T.begun (v : Int)).c = (r : Int) + 1 by show T.c + 1 = _; rw [HC.out.c])
              go_wp2_with fail
              refine (begin_any A T r k1 (r : Int) (v : Int) HT12.out.hn HC.out.good HT12.out.hc (by omega) w12 HT12.out.x).mono ?_
              rintro e w13 ⟨hb13, ⟨hm, A13, k13, nn, hnn, rfl, htx⟩ | ⟨_, _, hno, _⟩⟩
              · obtain ⟨r2, hr2⟩ : ∃ r2, r2 = r + 1 := ⟨_, rfl⟩
                rw [show nn = r2 from by rw [hnn, HC.out.n, hr2], show (T.begun (v : Int)).c = (r2 : Int) from by rw [HCB.out, hr2]; omega, show T.l.length = r from HC.out.n]
                have HX13 := Lib.hid htx
                have HB13 := Lib.hid (HB12.out.trans (hb13.mono HB12.out.size))
                have HL13 := Lib.hid (HL12.out.below hb13)
                have HR2 := Lib.hid hr2
                have HLB2 := Lib.hid (show (T.begun (v : Int)).l.length = r2 by rw [HLB.out, hr2])
                have HCB2 := Lib.hid (show (T.begun (v : Int)).c = (r2 : Int) by rw [HCB.out, hr2]; omega)
                have HGB := Lib.hid (HGT.out.begun hm)
                clear hb13 htx hm hnn hr2 c0 c1
                go_upto_region 30 with (first
                  | (refine wpList_store_tree rfl (.tmp 23) (.tmp 102) rfl rfl rfl (TB.new w13 none 0 0 0) ?_; intro w14 hu14 hg14; have HU14 := Lib.hid hu14; have HG14 := Lib.hid hg14; clear hu14 hg14)
                  | fail)
                obtain ⟨h14, hh14⟩ : ∃ h14, h14 = w13.heap.size := ⟨_, rfl⟩
                rw [← hh14]
                have t14 := (below_new w13 (.cells #[.slice none 0 0, .int .i64 0] 26)).grown HG14.out (by simp) (fun q e => by injection e with e; omega)
                have HT14 := Lib.hid (show Tp w14 h14 A13 r2 k13 (r2 : Int) (T.begun (v : Int)) from ⟨by rw [hh14]; exact HU14.out, HX13.out.below t14, HLB2.out, HCB2.out⟩)
                have HL14 := Lib.hid (HL13.out.below t14)
                have HB14 := Lib.hid (HB13.out.trans (t14.mono HB13.out.size))
                clear t14 hh14 HU14 HG14 HX13 HL13 HB13 HL12 HT12 HB12
                have c0 := HT14.out.t.c0
                have c1 := HT14.out.t.c1
                have c2 := HL14.out.t.c0
                have HLG2 := Lib.hid (show LG [(⟨9, (v : Int), 2, 0⟩ : Lk)] from LG.cons (may9 v (by omega) 2 (.inr rfl)) lg_nil (by simp))
                have HAK3 : Hid (Calls Try.prog 32 #[.agg #[.slice B11 m11 kb11], .agg #[.slice A13 r2 k13, .int .i64 (r2 : Int)], .int .i64 (r : Int), .int .i64 9, .int .i64 2] w14 fun e w' => ∃ A' n' k', e = .returned (.tuple #[.agg #[.slice A' n' k'], .int .i64 0]) ∧ Below w14.heap.size w14 w') := by
                  refine (ask_any B11 [⟨9, (v : Int), 2, 0⟩] m11 kb11 HL14.out.hn HL14.out.hk HL14.out.s HLG2.out A13 (T.begun (v : Int)) r2 k13 (r2 : Int) HT14.out.hn HGB.out (r : Int) 9 2 (by decide) (.inr rfl) w14 HL14.out.x HT14.out.x).mono ?_
                  rintro e w' ⟨A', n', k', rfl, _, hb⟩
                  exact ⟨A', n', k', by rw [ask_kid HC.out hk1.2 hvk], hb⟩
                go_upto_region 31 with (first
                  | (go_at_call 32; refine HAK3.out.mono ?_; rintro e w15 ⟨B15, m15, kb15, rfl, hb15⟩; have HB15 := Lib.hid (HB14.out.trans (hb15.mono HB14.out.size)); have HT15 := Lib.hid (HT14.out.below hb15); have HL15 := Lib.hid (HL14.out.below hb15); clear hb15 c0 c1 c2)
                  | (refine wpList_store_table rfl (.tmp 26) (.tmp 110) rfl rfl rfl (KB.new w15 none 0 0) ?_; intro w16 hk16 hg16; have HK16 := Lib.hid hk16; have HG16 := Lib.hid hg16; clear hk16 hg16)
                  | fail)
                have t16 := (below_new w15 (.cells #[.slice none 0 0] 49)).grown HG16.out (by simp) (fun q e => by injection e with e; omega)
                obtain ⟨wv, hwv⟩ : ∃ wv, wv = w16 := ⟨_, rfl⟩
                subst hwv
                have HT16 := Lib.hid (HT15.out.below t16)
                have HL16 := Lib.hid (HL15.out.below t16)
                have HB16 := Lib.hid (HB15.out.trans (t16.mono HB15.out.size))
                clear t16 HT15 HL15 HB15 HT14 HL14 HB14 HK16 HG16 HAK3
                obtain ⟨u, hu⟩ : ∃ u : Nat, u = (v + 1) % r := ⟨_, rfl⟩
                have hur : u < r := by rw [hu]; exact Nat.mod_lt _ (by omega)
                have hmod : ((v : Int) + 1) % (r : Int) = (u : Int) := by rw [hu]; simp
                have hmod2 : Int.tmod ((v : Int) + 1) (r : Int) = (u : Int) := by rw [Int.tmod_eq_emod_of_nonneg (by omega)]; exact hmod
                have hw1 : IntKind.i64.wrap ((v : Int) + 1) = (v : Int) + 1 := by rw [IntKind.wrap_i64]; omega
                have huw : IntKind.i64.wrap (u : Int) = (u : Int) := by rw [IntKind.wrap_i64]; omega
                have hnz2 : ¬ (r : Int) = 0 := by omega
                have hnz3 : ¬ r = 0 := by omega
                have hnz4 : ((r : Int) == 0) = false := by simp; omega
                have HUV := Lib.hid (show r ≠ 1 → v ≠ u from fun h1 h2 => by
                  rw [hu] at h2
                  rcases Nat.lt_or_ge (v + 1) r with h3 | h3
                  · rw [Nat.mod_eq_of_lt h3] at h2; omega
                  · have : v + 1 = r := by omega
                    rw [this, Nat.mod_self] at h2; omega)
                have HUR := Lib.hid hur
                obtain ⟨E3, hE3⟩ : ∃ E3, E3 = askE (T.begun (v : Int)) [⟨9, (v : Int), 2, 0⟩] (u : Int) 9 1 := ⟨_, rfl⟩
                have HE3 := Lib.hid (show r ≠ 1 → E3 = 9 from fun h1 => by rw [hE3]; exact ask_out HC.out hvk HUR.out (HUV.out h1))
                have HAK : Hid (∀ V, Since wv V → Calls Try.prog 32 #[.agg #[.slice B11 m11 kb11], .agg #[.slice A13 r2 k13, .int .i64 (r2 : Int)], .int .i64 (u : Int), .int .i64 9, .int .i64 1] V fun e w' => ∃ A' n' k', e = .returned (.tuple #[.agg #[.slice A' n' k'], .int .i64 E3]) ∧ Below V.heap.size V w') := fun V hV => by
                  refine (ask_any B11 [⟨9, (v : Int), 2, 0⟩] m11 kb11 HL16.out.hn HL16.out.hk HL16.out.s HLG2.out A13 (T.begun (v : Int)) r2 k13 (r2 : Int) HT16.out.hn HGB.out (u : Int) 9 1 (by decide) (.inl rfl) V (HL16.out.x.below hV) (HT16.out.x.below hV)).mono ?_
                  rintro e w' ⟨A', n', k', rfl, _, hb⟩
                  exact ⟨A', n', k', by rw [hE3], hb⟩
                have s0 : ∀ V, Since wv V → V.cell? ⟨h14, 0, none⟩ = some (.slice A13 r2 k13) := fun V hV => (HT16.out.t.below hV).c0
                have s1 : ∀ V, Since wv V → V.cell? ⟨h14, 1, none⟩ = some (.int .i64 (r2 : Int)) := fun V hV => (HT16.out.t.below hV).c1
                have s2 : ∀ V, Since wv V → V.cell? ⟨h12, 0, none⟩ = some (.slice B11 m11 kb11) := fun V hV => (HL16.out.t.below hV).c0
                clear hu hur hE3
                go_cut [28, 29] from 112 to 121 (fun pv ev wc => ev = .int .i64 E3 ∧ Hid (Since wv wc))
                case first =>
                  refine wp_region_since (by kernel_rfl) ?_
                  have hS : Since wv (World.drew wv) := (Below.refl _ _).drew
                  refine wpAnyH_take (i := 0) (oi := ⟨some 113, _, _, _, _, _⟩) (v := ?_) rfl (by kernel_rfl) (by kernel_rfl) (by kernel_rfl) (fun _ _ _ h => h) (Or.inl ⟨by rfl, ?_⟩) hS ?_
                  rotate_left
                  · intro W hW; go_simp; with_reducible rfl
                  try simp only [Act.put, List.setIfInBounds_toArray, List.set_cons_zero, List.set_cons_succ]
                  refine wpAnyH_take (i := 1) (oi := ⟨some 114, _, _, _, _, _⟩) (v := ?_) rfl (by kernel_rfl) (by kernel_rfl) (by kernel_rfl) (fun _ _ _ h => h) (Or.inl ⟨by rfl, ?_⟩) hS ?_
                  rotate_left
                  · intro W hW; go_simp; with_reducible rfl
                  try simp only [Act.put, List.setIfInBounds_toArray, List.set_cons_zero, List.set_cons_succ]
                  refine wpAnyH_take (i := 2) (oi := ⟨some 115, _, _, _, _, _⟩) (v := ?_) rfl (by kernel_rfl) (by kernel_rfl) (by kernel_rfl) (fun _ _ _ h => h) (Or.inl ⟨by rfl, ?_⟩) hS ?_
                  rotate_left
                  · intro W hW; go_simp; with_reducible rfl
                  try simp only [Act.put, List.setIfInBounds_toArray, List.set_cons_zero, List.set_cons_succ]
                  refine wpAnyH_take (i := 3) (oi := ⟨some 116, _, _, _, _, _⟩) (v := ?_) rfl (by kernel_rfl) (by kernel_rfl) (by kernel_rfl) (fun _ _ _ h => h) (Or.inl ⟨by rfl, ?_⟩) hS ?_
                  rotate_left
                  · intro W hW; go_simp; with_reducible rfl
                  try simp only [Act.put, List.setIfInBounds_toArray, List.set_cons_zero, List.set_cons_succ]
                  refine wpAnyH_take (i := 4) (oi := ⟨some 117, _, _, _, _, _⟩) (v := ?_) rfl (by kernel_rfl) (by kernel_rfl) (by kernel_rfl) (fun _ _ _ h => h) (Or.inl ⟨by rfl, ?_⟩) hS ?_
                  rotate_left
                  · intro W hW; go_simp; with_reducible rfl
                  try simp only [Act.put, List.setIfInBounds_toArray, List.set_cons_zero, List.set_cons_succ]
                  refine wpAnyH_take (i := 5) (oi := ⟨some 118, _, _, _, _, _⟩) (v := ?_) rfl (by kernel_rfl) (by kernel_rfl) (by kernel_rfl) (fun _ _ _ h => h) (Or.inl ⟨by rfl, ?_⟩) hS ?_
                  rotate_left
                  · intro W hW; go_simp; with_reducible rfl
                  try simp only [Act.put, List.setIfInBounds_toArray, List.set_cons_zero, List.set_cons_succ]
                  refine wpAnyH_ready (rs := [6, 10]) (by kernel_rfl) (by simp) ?_
                  refine AllReadyH.cons (o := ⟨some 119, _, _, _, _, _⟩) rfl (fun Kr hKr => ?_) (AllReadyH.cons (o := ⟨some 28, _, _, _, _, _⟩) rfl (fun Kr hKr => ?_) AllReadyH.nil)
                  · skip
                    -- operation 6: a call
                    go_simp
                    refine (HAK.out _ hS).mono ?_
                    rintro e w6 ⟨B6, m6, kb6, rfl, hb6⟩
                    show Kr _ _
                    refine hKr.out _ _ ?_ (fun _ => ?_)
                    · exact since_trans hS hb6
                    clear hKr Kr
                    replace hS : Since wv w6 := since_trans hS hb6
                    try simp only [Act.put, List.setIfInBounds_toArray, List.set_cons_zero, List.set_cons_succ]
                    refine wpAnyH_take (i := 7) (oi := ⟨some 112, _, _, _, _, _⟩) (v := ?_) rfl (by kernel_rfl) (by kernel_rfl) (by kernel_rfl) (fun _ _ _ h => h) (Or.inl ⟨by rfl, ?_⟩) hS ?_
                    rotate_left
                    · intro W hW; go_simp; with_reducible rfl
                    try simp only [Act.put, List.setIfInBounds_toArray, List.set_cons_zero, List.set_cons_succ]
                    refine wpAnyH_take (i := 8) (oi := ⟨some 120, _, _, _, _, _⟩) (v := ?_) rfl (by kernel_rfl) (by kernel_rfl) (by kernel_rfl) (fun _ _ _ h => h) (Or.inl ⟨by rfl, ?_⟩) hS ?_
                    rotate_left
                    · intro W hW; go_simp; with_reducible rfl
                    try simp only [Act.put, List.setIfInBounds_toArray, List.set_cons_zero, List.set_cons_succ]
                    refine wpAnyH_take (i := 9) (oi := ⟨some 121, _, _, _, _, _⟩) (v := ?_) rfl (by kernel_rfl) (by kernel_rfl) (by kernel_rfl) (fun _ _ _ h => h) (Or.inl ⟨by rfl, ?_⟩) hS ?_
                    rotate_left
                    · intro W hW; go_simp; with_reducible rfl
                    try simp only [Act.put, List.setIfInBounds_toArray, List.set_cons_zero, List.set_cons_succ]
                    refine wpAnyH_ready (rs := [10]) (by kernel_rfl) (by simp) ?_
                    refine AllReadyH.cons (o := ⟨some 28, _, _, _, _, _⟩) rfl (fun Kr hKr => ?_) AllReadyH.nil
                    -- operation 10: a step
                    refine wp_alloc_table rfl ?_
                    intro w20 g20 hg20 hk20 hb20
                    have hG20 : wv.heap.size ≤ g20 := Nat.le_trans (Below.size hS) hg20
                    show Kr _ _
                    refine hKr.out _ _ ?_ (fun _ => ?_)
                    · exact since_trans hS hb20
                    clear hKr Kr
                    replace hS : Since wv w20 := since_trans hS hb20
                    try simp only [Act.put, List.setIfInBounds_toArray, List.set_cons_zero, List.set_cons_succ]
                    refine wpAnyH_ready (rs := [11]) (by kernel_rfl) (by simp) ?_
                    refine AllReadyH.cons (o := ⟨none, _, _, _, _, _⟩) rfl (fun Kr hKr => ?_) AllReadyH.nil
                    -- operation 11: a step
                    refine wp_store_table (.tmp 28) (.tmp 120) rfl rfl rfl (by first | exact hk20 | exact KB.below hk20 hb6) ?_
                    intro w7 hk7 hg7
                    show Kr _ _
                    refine hKr.out _ _ ?_ (fun _ => ?_)
                    · exact Below.grown hS hg7 hS.size (fun q e => by injection e with e; omega)
                    clear hKr Kr
                    replace hS : Since wv w7 := Below.grown hS hg7 hS.size (fun q e => by injection e with e; omega)
                    try simp only [Act.put, List.setIfInBounds_toArray, List.set_cons_zero, List.set_cons_succ]
                    refine wpAnyH_take (i := 12) (oi := ⟨some 29, _, _, _, _, _⟩) (v := ?_) rfl (by kernel_rfl) (by kernel_rfl) (by kernel_rfl) (fun _ _ _ h => h) (Or.inl ⟨by rfl, ?_⟩) hS ?_
                    rotate_left
                    · intro W hW; go_simp; with_reducible rfl
                    try simp only [Act.put, List.setIfInBounds_toArray, List.set_cons_zero, List.set_cons_succ]
                    refine wpAnyH_done (by kernel_rfl) ?_ _
                    go_wp2_with fail
                    go_meet
                    case rel => exact ⟨rfl, hS⟩
                  · skip
                    -- operation 10: a step
                    refine wp_alloc_table rfl ?_
                    intro w20 g20 hg20 hk20 hb20
                    have hG20 : wv.heap.size ≤ g20 := Nat.le_trans (Below.size hS) hg20
                    show Kr _ _
                    refine hKr.out _ _ ?_ (fun _ => ?_)
                    · exact since_trans hS hb20
                    clear hKr Kr
                    replace hS : Since wv w20 := since_trans hS hb20
                    try simp only [Act.put, List.setIfInBounds_toArray, List.set_cons_zero, List.set_cons_succ]
                    refine wpAnyH_ready (rs := [6]) (by kernel_rfl) (by simp) ?_
                    refine AllReadyH.cons (o := ⟨some 119, _, _, _, _, _⟩) rfl (fun Kr hKr => ?_) AllReadyH.nil
                    -- operation 6: a call
                    go_simp
                    refine (HAK.out _ hS).mono ?_
                    rintro e w6 ⟨B6, m6, kb6, rfl, hb6⟩
                    show Kr _ _
                    refine hKr.out _ _ ?_ (fun _ => ?_)
                    · exact since_trans hS hb6
                    clear hKr Kr
                    replace hS : Since wv w6 := since_trans hS hb6
                    try simp only [Act.put, List.setIfInBounds_toArray, List.set_cons_zero, List.set_cons_succ]
                    refine wpAnyH_take (i := 7) (oi := ⟨some 112, _, _, _, _, _⟩) (v := ?_) rfl (by kernel_rfl) (by kernel_rfl) (by kernel_rfl) (fun _ _ _ h => h) (Or.inl ⟨by rfl, ?_⟩) hS ?_
                    rotate_left
                    · intro W hW; go_simp; with_reducible rfl
                    try simp only [Act.put, List.setIfInBounds_toArray, List.set_cons_zero, List.set_cons_succ]
                    refine wpAnyH_take (i := 8) (oi := ⟨some 120, _, _, _, _, _⟩) (v := ?_) rfl (by kernel_rfl) (by kernel_rfl) (by kernel_rfl) (fun _ _ _ h => h) (Or.inl ⟨by rfl, ?_⟩) hS ?_
                    rotate_left
                    · intro W hW; go_simp; with_reducible rfl
                    try simp only [Act.put, List.setIfInBounds_toArray, List.set_cons_zero, List.set_cons_succ]
                    refine wpAnyH_take (i := 9) (oi := ⟨some 121, _, _, _, _, _⟩) (v := ?_) rfl (by kernel_rfl) (by kernel_rfl) (by kernel_rfl) (fun _ _ _ h => h) (Or.inl ⟨by rfl, ?_⟩) hS ?_
                    rotate_left
                    · intro W hW; go_simp; with_reducible rfl
                    try simp only [Act.put, List.setIfInBounds_toArray, List.set_cons_zero, List.set_cons_succ]
                    refine wpAnyH_ready (rs := [11]) (by kernel_rfl) (by simp) ?_
                    refine AllReadyH.cons (o := ⟨none, _, _, _, _, _⟩) rfl (fun Kr hKr => ?_) AllReadyH.nil
                    -- operation 11: a step
                    refine wp_store_table (.tmp 28) (.tmp 120) rfl rfl rfl (by first | exact hk20 | exact KB.below hk20 hb6) ?_
                    intro w7 hk7 hg7
                    show Kr _ _
                    refine hKr.out _ _ ?_ (fun _ => ?_)
                    · exact Below.grown hS hg7 hS.size (fun q e => by injection e with e; omega)
                    clear hKr Kr
                    replace hS : Since wv w7 := Below.grown hS hg7 hS.size (fun q e => by injection e with e; omega)
                    try simp only [Act.put, List.setIfInBounds_toArray, List.set_cons_zero, List.set_cons_succ]
                    refine wpAnyH_take (i := 12) (oi := ⟨some 29, _, _, _, _, _⟩) (v := ?_) rfl (by kernel_rfl) (by kernel_rfl) (by kernel_rfl) (fun _ _ _ h => h) (Or.inl ⟨by rfl, ?_⟩) hS ?_
                    rotate_left
                    · intro W hW; go_simp; with_reducible rfl
                    try simp only [Act.put, List.setIfInBounds_toArray, List.set_cons_zero, List.set_cons_succ]
                    refine wpAnyH_done (by kernel_rfl) ?_ _
                    go_wp2_with fail
                    go_meet
                    case rel => exact ⟨rfl, hS⟩
                obtain ⟨rfl, HS⟩ := hcut
                have h9 := HB16.out.trans (Below.mono HS.out HB16.out.size)
                have H9 := Lib.hid h9
                clear s0 s1 s2 hmod hmod2 hw1 huw hnz2 hnz3 hnz4 h9
                by_cases h1 : r = 1
                · have e1 : (E1 == 0) = true := by rw [HE1.out, if_pos h1]; rfl
                  have e2 : ((r : Int) == 1) = true := by rw [h1]; rfl
                  have e3 : (r == 1) = true := by rw [h1]; rfl
                  clear h1
                  go_wp2
                  go_ret
                  exact ⟨rfl, H9.out⟩
                · have e1 : (E1 == 0) = false := by rw [HE1.out, if_neg h1]; rfl
                  have e2 : ((r : Int) == 1) = false := by simp; omega
                  have e3 : (r == 1) = false := by simpa using h1
                  have e4 : (E3 == 9) = true := by rw [HE3.out h1]; rfl
                  clear h1
                  go_wp2
                  go_ret
                  exact ⟨rfl, H9.out⟩
              · exact absurd HMI.out hno
end Go.Proofs.Ytohnfjneghbceaa
