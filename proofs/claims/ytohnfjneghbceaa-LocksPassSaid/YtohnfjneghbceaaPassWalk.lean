/-
  LocksPass's walk.
-/
import Derived.Test.YtohnfjneghbceaaApartWalk
namespace Go.Proofs.Ytohnfjneghbceaa
set_option maxRecDepth 100000
set_option linter.unusedVariables false
set_option linter.unusedSimpArgs false
open Go.RowKit Go.Shelf

/-- numbers lie there -/
structure Is (W : World) (a : Option Addr) (len : Nat) (f : Nat → Int) : Prop where
  bd : ∀ i, -9223372036854775808 ≤ f i ∧ f i ≤ 9223372036854775807
  rd : len = 0 ∨ ∃ b o, a = some ⟨b, o, none⟩ ∧ b < W.heap.size ∧ ∀ i, i < len → W.cell? ⟨b, o + i, none⟩ = some (.int .i64 (f i))

/-- each in the one before -/
structure Chain (T : Tr) (i : Nat) : Prop where
  good : Good T
  n : T.l.length = i
  c : T.c = i
  each : ∀ j, j < i → (T.tx j).p = (j : Int) - 1 ∧ (T.tx j).s = 1
theorem chain_nil : Chain ⟨[], 0⟩ 0 := ⟨good_nil, rfl, rfl, fun j h => absurd h (Nat.not_lt_zero _)⟩
theorem Chain.way {T : Tr} {i : Nat} (h : Chain T i) : ∀ j, j < i → (wayN T.par j).length = j + 1
  | 0, hj => by rw [wayN_top (by show (T.tx 0).p < 0; rw [(h.each 0 hj).1]; decide)]; rfl
  | j + 1, hj => by
    rw [wayN_up (j := j) (by show (T.tx (j + 1)).p = j; rw [(h.each (j + 1) hj).1]; omega) (by omega), List.length_cons, h.way j (by omega)]
theorem Chain.may {T : Tr} {i : Nat} (h : Chain T i) (hi : i ≤ 7) : MayBegin T ((i : Int) - 1) := by
  refine ⟨?_, by rw [h.n]; omega, ?_⟩
  · rcases Nat.eq_zero_or_pos i with h0 | h0
    · left; omega
    · exact .inr ⟨i - 1, by omega, by rw [h.n]; omega, (h.each (i - 1) (by omega)).2⟩
  · rcases Nat.eq_zero_or_pos i with h0 | h0
    · rw [Tr.way_none (by omega)]; decide
    · obtain ⟨j, rfl⟩ : ∃ j, i = j + 1 := ⟨i - 1, by omega⟩
      rw [show ((j + 1 : Nat) : Int) - 1 = (j : Int) by omega, Tr.way_nat (by rw [h.n]; omega), h.way j (by omega)]
      omega
theorem Chain.begun {T : Tr} {i : Nat} (h : Chain T i) (hi : i ≤ 7) : Chain (T.begun ((i : Int) - 1)) (i + 1) := by
  refine ⟨h.good.begun (h.may hi), by rw [len_begun, h.n], by show T.c + 1 = _; rw [h.c]; omega, fun j hj => ?_⟩
  rcases Nat.lt_or_ge j i with hlt | hge
  · rw [tx_begun (by rw [h.n]; exact hlt)]; exact h.each j hlt
  · obtain rfl : j = i := by omega
    have := tx_begun_new (T := T) (p := (j : Int) - 1)
    rw [h.n] at this
    rw [this]; exact ⟨rfl, rfl⟩

theorem ask_own {T : Tr} {L : List Lk} {q : Nat} (hq : q < T.l.length) (hs : (T.tx q).s = 1) (hL : ∀ y ∈ L, y.x = (q : Int)) (b md : Int) : askE T L (q : Int) b md = 0 := by
  unfold askE
  rw [if_pos (by omega), if_pos (by simpa using hs), if_pos ?_]
  unfold agL
  rw [List.map_eq_nil_iff, List.filter_eq_nil_iff]
  intro y hy
  unfold hit
  rw [hL y hy, stands_self hq]
  simp
theorem ins_own {L : List Lk} (hl : LG L) {q b md : Int} (hL : ∀ y ∈ L, y.x = q) : ∀ y ∈ ins L ⟨b, q, md, 0⟩, y.x = q := by
  intro y hy
  rcases ins_mem hl hy with ⟨h1, _⟩ | h1 | ⟨_, h1⟩
  · exact hL y h1
  · rw [h1]
  · rw [h1]
theorem of_own {L : List Lk} {x : Int} (hL : ∀ y ∈ L, y.x = x) : ofL L x = L := by
  unfold ofL
  rw [List.filter_eq_self]
  intro y hy
  simpa using hL y hy
theorem free_own {L : List Lk} {x : Int} (hL : ∀ y ∈ L, y.x = x) : (freeL L fun z => decide (z = x)) = [] := by
  unfold freeL
  rw [List.filter_eq_nil_iff]
  intro y hy
  simp [hL y hy]
theorem pass_own {L : List Lk} (hl : LG L) {x p : Int} (hp : 0 ≤ p ∧ p ≤ 63) (hL : ∀ y ∈ L, y.x = x) : passL L x p = upL L x p := by
  unfold passL
  rw [if_neg (by omega), free_own hL]
  exact lay_nil (hl.upL x hp)
theorem up_own {L : List Lk} {x p : Int} (hL : ∀ y ∈ L, y.x = x) : (upL L x p).length = L.length ∧ ∀ y ∈ upL L x p, y.x = p := by
  unfold upL
  rw [of_own hL]
  refine ⟨by simp, fun y hy => ?_⟩
  obtain ⟨z, _, rfl⟩ := List.mem_map.1 hy
  rfl

set_option maxHeartbeats 4000000 in
theorem pass_walk (n0 : Int) (a : Option Addr) (len cap : Nat) (F : Nat → Int) (w : World) (hin : Is w a len F) :
    Calls Try.prog 12 #[.int .i64 n0, .slice a len cap] w fun e w' => e = .returned (.bool true) ∧ Below w.heap.size w w' := by
  have HIN := Lib.hid hin
  clear hin
  go_enter Try.func12, Try.ntmps12
  go_wp2_with fail
  refine (awake_any w).mono ?_
  rintro e w1 ⟨rfl, hb1⟩
  have HB1 := Lib.hid hb1
  clear hb1
  rcases Nat.lt_or_ge 30 len with hbig | hlen
  · have hgt : decide (30 < len) = true := decide_eq_true hbig
    have hgt2 : decide ((30 : Int) < (len : Int)) = true := decide_eq_true (by omega)
    go_wp2
    go_ret
    exact ⟨rfl, HB1.out⟩
  have hgt : decide (30 < len) = false := decide_eq_false (by omega)
  have hgt2 : decide ((30 : Int) < (len : Int)) = false := decide_eq_false (by omega)
  obtain ⟨y, hy, hlow⟩ := low n0 7 3 (by decide) (by omega)
  have hy8 : y < 8 := hy
  obtain ⟨k, hk⟩ : ∃ k : Nat, k = y + 1 := ⟨_, rfl⟩
  have hk2 : 1 + (y : Int) = (k : Int) := by omega
  have hk1 : 1 ≤ k ∧ k ≤ 8 := by omega
  clear hy hk
  obtain ⟨g, hg⟩ : ∃ g, g = w1.heap.size := ⟨_, rfl⟩
  go_upto_region 6 with fail
  rw [← hg]
  obtain ⟨w2, hw2⟩ : ∃ w2, w2 = w1.alloc (.cells #[.slice none 0 0, .int .i64 0] 26) := ⟨_, rfl⟩
  rw [← hw2]
  have HT0 := Lib.hid (show Tp w2 g none 0 0 0 ⟨[], 0⟩ from ⟨by rw [hw2, hg]; exact TB.new w1 none 0 0 0, .inl ⟨rfl, rfl⟩, rfl, rfl⟩)
  have HB2 := Lib.hid (show Below w.heap.size w w2 by rw [hw2]; exact HB1.out.trans ((below_new w1 _).mono HB1.out.size))
  have HGW := Lib.hid (show w.heap.size ≤ g by rw [hg]; exact HB1.out.size)
  clear hw2 hg hlow hy8 hk2 hgt hgt2 HB1
  go_wp2_with fail
  go_loopw [8] (fun iv wr => ∃ (i : Nat) (T : Tr) (A : Option Addr) (k1 : Nat), iv = .int .i64 (i : Int) ∧ i ≤ k ∧ Hid (Chain T i) ∧ Hid (Tp wr g A i k1 (i : Int) T) ∧ Hid (Below w.heap.size w wr)) (fun iv _ => k - (intOf iv).toNat)
  case atStart => exact ⟨0, ⟨[], 0⟩, none, 0, rfl, Nat.zero_le _, chain_nil, HT0.out, HB2.out⟩
  case round =>
    obtain ⟨i, T, A, k1, rfl, hi, HC, HT, HB⟩ := hrel
    clear HT0 HB2
    have c0 := HT.out.t.c0
    have c1 := HT.out.t.c1
    rcases Nat.lt_or_ge i k with hlt | hge
    · obtain ⟨z, hz⟩ : ∃ z : Int, (i : Int) - 1 = z := ⟨_, rfl⟩
      have hzw : IntKind.i64.wrap z = z := by rw [IntKind.wrap_i64]; omega
      have HMY := Lib.hid (show MayBegin T z by rw [← hz]; exact HC.out.may (by omega))
      have HC2 := Lib.hid (show Chain (T.begun z) (i + 1) by rw [← hz]; exact HC.out.begun (by omega))
      go_wp2_with fail
      refine (begin_any A T i k1 (i : Int) z HT.out.hn HC.out.good HT.out.hc (by omega) wr HT.out.x).mono ?_
      rintro e w3 ⟨hb3, ⟨hm, A3, k3, nn, hnn, rfl, htx⟩ | ⟨_, _, hno, _⟩⟩
      · rw [show nn = i + 1 from by rw [hnn, HC.out.n], show (T.begun z).c = ((i + 1 : Nat) : Int) from HC2.out.c]
        have HX3 := Lib.hid htx
        have HT3 := Lib.hid (HT.out.below hb3)
        have HB3 := Lib.hid (HB.out.trans (hb3.mono HB.out.size))
        clear hb3 htx hnn hm c0 c1 hz hzw
        obtain ⟨i2, hi2⟩ : ∃ i2, i2 = i + 1 := ⟨_, rfl⟩
        rw [← hi2]
        rw [← hi2] at HC2
        have HI2 := Lib.hid hi2
        clear hi2
        go_wp2_with (first | (refine wpList_store_tree rfl (.tmp 9) (.tmp 37) rfl rfl rfl (TB.new w3 none 0 0 0) ?_; intro w4 hu4 hg4; have q0 := hu4.c0; have q1 := hu4.c1; have HU4 := Lib.hid hu4; have HG4 := Lib.hid hg4; have ht4 := ((HT3.out.t.below (below_new w3 (.cells #[.slice none 0 0, .int .i64 0] 26))).far hg4 (fun e => by injection e with e; have := HT3.out.t.lt; omega)); have HT4 := Lib.hid ht4; clear hu4 hg4 ht4) | (refine wpList_store_tree rfl (.tmp 7) (.tmp 42) rfl rfl rfl HT4.out ?_; intro w5 hu5 hg5; have HU5 := Lib.hid hu5; have HG5 := Lib.hid hg5; clear hu5 hg5) | fail)
        have t4 : Below w3.heap.size w3 w4 := (below_new w3 _).grown HG4.out (by simp) (fun q e => by injection e with e; omega)
        have HT5 := Lib.hid (show Tp w5 g A3 i2 k3 (i2 : Int) (T.begun z) from ⟨HU5.out, (HX3.out.below t4).box HT4.out HG5.out, HC2.out.n, HC2.out.c⟩)
        have HB5 := Lib.hid ((HB3.out.trans (t4.mono HB3.out.size)).grown HG5.out (Nat.le_trans HB3.out.size t4.size) (fun q e => by injection e with e; have := HGW.out; omega))
        clear t4
        go_roundw
        case rel => exact ⟨i2, T.begun z, A3, k3, by have := HI2.out; simp; omega, by have := HI2.out; omega, HC2.out, HT5.out, HB5.out⟩
        case measure => simp [intOf]; omega
      · exact absurd HMY.out hno
    · obtain rfl : i = k := by omega
      obtain ⟨h, hh⟩ : ∃ h, h = wr.heap.size := ⟨_, rfl⟩
      go_upto_region 14 with fail
      rw [← hh]
      obtain ⟨w3, hw3⟩ : ∃ w3, w3 = wr.alloc (.cells #[.slice none 0 0] 49) := ⟨_, rfl⟩
      rw [← hw3]
      have hbn : Below wr.heap.size wr w3 := by rw [hw3]; exact below_new _ _
      have HT3 := Lib.hid (HT.out.below hbn)
      have HL3 := Lib.hid (show Lp w3 h none 0 0 [] from ⟨by rw [hw3, hh]; exact KB.new wr none 0 0, .inl rfl, rfl, Nat.le_refl _, .inl rfl⟩)
      have HB3 := Lib.hid (HB.out.trans (hbn.mono HB.out.size))
      have HGH := Lib.hid (show g < h by rw [hh]; exact HT.out.t.lt)
      obtain ⟨q, hq⟩ : ∃ q : Nat, i = q + 1 := ⟨i - 1, by omega⟩
      have hq2 : (i : Int) - 1 = (q : Int) := by omega
      have HQ := Lib.hid hq
      have HQN := Lib.hid (show q < T.l.length by rw [HC.out.n]; omega)
      have HQ63 := Lib.hid (show q ≤ 7 by omega)
      have HQS := Lib.hid (HC.out.each q (by omega)).2
      have HGT := Lib.hid HC.out.good
      clear hbn hw3 hh HT HB c0 c1 hq hge hi
      go_wp2_with fail
      go_loopw [13] (fun iv wr => ∃ (j : Nat) (L : List Lk) (B : Option Addr) (m kb : Nat), iv = .int .i64 (j : Int) ∧ j ≤ len ∧ Hid (LG L) ∧ Hid (∀ y ∈ L, y.x = (q : Int)) ∧ Hid (Lp wr h B m kb L) ∧ Hid (Tp wr g A i k1 (i : Int) T) ∧ Hid (Below w.heap.size w wr)) (fun iv _ => len - (intOf iv).toNat)
      case atStart => exact ⟨0, [], none, 0, 0, rfl, Nat.zero_le _, lg_nil, (fun y hy => by cases hy), HL3.out, HT3.out, HB3.out⟩
      case round =>
        obtain ⟨j, L, B, m, kb, rfl, hj, HLG, HOW, HL, HT, HB⟩ := hrel
        clear HL3 HT3 HB3
        rcases Nat.lt_or_ge j len with hjl | hjg
        · obtain ⟨ab, ao, hae, hab, hcell⟩ : ∃ b o, a = some ⟨b, o, none⟩ ∧ b < w.heap.size ∧ ∀ i, i < len → w.cell? ⟨b, o + i, none⟩ = some (.int .i64 (F i)) := by
            rcases HIN.out.rd with h | h
            · omega
            · exact h
          subst hae
          obtain ⟨v, hv⟩ : ∃ v, v = F j := ⟨_, rfl⟩
          have a0 := (HB.out.cell (p := ⟨ab, ao + j, none⟩) hab).trans (hcell j hjl)
          rw [← hv] at a0
          have hvb := HIN.out.bd j
          rw [← hv] at hvb
          obtain ⟨b, hb, hlow7⟩ := low v 7 3 (by decide) (by omega)
          obtain ⟨y2, hy2, hlow1⟩ := low (v / 8) 1 1 (by decide) (by omega)
          obtain ⟨md, hmd⟩ : ∃ md : Int, 1 + (y2 : Int) = md := ⟨_, rfl⟩
          have HMD := Lib.hid (show md = 1 ∨ md = 2 by have : y2 < 2 := hy2; omega)
          have hmw : IntKind.i64.wrap md = md := by rw [IntKind.wrap_i64]; have := HMD.out; omega
          have hqw : IntKind.i64.wrap (q : Int) = (q : Int) := by rw [IntKind.wrap_i64]; have := HQ63.out; omega
          have HBB := Lib.hid (show 0 ≤ (b : Int) ∧ (b : Int) ≤ 255 by have : b < 8 := hb; omega)
          have HE := Lib.hid (ask_own HQN.out HQS.out HOW.out (b : Int) md)
          have HAK : Hid (∀ V, Since wr V → Calls Try.prog 32 #[.agg #[.slice B m kb], .agg #[.slice A i k1, .int .i64 (i : Int)], .int .i64 (q : Int), .int .i64 (b : Int), .int .i64 md] V fun e w' => ∃ A' n' k', e = .returned (.tuple #[.agg #[.slice A' n' k'], .int .i64 0]) ∧ OwnLk w' V.heap.size (.slice A' n' k') (ins L ⟨b, q, md, 0⟩) ∧ Below V.heap.size V w') := fun V hV => by
            have h := ask_any B L m kb HL.out.hn HL.out.hk HL.out.s HLG.out A T i k1 (i : Int) HT.out.hn HGT.out (q : Int) b md HBB.out HMD.out V (HL.out.x.below hV) (HT.out.x.below hV)
            unfold AskOut askL at h
            rw [HE.out, if_pos rfl] at h
            exact h
          have HLG2 := Lib.hid (HLG.out.ins (ask_may HGT.out rfl HQN.out HBB.out HMD.out))
          have HOW2 := Lib.hid (ins_own HLG.out (b := b) (md := md) HOW.out)
          have s0 : ∀ V, Since wr V → V.cell? ⟨g, 0, none⟩ = some (.slice A i k1) := fun V hV => (HT.out.t.below hV).c0
          have s1 : ∀ V, Since wr V → V.cell? ⟨g, 1, none⟩ = some (.int .i64 (i : Int)) := fun V hV => (HT.out.t.below hV).c1
          have s2 : ∀ V, Since wr V → V.cell? ⟨h, 0, none⟩ = some (.slice B m kb) := fun V hV => (HL.out.t.below hV).c0
          have s3 : ∀ V, Since wr V → V.cell? ⟨ab, ao + j, none⟩ = some (.int .i64 v) := fun V hV => (hV.cell (block_lt_of_cell a0)).trans a0
          clear a0 hb hy2 hcell hab hv hvb
          go_upto_region 17 with fail
          go_cut [14, 15] from 44 to 72 (fun pv ev wc => ∃ (B6 : Option Addr) (m6 kb6 h6 : Nat), pv = .pointer (some ⟨h6, 0, none⟩) ∧ ev = .int .i64 0 ∧ Hid (KB wc h6 B6 m6 kb6) ∧ Hid (LkAt wc B6 (ins L ⟨b, q, md, 0⟩)) ∧ Hid ((ins L ⟨b, q, md, 0⟩).length = m6 ∧ m6 ≤ kb6 ∧ Sp B6) ∧ Hid (Since wr wc))
          case first =>
            refine wp_region_since (by kernel_rfl) ?_
            have hS : Since wr (World.drew wr) := (Below.refl _ _).drew
            refine wpAnyH_take (i := 0) (oi := ⟨some 51, _, _, _, _, _⟩) (v := ?_) rfl (by kernel_rfl) (by kernel_rfl) (by kernel_rfl) (fun _ _ _ h => h) (Or.inl ⟨by rfl, ?_⟩) hS ?_
            rotate_left
            · intro W hW; go_simp; with_reducible rfl
            try simp only [Act.put, List.setIfInBounds_toArray, List.set_cons_zero, List.set_cons_succ]
            refine wpAnyH_take (i := 1) (oi := ⟨some 52, _, _, _, _, _⟩) (v := ?_) rfl (by kernel_rfl) (by kernel_rfl) (by kernel_rfl) (fun _ _ _ h => h) (Or.inl ⟨by rfl, ?_⟩) hS ?_
            rotate_left
            · intro W hW; go_simp; with_reducible rfl
            try simp only [Act.put, List.setIfInBounds_toArray, List.set_cons_zero, List.set_cons_succ]
            refine wpAnyH_take (i := 2) (oi := ⟨some 53, _, _, _, _, _⟩) (v := ?_) rfl (by kernel_rfl) (by kernel_rfl) (by kernel_rfl) (fun _ _ _ h => h) (Or.inl ⟨by rfl, ?_⟩) hS ?_
            rotate_left
            · intro W hW; go_simp; with_reducible rfl
            try simp only [Act.put, List.setIfInBounds_toArray, List.set_cons_zero, List.set_cons_succ]
            refine wpAnyH_take (i := 3) (oi := ⟨some 54, _, _, _, _, _⟩) (v := ?_) rfl (by kernel_rfl) (by kernel_rfl) (by kernel_rfl) (fun _ _ _ h => h) (Or.inl ⟨by rfl, ?_⟩) hS ?_
            rotate_left
            · intro W hW; go_simp; with_reducible rfl
            try simp only [Act.put, List.setIfInBounds_toArray, List.set_cons_zero, List.set_cons_succ]
            refine wpAnyH_take (i := 4) (oi := ⟨some 55, _, _, _, _, _⟩) (v := ?_) rfl (by kernel_rfl) (by kernel_rfl) (by kernel_rfl) (fun _ _ _ h => h) (Or.inl ⟨by rfl, ?_⟩) hS ?_
            rotate_left
            · intro W hW; go_simp; with_reducible rfl
            try simp only [Act.put, List.setIfInBounds_toArray, List.set_cons_zero, List.set_cons_succ]
            refine wpAnyH_take (i := 5) (oi := ⟨some 56, _, _, _, _, _⟩) (v := ?_) rfl (by kernel_rfl) (by kernel_rfl) (by kernel_rfl) (fun _ _ _ h => h) (Or.inl ⟨by rfl, ?_⟩) hS ?_
            rotate_left
            · intro W hW; go_simp; with_reducible rfl
            try simp only [Act.put, List.setIfInBounds_toArray, List.set_cons_zero, List.set_cons_succ]
            refine wpAnyH_take (i := 6) (oi := ⟨some 57, _, _, _, _, _⟩) (v := ?_) rfl (by kernel_rfl) (by kernel_rfl) (by kernel_rfl) (fun _ _ _ h => h) (Or.inl ⟨by rfl, ?_⟩) hS ?_
            rotate_left
            · intro W hW; go_simp; with_reducible rfl
            try simp only [Act.put, List.setIfInBounds_toArray, List.set_cons_zero, List.set_cons_succ]
            refine wpAnyH_take (i := 7) (oi := ⟨some 58, _, _, _, _, _⟩) (v := ?_) rfl (by kernel_rfl) (by kernel_rfl) (by kernel_rfl) (fun _ _ _ h => h) (Or.inl ⟨by rfl, ?_⟩) hS ?_
            rotate_left
            · intro W hW; go_simp; with_reducible rfl
            try simp only [Act.put, List.setIfInBounds_toArray, List.set_cons_zero, List.set_cons_succ]
            refine wpAnyH_take (i := 8) (oi := ⟨some 59, _, _, _, _, _⟩) (v := ?_) rfl (by kernel_rfl) (by kernel_rfl) (by kernel_rfl) (fun _ _ _ h => h) (Or.inl ⟨by rfl, ?_⟩) hS ?_
            rotate_left
            · intro W hW; go_simp; with_reducible rfl
            try simp only [Act.put, List.setIfInBounds_toArray, List.set_cons_zero, List.set_cons_succ]
            refine wpAnyH_take (i := 9) (oi := ⟨some 60, _, _, _, _, _⟩) (v := ?_) rfl (by kernel_rfl) (by kernel_rfl) (by kernel_rfl) (fun _ _ _ h => h) (Or.inl ⟨by rfl, ?_⟩) hS ?_
            rotate_left
            · intro W hW; go_simp; with_reducible rfl
            try simp only [Act.put, List.setIfInBounds_toArray, List.set_cons_zero, List.set_cons_succ]
            refine wpAnyH_take (i := 10) (oi := ⟨some 61, _, _, _, _, _⟩) (v := ?_) rfl (by kernel_rfl) (by kernel_rfl) (by kernel_rfl) (fun _ _ _ h => h) (Or.inl ⟨by rfl, ?_⟩) hS ?_
            rotate_left
            · intro W hW; go_simp; with_reducible rfl
            try simp only [Act.put, List.setIfInBounds_toArray, List.set_cons_zero, List.set_cons_succ]
            refine wpAnyH_take (i := 11) (oi := ⟨some 62, _, _, _, _, _⟩) (v := ?_) rfl (by kernel_rfl) (by kernel_rfl) (by kernel_rfl) (fun _ _ _ h => h) (Or.inl ⟨by rfl, ?_⟩) hS ?_
            rotate_left
            · intro W hW; go_simp; with_reducible rfl
            try simp only [Act.put, List.setIfInBounds_toArray, List.set_cons_zero, List.set_cons_succ]
            refine wpAnyH_take (i := 12) (oi := ⟨some 63, _, _, _, _, _⟩) (v := ?_) rfl (by kernel_rfl) (by kernel_rfl) (by kernel_rfl) (fun _ _ _ h => h) (Or.inl ⟨by rfl, ?_⟩) hS ?_
            rotate_left
            · intro W hW; go_simp; with_reducible rfl
            try simp only [Act.put, List.setIfInBounds_toArray, List.set_cons_zero, List.set_cons_succ]
            refine wpAnyH_take (i := 13) (oi := ⟨some 64, _, _, _, _, _⟩) (v := ?_) rfl (by kernel_rfl) (by kernel_rfl) (by kernel_rfl) (fun _ _ _ h => h) (Or.inl ⟨by rfl, ?_⟩) hS ?_
            rotate_left
            · intro W hW; go_simp; with_reducible rfl
            try simp only [Act.put, List.setIfInBounds_toArray, List.set_cons_zero, List.set_cons_succ]
            refine wpAnyH_take (i := 14) (oi := ⟨some 65, _, _, _, _, _⟩) (v := ?_) rfl (by kernel_rfl) (by kernel_rfl) (by kernel_rfl) (fun _ _ _ h => h) (Or.inl ⟨by rfl, ?_⟩) hS ?_
            rotate_left
            · intro W hW; go_simp; with_reducible rfl
            try simp only [Act.put, List.setIfInBounds_toArray, List.set_cons_zero, List.set_cons_succ]
            refine wpAnyH_take (i := 15) (oi := ⟨some 66, _, _, _, _, _⟩) (v := ?_) rfl (by kernel_rfl) (by kernel_rfl) (by kernel_rfl) (fun _ _ _ h => h) (Or.inl ⟨by rfl, ?_⟩) hS ?_
            rotate_left
            · intro W hW; go_simp; with_reducible rfl
            try simp only [Act.put, List.setIfInBounds_toArray, List.set_cons_zero, List.set_cons_succ]
            refine wpAnyH_ready (rs := [16, 20]) (by kernel_rfl) (by simp) ?_
            refine AllReadyH.cons (o := ⟨some 67, _, _, _, _, _⟩) rfl (fun Kr hKr => ?_) (AllReadyH.cons (o := ⟨some 14, _, _, _, _, _⟩) rfl (fun Kr hKr => ?_) AllReadyH.nil)
            · skip
              -- operation 16: a call
              go_simp
              refine (HAK.out _ hS).mono ?_
              rintro e w6 ⟨B6, m6, kb6, rfl, ho6, hb6⟩
              show Kr _ _
              refine hKr.out _ _ ?_ (fun _ => ?_)
              · exact since_trans hS hb6
              clear hKr Kr
              replace hS : Since wr w6 := since_trans hS hb6
              try simp only [Act.put, List.setIfInBounds_toArray, List.set_cons_zero, List.set_cons_succ]
              refine wpAnyH_take (i := 17) (oi := ⟨some 50, _, _, _, _, _⟩) (v := ?_) rfl (by kernel_rfl) (by kernel_rfl) (by kernel_rfl) (fun _ _ _ h => h) (Or.inl ⟨by rfl, ?_⟩) hS ?_
              rotate_left
              · intro W hW; go_simp; with_reducible rfl
              try simp only [Act.put, List.setIfInBounds_toArray, List.set_cons_zero, List.set_cons_succ]
              refine wpAnyH_take (i := 18) (oi := ⟨some 68, _, _, _, _, _⟩) (v := ?_) rfl (by kernel_rfl) (by kernel_rfl) (by kernel_rfl) (fun _ _ _ h => h) (Or.inl ⟨by rfl, ?_⟩) hS ?_
              rotate_left
              · intro W hW; go_simp; with_reducible rfl
              try simp only [Act.put, List.setIfInBounds_toArray, List.set_cons_zero, List.set_cons_succ]
              refine wpAnyH_take (i := 19) (oi := ⟨some 69, _, _, _, _, _⟩) (v := ?_) rfl (by kernel_rfl) (by kernel_rfl) (by kernel_rfl) (fun _ _ _ h => h) (Or.inl ⟨by rfl, ?_⟩) hS ?_
              rotate_left
              · intro W hW; go_simp; with_reducible rfl
              try simp only [Act.put, List.setIfInBounds_toArray, List.set_cons_zero, List.set_cons_succ]
              refine wpAnyH_ready (rs := [20]) (by kernel_rfl) (by simp) ?_
              refine AllReadyH.cons (o := ⟨some 14, _, _, _, _, _⟩) rfl (fun Kr hKr => ?_) AllReadyH.nil
              -- operation 20: a step
              refine wp_alloc_table rfl ?_
              intro w20 g20 hg20 hk20 hb20
              have hG20 : wr.heap.size ≤ g20 := Nat.le_trans (Below.size hS) hg20
              show Kr _ _
              refine hKr.out _ _ ?_ (fun _ => ?_)
              · exact since_trans hS hb20
              clear hKr Kr
              replace hS : Since wr w20 := since_trans hS hb20
              try simp only [Act.put, List.setIfInBounds_toArray, List.set_cons_zero, List.set_cons_succ]
              refine wpAnyH_ready (rs := [21]) (by kernel_rfl) (by simp) ?_
              refine AllReadyH.cons (o := ⟨none, _, _, _, _, _⟩) rfl (fun Kr hKr => ?_) AllReadyH.nil
              -- operation 21: a step
              refine wp_store_table (.tmp 14) (.tmp 68) rfl rfl rfl (by first | exact hk20 | exact KB.below hk20 hb6) ?_
              intro w7 hk7 hg7
              show Kr _ _
              refine hKr.out _ _ ?_ (fun _ => ?_)
              · exact Below.grown hS hg7 hS.size (fun q e => by injection e with e; omega)
              clear hKr Kr
              replace hS : Since wr w7 := Below.grown hS hg7 hS.size (fun q e => by injection e with e; omega)
              try simp only [Act.put, List.setIfInBounds_toArray, List.set_cons_zero, List.set_cons_succ]
              refine wpAnyH_take (i := 22) (oi := ⟨some 15, _, _, _, _, _⟩) (v := ?_) rfl (by kernel_rfl) (by kernel_rfl) (by kernel_rfl) (fun _ _ _ h => h) (Or.inl ⟨by rfl, ?_⟩) hS ?_
              rotate_left
              · intro W hW; go_simp; with_reducible rfl
              try simp only [Act.put, List.setIfInBounds_toArray, List.set_cons_zero, List.set_cons_succ]
              refine wpAnyH_done (by kernel_rfl) ?_ _
              have hx7 : LkAt w7 B6 (ins L ⟨b, q, md, 0⟩) := by first | exact (ho6.parts.2.2.2.below hb20).boxK hk20 hg7 | exact ho6.parts.2.2.2.boxK (KB.below hk20 hb6) hg7
              go_wp2_with fail
              go_meet
              case rel => exact ⟨B6, m6, kb6, g20, rfl, rfl, hk7, hx7, ⟨ho6.parts.1, ho6.parts.2.1, ho6.parts.2.2.1⟩, hS⟩
            · skip
              -- operation 20: a step
              refine wp_alloc_table rfl ?_
              intro w20 g20 hg20 hk20 hb20
              have hG20 : wr.heap.size ≤ g20 := Nat.le_trans (Below.size hS) hg20
              show Kr _ _
              refine hKr.out _ _ ?_ (fun _ => ?_)
              · exact since_trans hS hb20
              clear hKr Kr
              replace hS : Since wr w20 := since_trans hS hb20
              try simp only [Act.put, List.setIfInBounds_toArray, List.set_cons_zero, List.set_cons_succ]
              refine wpAnyH_ready (rs := [16]) (by kernel_rfl) (by simp) ?_
              refine AllReadyH.cons (o := ⟨some 67, _, _, _, _, _⟩) rfl (fun Kr hKr => ?_) AllReadyH.nil
              -- operation 16: a call
              go_simp
              refine (HAK.out _ hS).mono ?_
              rintro e w6 ⟨B6, m6, kb6, rfl, ho6, hb6⟩
              show Kr _ _
              refine hKr.out _ _ ?_ (fun _ => ?_)
              · exact since_trans hS hb6
              clear hKr Kr
              replace hS : Since wr w6 := since_trans hS hb6
              try simp only [Act.put, List.setIfInBounds_toArray, List.set_cons_zero, List.set_cons_succ]
              refine wpAnyH_take (i := 17) (oi := ⟨some 50, _, _, _, _, _⟩) (v := ?_) rfl (by kernel_rfl) (by kernel_rfl) (by kernel_rfl) (fun _ _ _ h => h) (Or.inl ⟨by rfl, ?_⟩) hS ?_
              rotate_left
              · intro W hW; go_simp; with_reducible rfl
              try simp only [Act.put, List.setIfInBounds_toArray, List.set_cons_zero, List.set_cons_succ]
              refine wpAnyH_take (i := 18) (oi := ⟨some 68, _, _, _, _, _⟩) (v := ?_) rfl (by kernel_rfl) (by kernel_rfl) (by kernel_rfl) (fun _ _ _ h => h) (Or.inl ⟨by rfl, ?_⟩) hS ?_
              rotate_left
              · intro W hW; go_simp; with_reducible rfl
              try simp only [Act.put, List.setIfInBounds_toArray, List.set_cons_zero, List.set_cons_succ]
              refine wpAnyH_take (i := 19) (oi := ⟨some 69, _, _, _, _, _⟩) (v := ?_) rfl (by kernel_rfl) (by kernel_rfl) (by kernel_rfl) (fun _ _ _ h => h) (Or.inl ⟨by rfl, ?_⟩) hS ?_
              rotate_left
              · intro W hW; go_simp; with_reducible rfl
              try simp only [Act.put, List.setIfInBounds_toArray, List.set_cons_zero, List.set_cons_succ]
              refine wpAnyH_ready (rs := [21]) (by kernel_rfl) (by simp) ?_
              refine AllReadyH.cons (o := ⟨none, _, _, _, _, _⟩) rfl (fun Kr hKr => ?_) AllReadyH.nil
              -- operation 21: a step
              refine wp_store_table (.tmp 14) (.tmp 68) rfl rfl rfl (by first | exact hk20 | exact KB.below hk20 hb6) ?_
              intro w7 hk7 hg7
              show Kr _ _
              refine hKr.out _ _ ?_ (fun _ => ?_)
              · exact Below.grown hS hg7 hS.size (fun q e => by injection e with e; omega)
              clear hKr Kr
              replace hS : Since wr w7 := Below.grown hS hg7 hS.size (fun q e => by injection e with e; omega)
              try simp only [Act.put, List.setIfInBounds_toArray, List.set_cons_zero, List.set_cons_succ]
              refine wpAnyH_take (i := 22) (oi := ⟨some 15, _, _, _, _, _⟩) (v := ?_) rfl (by kernel_rfl) (by kernel_rfl) (by kernel_rfl) (fun _ _ _ h => h) (Or.inl ⟨by rfl, ?_⟩) hS ?_
              rotate_left
              · intro W hW; go_simp; with_reducible rfl
              try simp only [Act.put, List.setIfInBounds_toArray, List.set_cons_zero, List.set_cons_succ]
              refine wpAnyH_done (by kernel_rfl) ?_ _
              have hx7 : LkAt w7 B6 (ins L ⟨b, q, md, 0⟩) := by first | exact (ho6.parts.2.2.2.below hb20).boxK hk20 hg7 | exact ho6.parts.2.2.2.boxK (KB.below hk20 hb6) hg7
              go_wp2_with fail
              go_meet
              case rel => exact ⟨B6, m6, kb6, g20, rfl, rfl, hk7, hx7, ⟨ho6.parts.1, ho6.parts.2.1, ho6.parts.2.2.1⟩, hS⟩
          obtain ⟨B6, m6, kb6, h6, rfl, rfl, HK7, HX7, HPT, HS⟩ := hcut
          obtain ⟨w7, hw7⟩ : ∃ w7, w7 = wc := ⟨_, rfl⟩
          subst hw7
          have HL7 := Lib.hid (HL.out.below HS.out)
          have HT7 := Lib.hid (HT.out.below HS.out)
          have HB7 := Lib.hid (HB.out.trans (Below.mono HS.out HB.out.size))
          have k0 := HK7.out.c0
          clear s0 s1 s2 s3 hlow7 hlow1 hmd hmw hqw
          go_wp2_with (first | (refine wpList_store_table rfl (.tmp 12) (.tmp 72) rfl rfl rfl HL7.out.t ?_; intro w8 hk8 hg8; have HK8 := Lib.hid hk8; have HG8 := Lib.hid hg8; clear hk8 hg8) | fail)
          have HL8 := Lib.hid (show Lp w8 h B6 m6 kb6 (ins L ⟨b, q, md, 0⟩) from ⟨HK8.out, HX7.out.boxK HL7.out.t HG8.out, HPT.out.1, HPT.out.2.1, HPT.out.2.2⟩)
          have HT8 := Lib.hid (HT7.out.farK HL7.out.t HG8.out (by have h1 := HGH.out; omega))
          have HB8 := Lib.hid (HB7.out.grown HG8.out HB7.out.size (fun q e => by injection e with e; have h1 := HGH.out; have h2 := HGW.out; omega))
          go_roundw
          case rel => exact ⟨j + 1, _, B6, m6, kb6, by simp, by omega, HLG2.out, HOW2.out, HL8.out, HT8.out, HB8.out⟩
          case measure => simp [intOf]; omega
        · obtain rfl : j = len := by omega
          have c2 := HL.out.t.c0
          have hqw : IntKind.i64.wrap (q : Int) = (q : Int) := by rw [IntKind.wrap_i64]; have := HQ63.out; omega
          have HLEN := Lib.hid HL.out.hn
          have HGW3 := Lib.hid (show w.heap.size ≤ h by have h1 := HGH.out; have h2 := HGW.out; omega)
          go_wp2_with fail
          clear hqw hq2 c2
          go_loopw [17] (fun iv wr => ∃ (z : Int) (L5 : List Lk) (B5 : Option Addr) (m5 kb5 : Nat), iv = .int .i64 z ∧ (-1 ≤ z ∧ z ≤ 7) ∧ Hid (LG L5) ∧ Hid (0 ≤ z → (∀ y ∈ L5, y.x = z) ∧ m5 = m) ∧ Hid (z < 0 → m5 = 0) ∧ Hid (Lp wr h B5 m5 kb5 L5) ∧ Hid (Below w.heap.size w wr)) (fun iv _ => (intOf iv + 1).toNat)
          case atStart => exact ⟨(q : Int), L, B, m, kb, rfl, by have := HQ63.out; omega, HLG.out, (fun _ => ⟨HOW.out, rfl⟩), (fun h => by omega), HL.out, HB.out⟩
          case round =>
            obtain ⟨z, L5, B5, m5, kb5, rfl, hz, HG5, HZ5, HN5, HL5, HB5⟩ := hrel
            have c2 := HL5.out.t.c0
            rcases Int.lt_or_le z 0 with hneg | hpos
            · have hm0 : m5 = 0 := HN5.out hneg
              subst hm0
              have hz1 : z = -1 := by omega
              subst hz1
              clear hneg hz
              go_wp2
              go_ret
              exact ⟨rfl, HB5.out⟩
            · obtain ⟨r, hr⟩ : ∃ r : Nat, z = r := ⟨z.toNat, by omega⟩
              subst hr
              obtain ⟨hown, hmm⟩ := HZ5.out hpos
              subst hmm
              have HOWN := Lib.hid hown
              obtain ⟨p, hp⟩ : ∃ p : Int, (r : Int) - 1 = p := ⟨_, rfl⟩
              have hpw : IntKind.i64.wrap p = p := by rw [IntKind.wrap_i64]; omega
              have HP := Lib.hid hp
              have hr7 : r ≤ 7 := by omega
              have HOF := Lib.hid (of_any B5 L5 m5 kb5 (r : Int) HL5.out.hn HG5.out wr HL5.out.x)
              rw [of_own hown] at HOF
              clear hown hpos
              go_wp2_with fail
              refine HOF.out.mono ?_
              rintro e w9 ⟨v9, rfl, ho9, hb9⟩
              obtain ⟨A9, c9, rfl, _, _, _⟩ := ho9.form
              rw [HL5.out.hn]
              have HL9 := Lib.hid (HL5.out.below hb9)
              have HB9 := Lib.hid (HB5.out.trans (hb9.mono HB5.out.size))
              clear ho9 hb9 c2
              have c2 := HL9.out.t.c0
              have HPS := Lib.hid (pass_any B5 L5 m5 kb5 HL9.out.hn HL9.out.s HG5.out r p (by omega) (by have := HP.out; omega) w9 HL9.out.x)
              go_wp2_with (first
                | (go_at_call 29; refine HPS.out.mono ?_; rintro e w10 ⟨B10, m10, kb10, rfl, ho10, hb10⟩; have HO10 := Lib.hid ho10; have HB10 := Lib.hid (HB9.out.trans (hb10.mono HB9.out.size)); have HL10 := Lib.hid (HL9.out.below hb10); clear ho10 hb10 c2)
                | (refine wpList_store_table rfl (.tmp 12) (.tmp 99) rfl rfl rfl HL10.out.t ?_; intro w11 hk11 hg11; have HK11 := Lib.hid hk11; have HG11 := Lib.hid hg11; clear hk11 hg11)
                | fail)
              have HL11 := Lib.hid (show Lp w11 h B10 m10 kb10 (passL L5 (r : Int) p) from ⟨HK11.out, HO10.out.parts.2.2.2.boxK HL10.out.t HG11.out, HO10.out.parts.1, HO10.out.parts.2.1, HO10.out.parts.2.2.1⟩)
              have HB11 := Lib.hid (HB10.out.grown HG11.out HB10.out.size (fun q e => by injection e with e; have h1 := HGW3.out; omega))
              have HG11 := Lib.hid (HG5.out.passL (r : Int) (p := p) (by have := HP.out; omega))
              go_roundw
              case rel => exact ⟨p, _, B10, m10, kb10, rfl, by have := HP.out; omega, HG11.out, (fun h0 => by
                have hpo := pass_own HG5.out (x := (r : Int)) (p := p) ⟨h0, by have := HP.out; omega⟩ HOWN.out
                have hup := up_own (p := p) HOWN.out
                refine ⟨by rw [hpo]; exact hup.2, ?_⟩
                have h2 := HL11.out.hn
                rw [hpo, hup.1, HL5.out.hn] at h2
                exact h2.symm), (fun h0 => by
                have h2 := HL11.out.hn
                unfold passL at h2
                rw [if_pos h0, free_own HOWN.out] at h2
                exact h2.symm), HL11.out, HB11.out⟩
              case measure => simp [intOf]; have := HP.out; omega
end Go.Proofs.Ytohnfjneghbceaa
