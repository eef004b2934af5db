/-
  Locks of those in a list are taken away.
-/
import Derived.Test.YtohnfjneghbceaaElem
import Derived.Maps.Own
import Derived.Maps.OwnSet
namespace Go.Proofs.Ytohnfjneghbceaa
set_option maxRecDepth 100000
set_option linter.unusedVariables false
open Go.RowKit Go.Shelf Go.Sort Go.Maps

/-- the map of those whose locks go, in its variable -/
structure Gone (W : World) (g bm : Nat) (G : Int → Bool) : Prop where
  box : W.heap[g]? = some (.cells #[.map (some bm)] 78 (0, 0))
  map : ∃ nn D, W.ownsMap (H := Unit) Try.prog 3 unitElem bm nn D ∧ ∀ x : Int, 0 ≤ x ∧ x ≤ 63 → Maps.has D (.int .i64 x) = G x
theorem Gone.turn {S : Nat → Prop} {W V : World} {g bm : Nat} {G : Int → Bool} (h : Gone W g bm G) (ht : Turn S W V) (h1 : ¬ S g) (h2 : ¬ S bm) : Gone V g bm G := by
  obtain ⟨nn, D, ⟨es, cl, hh, r⟩, hD⟩ := h.map
  exact ⟨(ht.block g (lt_of_block h.box) h1).trans h.box, nn, D, ⟨es, cl, (ht.block bm (lt_of_block hh) h2).trans hh, r⟩, hD⟩
theorem Gone.below {W V : World} {g bm : Nat} {G : Int → Bool} (h : Gone W g bm G) (hb : Below W.heap.size W V) : Gone V g bm G := h.turn (S := fun _ => False) (Turn.ofBelow hb) (fun h => h) (fun h => h)
theorem Gone.lt {W : World} {g bm : Nat} {G : Int → Bool} (h : Gone W g bm G) : g < W.heap.size ∧ bm < W.heap.size := by
  obtain ⟨nn, D, ⟨es, cl, hh, r⟩, hD⟩ := h.map
  exact ⟨lt_of_block h.box, lt_of_block hh⟩

theorem int_keyL (x : Int) (h : 0 ≤ x ∧ x ≤ 63) : keyOf Try.prog 3 (.int .i64 x) = some (.int .i64 x) := keyOf_int_mk Try.underlying3 (by simp [Lit.wf, IntKind.bits, IntKind.signed, IntKind.min, IntKind.max]; omega)

theorem free1_any (g bm : Nat) (G : Int → Bool) (y : Lk) (hx : 0 ≤ y.x ∧ y.x ≤ 63) (W : World) (hG : Gone W g bm G) :
    Calls Try.prog 55 #[.agg #[.int .i64 y.b, .int .i64 y.x, .int .i64 y.h, .int .i64 y.k], .pointer (some ⟨g, 0, none⟩)] W fun e w' => e = .returned (.bool (G y.x)) ∧ Below W.heap.size W w' := by
  obtain ⟨W1, hW1⟩ : ∃ W1, W1 = W.alloc (.cells #[.int .i64 y.b, .int .i64 y.x, .int .i64 y.h, .int .i64 y.k] 53) := ⟨_, rfl⟩
  have hb1 : Below W.heap.size W W1 := by rw [hW1]; exact below_new _ _
  have hG1 := hG.below hb1
  obtain ⟨nn, D, hM, hD⟩ := hG1.map
  have hc : W1.cell? ⟨g, 0, none⟩ = some (.map (some bm)) := (cell_of_row _ _ _ _ _ _ hG1.box).trans rfl
  have hy : LH W1 W.heap.size y := by rw [hW1]; exact LH.new W y
  have hyc := hy.c1
  have hkey := int_keyL y.x hx
  have hd := hD y.x hx
  obtain ⟨q, hq⟩ : ∃ q, G y.x = q := ⟨_, rfl⟩
  rw [hq] at hd
  have HB := Lib.hid (show Below W.heap.size W (W1.alloc (.cells #[] 79)) from hb1.alloc hb1.size _)
  have HM := Lib.hid hM
  clear hG hG1 hD hM hy hx hb1
  rw [hq]
  clear hq
  go_enter Try.func55, Try.ntmps55
  go_upto_region 1 with fail
  rw [← hW1]
  clear hW1
  have hown1 := HM.out
  go_wp2_with (first | (at_lookup; refine wpList_lookup_own_unit _ rfl _ _ 78 rfl 3 79 (int_keyed Try.underlying3) Try.underlying78 (Try.zeroValue79 _) bm nn D rfl hown1 _ _ rfl hkey ?_; rw [hd]; clear hown1) | fail)
  go_ret
  exact ⟨rfl, HB.out⟩

set_option maxHeartbeats 1000000 in
theorem index_any (g bm : Nat) (G : Int → Bool) (A : Option Addr) (L : List Lk) (n k : Nat) (hN : L.length = n) (hn : n ≤ 16384) (hm : ∀ y ∈ L, 0 ≤ y.x ∧ y.x ≤ 63) (W : World) (hL : LkAt W A L) (hG : Gone W g bm G) :
    Calls Try.prog 51 #[.slice A n k, .func (.func 55) #[] #[.pointer (some ⟨g, 0, none⟩)]] W fun e w' =>
      ((e = .returned (.int .i64 (-1)) ∧ ∀ y ∈ L, G y.x = false) ∨ ∃ (i : Nat) (y : Lk), e = .returned (.int .i64 (i : Int)) ∧ L[i]? = some y ∧ G y.x = true ∧ ∀ u ∈ L.take i, G u.x = false) ∧ Below W.heap.size W w' := by
  have HN := Lib.hid hN
  have HM := Lib.hid hm
  have HL := Lib.hid hL
  have HG := Lib.hid hG
  have eg : ∀ args w, (callFunc 55 args).run Try.prog w = .ok (.enter 55 args) w := enters_of Try.func55 (by kernel_rfl) rfl
  clear hN hm hL hG
  go_enter Try.func51, Try.ntmps51
  go_wp2_with fail
  go_loopw [8] (fun iv wr => ∃ j : Nat, iv = .int .i64 (j : Int) ∧ j ≤ n ∧ Hid (∀ u ∈ L.take j, G u.x = false) ∧ Hid (Below W.heap.size W wr)) (fun iv _ => n - (intOf iv).toNat)
  case atStart => exact ⟨0, rfl, Nat.zero_le _, (fun u hu => by simp at hu), Below.refl _ _⟩
  case round =>
    obtain ⟨j, rfl, hj, HF, HB⟩ := hrel
    rcases Nat.lt_or_ge j n with hlt | hge
    · obtain ⟨y, hy⟩ : ∃ y, L[j]? = some y := ⟨L[j]'(by rw [HN.out]; exact hlt), List.getElem?_eq_getElem (by rw [HN.out]; exact hlt)⟩
      obtain ⟨b, o, rfl, hb, hc⟩ := (HL.out.below HB.out).get hy
      have hc0 := hc.c0
      have hc1 := hc.c1
      have hc2 := hc.c2
      have hc3 := hc.c3
      have HY := Lib.hid hy
      have hcall := free1_any g bm G y (HM.out y (List.mem_of_getElem? hy)) wr (HG.out.below HB.out)
      obtain ⟨q, hq⟩ : ∃ q, G y.x = q := ⟨_, rfl⟩
      rw [hq] at hcall
      have HC := Lib.hid hcall
      have HQ := Lib.hid hq
      clear hc hy hcall hq hb
      cases q
      · go_wp2_with (go_at_fn 55; refine HC.out.mono ?_; rintro e w2 ⟨rfl, hb2⟩; have HB2 := Lib.hid (HB.out.trans (hb2.mono HB.out.size)); clear hb2)
        go_roundw
        case rel => exact ⟨j + 1, by simp, by omega, (fun u hu => by
          rw [List.take_add_one, HY.out] at hu
          rcases List.mem_append.1 hu with h | h
          · exact HF.out u h
          · have : u = y := by simpa using h
            rw [this]; exact HQ.out), HB2.out⟩
        case measure => simp [intOf]; omega
      · go_wp2_with (go_at_fn 55; refine HC.out.mono ?_; rintro e w2 ⟨rfl, hb2⟩; have HB2 := Lib.hid (HB.out.trans (hb2.mono HB.out.size)); clear hb2)
        go_ret
        exact ⟨.inr ⟨j, y, rfl, HY.out, HQ.out, HF.out⟩, HB2.out⟩
    · obtain rfl : j = n := by omega
      go_wp2
      go_ret
      refine ⟨.inl ⟨rfl, fun u hu => HF.out u ?_⟩, HB.out⟩
      rw [List.take_of_length_le (by rw [HN.out]; omega)]; exact hu

theorem drop_eq_get {α : Type} {A B : List α} {j : Nat} (h : A.drop j = B.drop j) : A[j]? = B[j]? := by
  have h1 := congrArg (fun l : List α => l[0]?) h
  simpa [List.getElem?_drop] using h1

set_option maxHeartbeats 2000000 in
theorem delete_any (g5 bm : Nat) (G : Int → Bool) (L : List Lk) (A : Option Addr) (n k base : Nat) (hN : L.length = n) (hn : n ≤ 16384) (hm : ∀ y ∈ L, 0 ≤ y.x ∧ y.x ≤ 63) (W : World) (hO : OwnLk W base (.slice A n k) L) (hG : Gone W g5 bm G) (h5 : g5 < base) (hbm : bm < base) (hbase : base ≤ W.heap.size) :
    Calls Try.prog 53 #[.slice A n k, .func (.func 55) #[] #[.pointer (some ⟨g5, 0, none⟩)]] W fun e w' =>
      ∃ A' n' k', e = .returned (.slice A' n' k') ∧ OwnLk w' base (.slice A' n' k') (freeL L G) ∧ Below base W w' := by
  obtain ⟨A0, c0, he, hnk, hL, hs⟩ := hO.form
  injection he with e1 e2 e3
  subst e1
  subst e3
  have HN := Lib.hid hN
  have HM := Lib.hid hm
  have HO := Lib.hid hO
  have HG := Lib.hid hG
  have HL := Lib.hid hL
  have HIX := Lib.hid (index_any g5 bm G A L n k hN hn hm W hL hG)
  have H5 := Lib.hid h5
  have HBM := Lib.hid hbm
  have HBA := Lib.hid hbase
  have hnk : n ≤ k := by omega
  have eg : ∀ args w, (callFunc 55 args).run Try.prog w = .ok (.enter 55 args) w := enters_of Try.func55 (by kernel_rfl) rfl
  have HIX0 := HIX.out
  clear HIX
  by_cases hall : ∀ y ∈ L, G y.x = false
  · have HIX := Lib.hid (HIX0.mono (R' := fun e w' => e = .returned (.int .i64 (-1)) ∧ Below W.heap.size W w') (fun e w' h => by
      rcases h with ⟨⟨he, _⟩ | ⟨i, y, _, hy, hg, _⟩, hb⟩
      · exact ⟨he, hb⟩
      · rw [hall y (List.mem_of_getElem? hy)] at hg; cases hg))
    have HF := Lib.hid (show freeL L G = L by
      unfold freeL
      rw [List.filter_eq_self]
      intro y hy
      rw [hall y hy]; rfl)
    clear HIX0 hN hm hO hG hL h5 hbm hbase e2 hall hs
    go_enter Try.func53, Try.ntmps53
    go_wp2_with (go_at_call 51; refine HIX.out.mono ?_; rintro e w1 ⟨rfl, hb1⟩)
    go_ret
    have h0 := HO.out.below hb1
    rw [HF.out]
    exact ⟨A, n, k, rfl, h0, hb1.mono HBA.out⟩
  · have HIX := Lib.hid (HIX0.mono (R' := fun e w' => (∃ (i : Nat) (y : Lk), e = .returned (.int .i64 (i : Int)) ∧ L[i]? = some y ∧ G y.x = true ∧ ∀ u ∈ L.take i, G u.x = false) ∧ Below W.heap.size W w') (fun e w' h => by
      rcases h with ⟨⟨_, h⟩ | h, hb⟩
      · exact absurd h hall
      · exact ⟨h, hb⟩))
    rcases hs with rfl | ⟨g, rfl, hbg, hgs⟩
    · exfalso
      refine hall fun y hy => ?_
      rcases hL with h | ⟨b, o, e, _⟩
      · rw [h] at hy; cases hy
      · cases e
    have HBG := Lib.hid hbg
    have HGS := Lib.hid hgs
    clear HIX0 hN hm hO hG hL h5 hbm hbase e2 hbg hgs hall
    go_enter Try.func53, Try.ntmps53
    go_upto_region 4 with (go_at_call 51; refine HIX.out.mono ?_; rintro e w1 ⟨⟨i0, y0, rfl, hy0, hg0, hf0⟩, hb1⟩; have hi0 : i0 < n := (by rw [← HN.out]; exact (List.getElem?_eq_some_iff.1 hy0).1); have hne : ((i0 : Int) == -1) = false := beq_eq_false_iff_ne.2 (by omega); have HY0 := Lib.hid hy0; have HG0 := Lib.hid hg0; have HF0 := Lib.hid hf0; have HB1 := Lib.hid hb1; clear hy0 hg0 hf0 hb1)
    go_wp2_with fail
    go_loopw [5, 6] (fun iv jv wr => ∃ (i j : Nat) (C : List Lk), iv = .int .i64 (i : Int) ∧ jv = .int .i64 (j : Int) ∧ i < j ∧ j ≤ n ∧ Hid (C.length = n) ∧ Hid (OwnLk wr base (.slice (some ⟨g, 0, none⟩) n k) C) ∧ Hid (C.take i = freeL (L.take j) G) ∧ Hid (C.drop j = L.drop j) ∧ Hid (Turn (fun q => q = g) W wr)) (fun _ jv _ => n - (intOf jv).toNat)
    case atStart =>
      refine ⟨i0, i0 + 1, L, rfl, by simp, by omega, by omega, HN.out, HO.out.below HB1.out, ?_, rfl, Turn.ofBelow HB1.out⟩
      show L.take i0 = freeL (L.take (i0 + 1)) G
      rw [List.take_add_one, HY0.out]
      unfold freeL
      rw [List.filter_append]
      have h1 : (L.take i0).filter (fun y => !G y.x) = L.take i0 := by
        rw [List.filter_eq_self]
        intro u hu
        rw [HF0.out u hu]; rfl
      rw [h1]
      simp [HG0.out]
    case round =>
      obtain ⟨i, j, C, rfl, rfl, hij, hj, HC, HOC, HTK, HDR, HT⟩ := hrel
      clear HB1 HY0 HG0 HF0 hne hi0
      have HGG := Lib.hid (HG.out.turn HT.out (by have h1 := H5.out; have h2 := HBG.out; omega) (by have h1 := HBM.out; have h2 := HBG.out; omega))
      rcases Nat.lt_or_ge j n with hlt | hge
      · obtain ⟨y, hy⟩ : ∃ y, L[j]? = some y := ⟨L[j]'(by rw [HN.out]; exact hlt), List.getElem?_eq_getElem (by rw [HN.out]; exact hlt)⟩
        have hyC : C[j]? = some y := by rw [drop_eq_get HDR.out]; exact hy
        obtain ⟨A1, c1, he1, _, hLC, _⟩ := HOC.out.form
        injection he1 with he2 he3 he4
        subst he2
        obtain ⟨b, o, e, hb, hc⟩ := hLC.get hyC
        injection e with e
        injection e with e1 e2
        subst e1
        subst e2
        have hc0 := hc.c0
        have hc1 := hc.c1
        have hc2 := hc.c2
        have hc3 := hc.c3
        rw [Nat.zero_add] at hc0 hc1 hc2 hc3
        have HDRS := Lib.hid (show C.drop (j + 1) = L.drop (j + 1) by
          have h1 := congrArg (List.drop 1) HDR.out
          rwa [List.drop_drop, List.drop_drop] at h1)
        have HTKS := Lib.hid (show freeL (L.take (j + 1)) G = C.take i ++ (if G y.x then [] else [y]) by
          rw [HTK.out, List.take_add_one, hy]
          unfold freeL
          rw [List.filter_append]
          congr 1
          cases hh : G y.x <;> simp [hh])
        obtain ⟨wz, hwz⟩ : ∃ wz, wz = wr.alloc (.cells #[.int .i64 y.b, .int .i64 y.x, .int .i64 y.h, .int .i64 y.k] 53) := ⟨_, rfl⟩
        have hbz : Below wr.heap.size wr wz := by rw [hwz]; exact below_new _ _
        obtain ⟨gy, hgy⟩ : ∃ gy, gy = wr.heap.size := ⟨_, rfl⟩
        have hy4 : LH wz gy y := by rw [hwz, hgy]; exact LH.new wr y
        have HYZ := Lib.hid hy4
        have HOZ := Lib.hid (HOC.out.below hbz)
        have HTZ := Lib.hid (HT.out.trans (Turn.ofBelow hbz))
        have hcall := free1_any g5 bm G y (HM.out y (List.mem_of_getElem? hy)) wz (HGG.out.below hbz)
        obtain ⟨q, hq⟩ : ∃ q, G y.x = q := ⟨_, rfl⟩
        rw [hq] at hcall HTKS
        have HCC := Lib.hid hcall
        have cz0 := hy4.c0
        have cz1 := hy4.c1
        have cz2 := hy4.c2
        have cz3 := hy4.c3
        clear hc hy hyC hcall hq hb hbz hy4 hLC he4 he3
        go_upto_region 8 with fail
        rw [← hgy, ← hwz]
        clear hwz hgy hc0 hc1 hc2 hc3
        cases q
        · go_wp2_with (first
            | (go_at_fn 55; refine HCC.out.mono ?_; rintro e w2 ⟨rfl, hb2⟩; have HB2 := Lib.hid hb2; have HO2 := Lib.hid (HOZ.out.below hb2); have HY2 := HYZ.out.below hb2; have HT2 := Lib.hid (HTZ.out.trans (Turn.ofBelow hb2)); have d0 := HY2.c0; have d1 := HY2.c1; have d2 := HY2.c2; have d3 := HY2.c3; clear hb2 HY2)
            | (refine wpList_store_elem rfl _ _ rfl (i := i) y rfl rfl HO2.out HC.out (by omega) ?_; intro w3 hown3 hg3; have HO3 := Lib.hid hown3; have HG3 := Lib.hid hg3; clear hown3 hg3)
            | fail)
          go_roundw
          case rel => exact ⟨i + 1, j + 1, C.set i y, by simp, by simp, by omega, by omega, (show (C.set i y).length = n by rw [List.length_set]; exact HC.out), HO3.out, (show (C.set i y).take (i + 1) = freeL (L.take (j + 1)) G by
              rw [HTKS.out, List.take_add_one, List.getElem?_set_self (by rw [HC.out]; omega), List.take_set_of_le (Nat.le_refl i)]; rfl), (show (C.set i y).drop (j + 1) = L.drop (j + 1) by rw [List.drop_set_of_lt (by omega)]; exact HDRS.out), HT2.out.grown HG3.out (fun q e => by injection e with e; exact .inl e.symm)⟩
          case measure => simp [intOf]; omega
        · go_wp2_with (first
            | (go_at_fn 55; refine HCC.out.mono ?_; rintro e w2 ⟨rfl, hb2⟩; have HB2 := Lib.hid hb2; have HO2 := Lib.hid (HOZ.out.below hb2); have HT2 := Lib.hid (HTZ.out.trans (Turn.ofBelow hb2)); clear hb2)
            | fail)
          go_roundw
          case rel => exact ⟨i, j + 1, C, by simp, by simp, by omega, by omega, HC.out, HO2.out, (show C.take i = freeL (L.take (j + 1)) G by rw [HTKS.out]; simp), HDRS.out, HT2.out⟩
          case measure => simp [intOf]; omega
      · obtain rfl : j = n := by omega
        have hik : ¬ k = i := by omega
        obtain ⟨w3, hcl, hown3, hg3⟩ := own_clear HOC.out HC.out hij (k - i)
        have HO3 := Lib.hid hown3
        have HG3 := Lib.hid hg3
        have hik2 : i ≤ k := by omega
        clear hown3 hg3
        go_wp2
        go_ret
        refine ⟨some ⟨g, 0, none⟩, i, k, rfl, ?_, ?_⟩
        · have h := HO3.out
          rw [HTK.out, List.take_of_length_le (by rw [HN.out]; omega)] at h
          exact h
        · exact (HT.out.grown HG3.out (fun q e => by injection e with e; exact .inl e.symm)).below (fun q e => by have h1 := HBG.out; omega) HBA.out

theorem OwnLk.parts {w : World} {base : Nat} {A : Option Addr} {n k : Nat} {l : List Lk} (h : OwnLk w base (.slice A n k) l) : l.length = n ∧ n ≤ k ∧ Sp A ∧ LkAt w A l := by
  obtain ⟨A0, c0, he, hnk, hL, hs⟩ := h.form
  injection he with e1 e2 e3
  subst e1
  subst e2
  subst e3
  refine ⟨rfl, hnk, ?_, hL⟩
  rcases hs with rfl | ⟨g, rfl, _⟩
  · exact .inl rfl
  · exact .inr ⟨_, _, rfl⟩

/-- is one in a list? -/
def inL (l : List Nat) (x : Int) : Bool := l.any fun i => decide ((i : Int) = x)
theorem inL_snoc (l : List Nat) (i : Nat) (x : Int) : inL (l ++ [i]) x = (inL l x || decide ((i : Int) = x)) := by unfold inL; simp

set_option maxHeartbeats 2000000 in
theorem free_any (A : Option Addr) (L : List Lk) (n k : Nat) (hN : L.length = n) (hA : Sp A) (hl : LG L) (Ai : Option Addr) (l : List Nat) (ni ki : Nat) (hNi : l.length = ni) (hni : ni ≤ 1000) (hi : ∀ i ∈ l, i ≤ 63) (w : World) (hL : LkAt w A L) (hI : IdAt w Ai l) :
    Calls Try.prog 31 #[.agg #[.slice A n k], .slice Ai ni ki] w fun e w' => ∃ A' n' k', e = .returned (.agg #[.slice A' n' k']) ∧ OwnLk w' w.heap.size (.slice A' n' k') (freeL L (inL l)) ∧ Below w.heap.size w w' := by
  have hn16 : n ≤ 16384 := by rw [← hN]; exact hl.len
  obtain ⟨w0, hw0⟩ : ∃ w0, w0 = w.alloc (.cells #[.slice A n k] 49) := ⟨_, rfl⟩
  obtain ⟨w1, hw1⟩ : ∃ w1, w1 = w0.alloc (.cells #[.slice none 0 0] 49) := ⟨_, rfl⟩
  have hs0 : w0.heap.size = w.heap.size + 1 := by rw [hw0]; simp
  have hs1 : w1.heap.size = w.heap.size + 2 := by rw [hw1, World.size_alloc, hs0]
  have b0 : Below w.heap.size w w1 := by rw [hw1, hw0]; exact below_two (below_new _ _) (below_new _ _)
  have x0 : KB w1 w.heap.size A n k := by rw [hw1, hw0]; exact (KB.new w A n k).below (below_new _ _)
  have x1 : KB w1 (w.heap.size + 1) none 0 0 := by have := KB.new w0 none 0 0; rw [hs0] at this; rw [hw1]; exact this
  -- the map, and its variable
  obtain ⟨w2, hw2⟩ : ∃ w2, w2 = w1.alloc (.map #[] 0) := ⟨_, rfl⟩
  obtain ⟨w3, hw3⟩ : ∃ w3, w3 = w2.alloc (.cells #[.map (some (w.heap.size + 2))] 78) := ⟨_, rfl⟩
  have hs2 : w2.heap.size = w.heap.size + 2 + 1 := by rw [hw2, World.size_alloc, hs1]
  have b2 : Below w.heap.size w w3 := by rw [hw3, hw2]; exact (b0.alloc b0.size _).alloc (by simp; exact Nat.le_succ_of_le b0.size) _
  have m2 : w3.ownsMap (H := Unit) Try.prog 3 unitElem (w.heap.size + 2) 0 (.map []) := by
    have h := (World.ownsMap_made w1 Try.prog 3 (unitElem (H := Unit)))
    rw [hs1] at h
    rw [hw3, hw2]; exact h.alloc _
  have v2 : w3.heap[w.heap.size + 2 + 1]? = some (.cells #[.map (some (w.heap.size + 2))] 78 (0, 0)) := by
    rw [hw3, ← hs2]; exact heap_alloc_new w2 _
  have k3 : KB w3 w.heap.size A n k := by rw [hw3, hw2]; exact (x0.below (below_new _ _)).below (below_new _ _)
  have r3 : KB w3 (w.heap.size + 1) none 0 0 := by rw [hw3, hw2]; exact (x1.below (below_new _ _)).below (below_new _ _)
  have hs3 : w3.heap.size = w.heap.size + 2 + 1 + 1 := by rw [hw3, World.size_alloc, hs2]
  have HN := Lib.hid hN
  have HA := Lib.hid hA
  have HLG := Lib.hid hl
  have HNI := Lib.hid hNi
  have HI := Lib.hid hi
  have HL := Lib.hid hL
  have HIA := Lib.hid hI
  have HB := Lib.hid b2
  have HMP := Lib.hid m2
  have HV := Lib.hid v2
  have HK := Lib.hid k3
  have HR := Lib.hid r3
  have HS3 := Lib.hid hs3
  have hmm := @run_makeMap Try.prog
  have c0 := x0.c0
  clear hN hA hl hNi hi hL hI b0 x0 x1 b2 m2 v2 k3 r3 hs3 hs2 hs0
  go_enter Try.func31, Try.ntmps31
  go_upto_region 1 with fail
  rw [← hw0, ← hw1]
  clear hw0 hw1 w0
  go_upto_region 2 with fail
  rw [← hw2, ← hw3]
  obtain ⟨g5, hg5⟩ : ∃ g5, g5 = w.heap.size + 2 + 1 := ⟨_, rfl⟩
  obtain ⟨g4, hg4⟩ : ∃ g4, g4 = w.heap.size + 2 := ⟨_, rfl⟩
  rw [← hg5] at HV HS3 ⊢
  rw [← hg4] at HMP HV ⊢
  have HG5 := Lib.hid hg5
  have HG4 := Lib.hid hg4
  clear hw2 hw3 hs1 hg5 hg4 w2 c0 hmm
  go_wp2_with fail
  go_loopw [11] (fun iv wr => ∃ (j : Nat) (D : DataW Unit), iv = .int .i64 (j : Int) ∧ j ≤ ni ∧ Hid (wr.ownsMap Try.prog 3 unitElem g4 j D) ∧ Hid (∀ x : Int, 0 ≤ x ∧ x ≤ 63 → Maps.has D (.int .i64 x) = inL (l.take j) x) ∧ Hid (Turn (fun q => q = g4) w3 wr)) (fun iv _ => ni - (intOf iv).toNat)
  case atStart => exact ⟨0, .map [], rfl, Nat.zero_le _, HMP.out, (fun x _ => rfl), Turn.refl _ _⟩
  case round =>
    obtain ⟨j, D, rfl, hj, HM, HD, HT⟩ := hrel
    have HBR := Lib.hid (HB.out.trans ((HT.out).below (B := w.heap.size) (fun q e => by have := HG4.out; omega) HB.out.size))
    have HVR := Lib.hid (HT.out.block g5 (lt_of_block HV.out) (by have h1 := HG4.out; have h2 := HG5.out; show ¬ g5 = g4; omega) |>.trans HV.out)
    have HKR := Lib.hid (HK.out.turn HT.out (by have := HG4.out; omega))
    have HRR := Lib.hid (HR.out.turn HT.out (by have := HG4.out; omega))
    rcases Nat.lt_or_ge j ni with hlt | hge
    · obtain ⟨i, hy⟩ : ∃ i, l[j]? = some i := ⟨l[j]'(by rw [HNI.out]; exact hlt), List.getElem?_eq_getElem (by rw [HNI.out]; exact hlt)⟩
      obtain ⟨b, rfl, hb, hc⟩ := (HIA.out.below HBR.out).get2 hy
      have hi63 := HI.out i (List.mem_of_getElem? hy)
      have hkey := int_keyL (i : Int) (by omega)
      have HTKS := Lib.hid (show l.take (j + 1) = l.take j ++ [i] by rw [List.take_add_one, hy]; rfl)
      have HI63 := Lib.hid hi63
      have hvc : wr.cell? ⟨g5, 0, none⟩ = some (.map (some g4)) := (cell_of_row _ _ _ _ _ _ HVR.out).trans rfl
      have hown1 := HM.out
      clear hy hb hi63
      go_wp2_with (first | (at_mapUpdate; refine wpList_mapUpdate_own _ rfl _ _ _ 78 rfl 3 79 (int_keyed Try.underlying3) Try.underlying78 unitElem g4 j D rfl hown1 (by unfold maxLen; omega) _ _ _ rfl rfl hkey _ [] unitElem_mk ?_; intro w4 hown4 hg4'; have HO4 := Lib.hid hown4; have HGB := Lib.hid hg4'; clear hown4 hg4' hown1 hvc) | fail)
      refine ⟨⟨j + 1, _, by simp, by omega, HO4.out, (show ∀ x : Int, 0 ≤ x ∧ x ≤ 63 → _ from fun x hx => ?_), HT.out.grown HGB.out (fun q e => by injection e with e; exact .inl e.symm)⟩, by simp [intOf]; omega⟩
      rw [HTKS.out, inL_snoc]
      by_cases e : (i : Int) = x
      · subst e
        rw [has_put_same HM.out.isMap (show WideAt.IsKeyLit (.int .i64 (i : Int)) from trivial)]
        simp
      · rw [has_put_other (by intro e2; injection e2 with _ e2; exact e e2.symm), HD.out x hx, decide_eq_false e, Bool.or_false]
    · obtain rfl : j = ni := by omega
      have HDA := Lib.hid (show ∀ x : Int, 0 ≤ x ∧ x ≤ 63 → Maps.has D (.int .i64 x) = inL l x by have h := HD.out; rw [List.take_of_length_le (by rw [HNI.out]; omega)] at h; exact h)
      have HCL := Lib.hid (cloneK_any A L n k wr HN.out (by omega) HA.out (HL.out.below HBR.out))
      have kc := HKR.out.c0
      have HZ := Lib.hid (show wr.heap.size ≥ g5 + 1 by have h1 := HT.out.size; have h2 := HS3.out; omega)
      go_wp2_with (first
        | (go_at_call 54; refine HCL.out.mono ?_; rintro e w5 ⟨A5, k5, rfl, ho5, hb5⟩; have HO5 := Lib.hid ho5; have HB5 := Lib.hid hb5; have HG := Lib.hid (show Gone w5 g5 g4 (inL l) from (show Gone wr g5 g4 (inL l) from ⟨HVR.out, j, D, HM.out, HDA.out⟩).below hb5); clear ho5 hb5)
        | (go_at_call 53; refine (delete_any g5 g4 (inL l) L A5 n k5 wr.heap.size HN.out hn16 (fun y hy => (HLG.out.may y hy).x) w5 HO5.out HG.out (by have := HZ.out; omega) (by have h1 := HZ.out; have h2 := HG4.out; have h3 := HG5.out; omega) HB5.out.size).mono ?_; rintro e w6 ⟨A6, n6, k6, rfl, ho6, hb6⟩; have HO6 := Lib.hid ho6; have HB6 := Lib.hid (HB5.out.trans hb6); have HR6 := Lib.hid (show KB w6 (w.heap.size + 1) none 0 0 from HRR.out.below (HB5.out.trans hb6)); clear ho6 hb6)
        | (refine wpList_store_table rfl _ _ rfl rfl rfl HR6.out ?_; intro w7 hk7 hg7; have HK7 := Lib.hid hk7; have HG7 := Lib.hid hg7; clear hk7 hg7)
        | fail)
      refine bodyPost_ret (results_table rfl _ rfl HK7.out) rfl ?_
      have h8 := HO6.out.turn (S := fun q => q = w.heap.size + 1) ((Turn.refl _ w6).grown HG7.out (fun q e => by injection e with e; exact .inl e.symm)) (fun q e h => by have h1 := (HO6.out.lt q e).1; have h2 := HZ.out; have h3 := HG5.out; omega)
      have h9 : Below w.heap.size w w6 := HBR.out.trans (HB6.out.mono HBR.out.size)
      exact ⟨A6, n6, k6, rfl, OwnLk.le (b := w.heap.size) h8 HBR.out.size, h9.grown HG7.out h9.size (fun q e => by injection e with e; omega)⟩
end Go.Proofs.Ytohnfjneghbceaa
