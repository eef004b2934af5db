/-
  The images of two notes, one behind the other: of a block that both have the later one's.
-/
import Derived.Test.YtjpnihmijnpjcaaQi
import Derived.Test.YtjpnihmijnpjcaaQf
namespace Go.Proofs.Ytjpnihmijnpjcaa
set_option maxRecDepth 100000
set_option linter.unusedVariables false
set_option linter.unusedSimpArgs false
open Go.RowKit Wm Nn

/-- one image more, no variable written -/
theorem Imz.add {w V1 w8 : World} {g : Nat} {V U V' : Value} {rs : List Ir} {l : List Im} (h : Imz w g V U rs l) (hU : U.ownBlock = none) (hB : Below w.heap.size w V1) {b' c' : Nat} {y : Int} {d : List UInt8} (hL : Lies V1 (some ⟨b', 0, none⟩) c' 32 d) (hb : w.heap.size ≤ b') (hbV : b' < V1.heap.size) (hgb : g < b') (hy : okI y) (hO8 : RI.Own w8 (g + 1) V' (rs ++ [⟨y, some ⟨b', 0, none⟩, 32, c'⟩])) (hg8 : V1.grownBy w8 V.ownBlock) (ha8 : V'.ownBlock = V.ownBlock ∨ V'.ownBlock = some V1.heap.size) :
    Imz w8 g V' U (rs ++ [⟨y, some ⟨b', 0, none⟩, 32, c'⟩]) (l ++ [⟨y, d⟩]) := by
  have hT8 : Turn (fun q => V.ownBlock = some q) V1 w8 := (Turn.refl _ _).grown hg8 (fun q e => .inl e)
  have hTw : Turn (fun q => V.ownBlock = some q) w w8 := (Turn.ofBelow hB).trans hT8
  have hvb : ∀ q, V.ownBlock = some q → g < q ∧ q < w.heap.size := fun q e => by have := h.own.lt q e; omega
  have hB1 := hB.size
  have h8s := hT8.size
  refine ⟨hO8, by simp [h.rl], fun q hq => by rw [hU]; simp, fun i r x hr hx => ?_⟩
  rcases Nat.lt_or_ge i rs.length with hi | hi
  · rw [List.getElem?_append_left hi] at hr
    rw [List.getElem?_append_left (by rw [← h.rl]; exact hi)] at hx
    obtain ⟨e1, e2, e3, b, e4, e5, e6, e7, e8⟩ := h.each i r x hr hx
    refine ⟨e1, e2.turn hTw (fun q o e hq => ?_), e3, b, e4, e5, by omega, fun e => ?_, e8⟩
    · rw [e4] at e
      injection e with e
      injection e with e _
      subst e
      exact e7 hq
    · rcases ha8 with h1 | h1
      · rw [h1] at e; exact e7 e
      · rw [h1] at e; injection e with e; omega
  · rw [List.getElem?_append_right hi] at hr
    rw [List.getElem?_append_right (by rw [← h.rl]; exact hi), ← h.rl] at hx
    obtain ⟨q, hq⟩ : ∃ q, i - rs.length = q := ⟨_, rfl⟩
    rw [hq] at hr hx
    cases q with
    | succ q => simp at hr
    | zero =>
      simp at hr hx
      subst hr; subst hx
      refine ⟨rfl, hL.turn hT8 (fun q o e hq => ?_), hy, b', rfl, hgb, by omega, fun e => ?_, by rw [hU]; simp⟩
      · injection e with e
        injection e with e _
        subst e
        have := hvb _ hq; omega
      · rcases ha8 with h1 | h1
        · rw [h1] at e; have := hvb _ e; omega
        · rw [h1] at e; injection e with e; omega
/-- images that lie there, none of it in an elder block -/
def OffI (A : Option Addr) (n : Nat) (rs : List Ir) (z : Nat) : Prop := off A n z ∧ ∀ q, q ∈ rs → off q.a q.n z
theorem Imz.imAt {w : World} {g : Nat} {A : Option Addr} {n c : Nat} {rs : List Ir} {l : List Im} (h : Imz w g (.slice A n c) (.slice none 0 0) rs l) : ImAt w A n c l rs ∧ ∀ z, z ≤ g → OffI A n rs z := by
  obtain ⟨h1, h2⟩ := h.note (x := ⟨0, 0, l, []⟩) (Rk.Own.nil RO w (g + 1)) (by simp [okI]) (by simp [okI]) (fun i y hy => by simp at hy)
  exact ⟨h1.im, fun z hz => ⟨(h2 z hz).1, (h2 z hz).2.2⟩⟩

/-- what 'latest' answers -/
def LatOut (w : World) (l : List Im) (e : Ending) (w' : World) : Prop := ∃ A n c rs, e = .returned (.slice A n c) ∧ Hid (ImAt w' A n c l rs) ∧ Hid (Below w.heap.size w w') ∧ Hid (∀ z, z < w.heap.size → OffI A n rs z)

theorem cat_each {w : World} {A B : Option Addr} {n c m d : Nat} {la lb : List Im} {ra rb : List Ir} (ha : ImAt w A n c la ra) (hb : ImAt w B m d lb rb) : ∀ (i : Nat) (r : Ir) (x : Im), (ra ++ rb)[i]? = some r → (la ++ lb)[i]? = some x → r.k = x.k ∧ Lies w r.a r.c r.n x.d := by
  intro i r x hr hx
  have e : ra.length = la.length := by rw [ha.rl, ha.ll]
  rcases Nat.lt_or_ge i ra.length with h | h
  · rw [List.getElem?_append_left h] at hr
    rw [List.getElem?_append_left (by omega)] at hx
    exact ⟨(ha.each i r x hr hx).1, (ha.each i r x hr hx).2.1⟩
  · rw [List.getElem?_append_right h] at hr
    rw [List.getElem?_append_right (by omega), ← e] at hx
    exact ⟨(hb.each _ r x hr hx).1, (hb.each _ r x hr hx).2.1⟩
/-- a slice of bytes at each block, as the images up to here have it -/
def TabL (w : World) (f : Nat → Sl) (l : List Im) : Prop := ∀ k, k < 256 → Lies w (f k).a (f k).c (f k).n (scan (k : Int) l [])
theorem TabL.zero (w : World) : TabL w (fun _ => sl0) [] := fun k _ => ⟨.inl rfl, rfl, Nat.le_refl _⟩
theorem TabL.step {w : World} {f : Nat → Sl} {l : List Im} {j : Nat} {x : Im} {k : Nat} {a : Option Addr} {n c : Nat} (h : TabL w f (l.take j)) (hx : l[j]? = some x) (hk : x.k = (k : Int)) (hl : Lies w a c n x.d) : TabL w (fun i => if i = k then ⟨a, n, c⟩ else f i) (l.take (j + 1)) := by
  intro i hi
  rw [take_step hx, scan_snoc]
  unfold hit
  by_cases e : i = k
  · subst e
    rw [if_pos hk]
    simp only [if_pos rfl]
    exact hl
  · rw [if_neg (by omega)]
    simp only [if_neg e]
    exact h i hi

set_option maxHeartbeats 4000000 in
theorem latest_any (Aa : Option Addr) (ka ca : Nat) (la : List Im) (ra : List Ir) (Ab : Option Addr) (kb cb : Nat) (lb : List Im) (rb : List Ir) (w : World) (ha : ImAt w Aa ka ca la ra) (hb : ImAt w Ab kb cb lb rb) (hga : ∀ j, imGood la j) (hgb : ∀ j, imGood lb j) :
    Calls Try.prog 35 #[.slice Aa ka ca, .slice Ab kb cb] w (LatOut w (upTo la lb 256)) := by
  have hka : ka ≤ 256 := by have := ims_few hga; have := ha.ll; omega
  have hkb : kb ≤ 256 := by have := ims_few hgb; have := hb.ll; omega
  have hca := ha.cap
  have hcb := hb.cap
  have HGA := Lib.hid (And.intro hga hgb)
  have HEA := Lib.hid (cat_each ha hb)
  have HKE : Hid (∀ (i : Nat) (x : Im), (la ++ lb)[i]? = some x → 0 ≤ x.k ∧ x.k ≤ 255) := Lib.hid (fun i x hx => by
    rcases List.mem_append.1 (List.mem_of_getElem? hx) with h | h
    · exact (good_mem hga x h).1
    · exact (good_mem hgb x h).1)
  have HLL : Hid ((la ++ lb).length = ka + kb) := Lib.hid (by rw [List.length_append, ha.ll, hb.ll])
  have HRL : Hid ((ra ++ rb).length = ka + kb) := Lib.hid (by rw [List.length_append, ha.rl, hb.rl])
  have HIA := Lib.hid ha
  have HIB := Lib.hid hb
  have HZ := Lib.hid arrS_zero
  have HB1 := Lib.hid (below_new w (.cells (arrS fun _ => sl0) 88))
  have HT1 := Lib.hid (Bk.new w (arrS fun _ => sl0) 88)
  clear ha hb hga hgb
  go_enter Try.func35, Try.ntmps35
  go_upto_region 2 with ((with_reducible refine wpList_alloc_zero (by rfl) 88 (by rfl) _ HZ.out ?_))
  generalize w.alloc (.cells (arrS fun _ => sl0) 88) = w1 at *
  go_wp2_with fail
  have HB2 := Lib.hid (below_new w1 (.cells #[.slice Aa ka ca, .slice Ab kb cb] 22))
  have HSZ := Lib.hid HT1.out.lt
  refine (concat_im w1.heap.size 2 Aa ca ka ra (Lib.hid HIA.out.rl) Ab cb kb rb (Lib.hid HIB.out.rl) _ (by simp) (cell_new w1 _ _ 0) (cell_new w1 _ _ 1) (Lib.hid (HIA.out.row.below (below_two HB1.out HB2.out))) (Lib.hid (HIB.out.row.below (below_two HB1.out HB2.out))) (Lib.hid HIA.out.fm) (Lib.hid HIB.out.fm) (by omega) (by omega) hca hcb).mono ?_
  rintro e w3 ⟨V3, rfl, ho3, hb3⟩
  obtain ⟨A3, c3, hv3, hc3, hr3, hf3⟩ := ho3.form ri_ok
  rw [HRL.out] at hv3 hc3
  subst hv3
  have HR3 := Lib.hid hr3
  have HF3 := Lib.hid (show ∀ b o, A3 = some ⟨b, o, none⟩ → b ≠ w.heap.size from fun b o e => by
    have h1 := HSZ.out
    rcases hf3 with h | ⟨q, h, hq, _⟩
    · rw [h] at e; cases e
    · rw [h] at e
      injection e with e
      injection e with e _
      simp at hq
      omega)
  have HT3 := Lib.hid ((HT1.out.below HB2.out).below hb3)
  have HB3 := Lib.hid ((HB1.out.trans (HB2.out.mono HB1.out.size)).trans (hb3.mono (below_two HB1.out HB2.out).size))
  obtain ⟨L, hL⟩ : ∃ L, L = ka + kb := ⟨_, rfl⟩
  rw [← hL] at hc3 HLL HRL ⊢
  have hL5 : L ≤ 512 := by omega
  clear ho3 hb3 hr3 hf3 HB1 HB2 HT1 HZ hL hca hcb hka hkb HIA HIB
  go_wp2_with fail
  go_loopg [16] L (fun gn i wr => ∃ (j : Nat) (f : Nat → Sl), i = .int .i64 (j : Int) ∧ j + gn = L ∧ Hid (Below w.heap.size w wr) ∧ Hid (Bk wr w.heap.size (arrS f) 88) ∧ Hid (TabL w f ((la ++ lb).take j)) ∧ Hid (RI.At wr A3 (ra ++ rb)))
  case atStart => exact ⟨0, _, rfl, by omega, HB3, HT3, Lib.hid (by simpa using TabL.zero w), HR3⟩
  case round =>
    obtain ⟨j, f, rfl, hog, HB, HT, HF, HR⟩ := hrel
    rcases Nat.lt_or_ge j L with hlt | hge
    · have hdj : decide (j < L) = true := decide_eq_true hlt
      have hdi : decide ((j : Int) < (L : Int)) = true := decide_eq_true (by omega)
      obtain ⟨⟨ri, sa, sn, sc⟩, hri⟩ : ∃ r, (ra ++ rb)[j]? = some r := ⟨_, List.getElem?_eq_getElem (by have := HRL.out; omega)⟩
      obtain ⟨xi, hxi⟩ : ∃ x, (la ++ lb)[j]? = some x := ⟨_, List.getElem?_eq_getElem (by have := HLL.out; omega)⟩
      obtain ⟨hk1, hli⟩ := HEA.out j _ xi hri hxi
      obtain ⟨hk2, hk3⟩ := HKE.out j xi hxi
      obtain ⟨kx, hkx⟩ : ∃ kx : Nat, xi.k = (kx : Int) := ⟨xi.k.toNat, by omega⟩
      have hkx8 : kx < 256 := by omega
      have hkx9 : (kx : Int) < 256 := by omega
      simp only at hk1 hli
      have hri2 : ri = (kx : Int) := by omega
      subst hri2
      obtain ⟨b, o, eA, hbl, hc⟩ := HR.out.get ri_ok hri
      subst eA
      have y0 : wr.cell? ⟨b, o + j * 2, none⟩ = some (.int .i64 (kx : Int)) := hc 0 _ rfl
      have y1 : wr.cell? ⟨b, o + j * 2 + 1, none⟩ = some (.slice sa sn sc) := hc 1 _ rfl
      have HFN := Lib.hid (HF.out.step hxi hkx hli)
      clear hc hxi hri hk1 hk2 hk3 hkx hli hbl
      go_upto_region 5 with fail
      have HBK := Lib.hid (below_new wr (.cells #[.int .i64 (kx : Int), .slice sa sn sc] 51))
      have HK := Lib.hid (Bk.new wr #[.int .i64 (kx : Int), .slice sa sn sc] 51)
      clear y0 y1
      obtain ⟨g, hg⟩ : ∃ g, g = wr.heap.size := ⟨_, rfl⟩
      rw [← hg] at HK ⊢
      clear hg
      generalize wr.alloc (.cells #[.int .i64 (kx : Int), .slice sa sn sc] 51) = wk at *
      have y0 : wk.cell? ⟨g, 0, none⟩ = some (.int .i64 (kx : Int)) := HK.out.c 0 _ rfl
      have y1 : wk.cell? ⟨g, 1, none⟩ = some (.slice sa sn sc) := HK.out.c 1 _ rfl
      have HTK := Lib.hid (HT.out.below HBK.out)
      have t0 := HTK.out.c kx _ (get_arrS f kx hkx8)
      have tf := HTK.out.fr kx
      have hs := setCell_grown wk w.heap.size kx (.slice sa sn sc)
      have HTS : Hid (Bk (wk.setCell ⟨w.heap.size, kx, none⟩ (.slice sa sn sc)) w.heap.size (arrS fun i => if i = kx then ⟨sa, sn, sc⟩ else f i) 88) := Lib.hid (by
        have h := HTK.out.set kx (slV ⟨sa, sn, sc⟩)
        rw [arrS_set f (fun i => if i = kx then ⟨sa, sn, sc⟩ else f i) kx ⟨sa, sn, sc⟩ (fun i _ => rfl)] at h
        exact h)
      have HRS : Hid (RI.At (wk.setCell ⟨w.heap.size, kx, none⟩ (.slice sa sn sc)) (some ⟨b, o, none⟩) (ra ++ rb)) := Lib.hid ((HR.out.below HBK.out).turn (turn_one hs) (fun b2 o2 e => .inr (HF3.out b2 o2 e)))
      have HBS : Hid (Below w.heap.size w (wk.setCell ⟨w.heap.size, kx, none⟩ (.slice sa sn sc))) := Lib.hid (((HB.out.trans (HBK.out.mono HB.out.size))).grown hs (Nat.le_trans HB.out.size HBK.out.size) (fun q e => by injection e with e; omega))
      clear hs HT HR HB HF
      go_wp2_with fail
      go_roundg (gk - 1)
      case measure => omega
      case rel => exact ⟨j + 1, _, by go_num, by omega, HBS, HTS, HFN, HRS⟩
    · obtain rfl : j = L := by omega
      clear hge
      have HFL : Hid (TabL w f (la ++ lb)) := Lib.hid (by
        have h := HF.out
        rwa [List.take_of_length_le (by have := HLL.out; omega)] at h)
      have HGG := Lib.hid HT.out.lt
      clear HF HR
      go_wp2_with (refine wpList_load_row rfl 88 (.tmp 5) rfl w.heap.size rfl _ (arrS f) _ _ HT.out Try.underlying88 rfl (by rw [size_arrS]; exact arrS_size) ?_)
      obtain ⟨wa, hwa⟩ : ∃ wa, wa = wr := ⟨_, rfl⟩
      subst hwa
      go_loopg [8, 27] 256 (fun gn v i wr => ∃ (j : Nat) (V : Value) (rs : List Ir), i = .int .i64 (j : Int) ∧ V = v ∧ j + gn = 256 ∧ Hid (Below w.heap.size w wr) ∧ Hid (w.heap.size < wr.heap.size) ∧ Hid (Imz wr w.heap.size V (.slice none 0 0) rs (upTo la lb j)))
      case atStart => exact ⟨0, _, [], rfl, rfl, by omega, HB, HGG, Lib.hid (Imz.nil _ _)⟩
      case round =>
        obtain ⟨u, V, rs, rfl, rfl, hog2, HBW, HGW, HI⟩ := hrel
        clear HB HT
        rcases Nat.lt_or_ge u 256 with hlt | hge
        · have hdj : decide (u < 256) = true := decide_eq_true hlt
          have hdi : decide ((u : Int) < 256) = true := decide_eq_true (by omega)
          obtain ⟨⟨fa, fn, fc⟩, hfu⟩ : ∃ s, f u = s := ⟨_, rfl⟩
          have hli := HFL.out u hlt
          rw [hfu] at hli
          simp only at hli
          have HFU := Lib.hid hfu
          have HLI := Lib.hid hli
          clear hfu
          rcases both_scan HGA.out.1 HGA.out.2 u with ⟨hs, hbt⟩ | ⟨hs, hbt⟩
          · have hn0 : fn = 0 := by rw [← hli.len, hs]; rfl
            subst hn0
            have HUS : Hid (upTo la lb (u + 1) = upTo la lb u) := Lib.hid (by rw [upTo_step, hbt]; simp)
            clear hs hbt hli
            go_wp2_with (refine wpList_index_sl f u hlt fa 0 fc HFU.out rfl (.tmp 26) (.tmp 27) rfl rfl rfl ?_)
            go_roundg (gk - 1)
            case measure => omega
            case rel => exact ⟨u + 1, V, rs, by go_num, rfl, by omega, HBW, HGW, Lib.hid (by rw [HUS.out]; exact HI.out)⟩
          · have hn0 : fn = 32 := by rw [← hli.len, hs]
            subst hn0
            obtain ⟨d, hd⟩ : ∃ d, d = scan (u : Int) (la ++ lb) [] := ⟨_, rfl⟩
            rw [← hd] at hs hbt HLI hli
            have HUS : Hid (upTo la lb (u + 1) = upTo la lb u ++ [⟨(u : Int), d⟩]) := Lib.hid (by rw [upTo_step, hbt]; simp)
            have HD := Lib.hid hs
            obtain ⟨ad, had⟩ : ∃ ad, fa = some ad := by
              rcases hli.rd with h | ⟨b, o, e, _⟩
              · rw [h] at hs; cases hs
              · exact ⟨_, e⟩
            subst had
            clear hs hbt hli hd
            go_wp2_with (refine wpList_index_sl f u hlt (some ad) 32 fc HFU.out rfl (.tmp 26) (.tmp 27) rfl rfl rfl ?_)
            refine (clone8_any wr ad 32 fc d (HLI.out.up HBW.out).rd HD.out (by omega)).mono ?_
            rintro e w5 ⟨A5, c5, rfl, ho5, hb5⟩
            obtain ⟨b5, HAB⟩ : ∃ b', Hid (A5 = some ⟨b', 0, none⟩) := by
              have h := ho5.2
              rcases h with ⟨_, h2⟩ | ⟨q, c, cur, e, _⟩
              · exact absurd h2 (by decide)
              · injection e with e _ _
                exact ⟨q, Lib.hid e⟩
            have HBB : Hid (wr.heap.size ≤ b5 ∧ b5 < w5.heap.size) := Lib.hid (ho5.block ⟨b5, 0, none⟩ HAB.out)
            have HL5 := Lib.hid ho5.lies
            have HB5 := Lib.hid hb5
            obtain rfl := HAB.out
            clear ho5 hb5 HAB
            go_wp2_with (at_builtin; refine RI.wpList_append ri_ok rfl (.tmp 34) (.tmp 39) rfl (w.heap.size + 1) V rs [⟨(u : Int), some ⟨b5, 0, none⟩, 32, c5⟩] rfl ((HI.out.own.below HB5.out).below (below_new _ _)) _ 1 1 rfl (Rk.At.new ri_ok _ ⟨(u : Int), some ⟨b5, 0, none⟩, 32, c5⟩ _) rfl (.inr ⟨_, _, rfl⟩) (by have h1 := HI.out.rl; have h2 := upTo_len la lb u; rw [List.length_singleton]; omega) (by have := HGW.out; have := HB5.out.size; simp; omega) ?_; intro v9 w9 ho9 hg9 ha9)
            have HB6 := below_new w5 (.cells #[.int .i64 (u : Int), .slice (some ⟨b5, 0, none⟩) 32 c5] 51)
            have hin := HI.out.add rfl (below_two HB5.out HB6) (HL5.out.up HB6) HBB.out.1 (by have := HB6.size; have := HBB.out.2; omega) (by have := HGW.out; have := HBB.out.1; omega) (y := (u : Int)) (by unfold okI; omega) ho9 hg9 ha9
            have hbw := (HBW.out.trans ((below_two HB5.out HB6).mono HBW.out.size)).grown hg9 (Nat.le_trans HBW.out.size (below_two HB5.out HB6).size) (fun q e => by have := HI.out.own.lt q e; omega)
            have HIN := Lib.hid hin
            have HBN := Lib.hid hbw
            have HGN : Hid (w.heap.size < w9.heap.size) := Lib.hid (by have := HGW.out; have := (below_two HB5.out HB6).size; have := hg9.size; omega)
            clear hin hbw ho9 hg9 ha9 HB6
            go_wp2_with fail
            go_roundg (gk - 1)
            case measure => omega
            case rel => exact ⟨u + 1, v9, _, by go_num, rfl, by omega, HBN, HGN, Lib.hid (by rw [HUS.out]; exact HIN.out)⟩
        · obtain rfl : u = 256 := by omega
          obtain ⟨Av, nv, cv, hV⟩ := own_sl ri_ok HI.out.own
          subst hV
          have hd4 : decide (((256 : Nat) : Int) < 256) = false := by decide
          have hd6 : decide ((256 : Int) < 256) = false := by decide
          have hd5 : decide (256 < 256) = false := by decide
          go_wp2_with fail
          go_ret
          exact ⟨Av, nv, cv, rs, rfl, Lib.hid HI.out.imAt.1, HBW, Lib.hid (fun z hz => HI.out.imAt.2 z (by omega))⟩

end Go.Proofs.Ytjpnihmijnpjcaa
