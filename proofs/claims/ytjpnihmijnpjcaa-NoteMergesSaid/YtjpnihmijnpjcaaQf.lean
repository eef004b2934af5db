/-
  The program's reader of a note, all of it.
-/
import Derived.Test.YtjpnihmijnpjcaaQe
import Derived.Deep.CutRange
namespace Go.Proofs.Ytjpnihmijnpjcaa
set_option maxRecDepth 100000
set_option linter.unusedVariables false
set_option linter.unusedSimpArgs false
open Go.RowKit Wm Nn

/-- the program's reader over the bytes, its struct in a block, behind it the answer's -/
structure Rn (w V : World) (rr : Nat) (A : Option Addr) (c n k : Nat) (l : List UInt8) : Prop where
  kb : Bk V w.heap.size #[.pointer (some ⟨rr, 0, none⟩)] 62
  zb : Bk V (w.heap.size + 1) (ntC .zero nr0) 32
  cu : Cur V rr 82 A c n k l
  be : w.grownBy V (some rr)
  rw : rr < w.heap.size
section
variable {w V W : World} {rr c n k j : Nat} {A : Option Addr} {l : List UInt8} {S : Nat → Prop}
theorem Cur.turn {g t : Nat} (h : Cur V g t A c n k l) (ht : Turn S V W) (hS : ∀ q, S q → g < q) : Cur W g t A c n k l :=
  ⟨(ht.block g h.lt (fun h => by have := hS _ h; omega)).trans h.blk, h.le, h.len, h.cap_, h.nm, h.rd.below (ht.below (fun k hk => by have := hS k hk; omega) (Nat.le_of_lt h.lt))⟩
theorem Rn.go (h : Rn w V rr A c n k l) (hc : Cur W rr 82 A c n j l) (ht : Turn S V W) (hS : ∀ q, S q → q = rr ∨ w.heap.size + 2 ≤ q) : Rn w W rr A c n j l := by
  have hr := h.rw
  have hs := h.be.size
  refine ⟨h.kb.turn ht (fun e => by have := hS _ e; omega), h.zb.turn ht (fun e => by have := hS _ e; omega), hc, ⟨ht.os.trans h.be.os, ht.tape.trans h.be.tape, ht.output.trans h.be.output, Nat.le_trans hs ht.size, fun i hi hne => ?_⟩, hr⟩
  refine (ht.block i (Nat.lt_of_lt_of_le hi hs) (fun e => ?_)).trans (h.be.block i hi hne)
  rcases hS i e with h1 | h1
  · exact hne (by rw [h1])
  · omega
theorem Rn.move (h : Rn w V rr A c n k l) (hc : Cur W rr 82 A c n j l) (hg : V.grownBy W (some rr)) : Rn w W rr A c n j l := h.go hc (turn_one hg) (fun q e => .inl e)
theorem Rn.far (h : Rn w V rr A c n k l) (ht : Turn S V W) (hS : ∀ q, S q → w.heap.size + 2 ≤ q) : Rn w W rr A c n k l :=
  h.go (h.cu.turn ht (fun q e => by have := hS q e; have := h.rw; omega)) ht (fun q e => .inr (hS q e))
theorem Rn.below (h : Rn w V rr A c n k l) (hb : Below V.heap.size V W) : Rn w W rr A c n k l := h.far (S := fun _ => False) (Turn.ofBelow hb) (fun _ e => e.elim)
theorem Rn.set (h : Rn w V rr A c n k l) (i : Nat) (v : Value) : Rn w (V.setCell ⟨w.heap.size + 2, i, none⟩ v) rr A c n k l := h.far (turn_one (setCell_grown V (w.heap.size + 2) i v)) (fun q e => by rw [e]; exact Nat.le_refl _)

/-- what the reader answers -/
def NoteOut (w : World) (rr : Nat) (l : List UInt8) (e : Ending) (w' : World) : Prop := Hid (w.grownBy w' (some rr)) ∧
  ((decE l = 0 ∧ ∃ p, e = .returned (ntV (tell l) p) ∧ NtAt w' (tell l) p ∧ ∀ z, z < w.heap.size → p.Off z) ∨ (∃ E, decE l = E ∧ E ≠ 0 ∧ e = .panicked (errP E)))
theorem Rn.bad (h : Rn w V rr A c n k l) (hg : V.grownBy W (some rr)) {E : Int} (hE : decE l = E) (h0 : E ≠ 0) : NoteOut w rr l (.panicked (errP E)) W := ⟨Lib.hid (grown_trans h.be hg), .inr ⟨E, hE, h0, rfl⟩⟩
end

theorem Imz.more2 {w V1 w8 : World} {rr g : Nat} {V U V' : Value} {rs : List Ir} {l : List Im} {k s : Int} {t : TypeId} (h : Imz w g V U rs l) (hU : U.ownBlock = none) (hB : Turn (fun q => q = rr) w V1) (hrg : rr < g) {b' c' : Nat} {y : Int} {d : List UInt8} (hL : Lies V1 (some ⟨b', 0, none⟩) c' 32 d) (hb : w.heap.size ≤ b') (hbV : b' < V1.heap.size) (hy : okI y) (hO8 : RI.Own w8 (g + 1) V' (rs ++ [⟨y, some ⟨b', 0, none⟩, 32, c'⟩])) (hg8 : V1.grownBy w8 V.ownBlock) (ha8 : V'.ownBlock = V.ownBlock ∨ V'.ownBlock = some V1.heap.size) (hG : Bk w g (outK k s V U) t) :
    Imz (w8.setCell ⟨g, 2, none⟩ V') g V' U (rs ++ [⟨y, some ⟨b', 0, none⟩, 32, c'⟩]) (l ++ [⟨y, d⟩]) ∧ Bk (w8.setCell ⟨g, 2, none⟩ V') g (outK k s V' U) t ∧ Turn (fun q => q = rr ∨ q = g ∨ V.ownBlock = some q) w (w8.setCell ⟨g, 2, none⟩ V') ∧ Turn (fun q => q = g ∨ V.ownBlock = some q) V1 (w8.setCell ⟨g, 2, none⟩ V') := by
  have hgl := hG.lt
  have hs := setCell_grown w8 g 2 V'
  have hT8 : Turn (fun q => V.ownBlock = some q) V1 w8 := (Turn.refl _ _).grown hg8 (fun q e => .inl e)
  have hT9 : Turn (fun q => q = g ∨ V.ownBlock = some q) V1 (w8.setCell ⟨g, 2, none⟩ V') := (hT8.mono (fun q e => .inr e)).grown hs (fun q e => by injection e with e; exact .inl (.inl e.symm))
  have hTw : Turn (fun q => q = rr ∨ q = g ∨ V.ownBlock = some q) w (w8.setCell ⟨g, 2, none⟩ V') := (hB.mono (fun q e => .inl e)).trans (hT9.mono (fun q e => .inr e))
  have hG8 : Bk w8 g (outK k s V U) t := (hG.turn hB (by omega)).far hg8 (fun e => by have := h.own.lt g e.symm; omega)
  have hvb : ∀ q, V.ownBlock = some q → g < q ∧ q < w.heap.size := fun q e => by have := h.own.lt q e; omega
  have hB1 := hB.size
  have h8s := hT8.size
  have h9s := hT9.size
  refine ⟨⟨?_, by simp [h.rl], fun q hq => by rw [hU]; simp, fun i r x hr hx => ?_⟩, hG8.set 2 V', hTw, hT9⟩
  · refine hO8.turn (S := fun k => k = g) ⟨hs.os, hs.tape, hs.output, hs.size, fun k hk hn => hs.block k hk (fun e => hn (by injection e with e))⟩ (fun q hq e => by have := hO8.lt q hq; omega)
  · rcases Nat.lt_or_ge i rs.length with hi | hi
    · rw [List.getElem?_append_left hi] at hr
      rw [List.getElem?_append_left (by rw [← h.rl]; exact hi)] at hx
      obtain ⟨e1, e2, e3, b, e4, e5, e6, e7, e8⟩ := h.each i r x hr hx
      refine ⟨e1, e2.turn hTw (fun q o e hq => ?_), e3, b, e4, e5, by omega, fun e => ?_, e8⟩
      · rw [e4] at e
        injection e with e
        injection e with e _
        subst e
        rcases hq with hq | hq | hq
        · omega
        · omega
        · exact e7 hq
      · rcases ha8 with h1 | h1
        · rw [h1] at e; exact e7 e
        · rw [h1] at e; injection e with e; omega
    · rw [List.getElem?_append_right hi] at hr
      rw [List.getElem?_append_right (by rw [← h.rl]; exact hi), ← h.rl] at hx
      obtain ⟨q, hq⟩ : ∃ q, i - rs.length = q := ⟨_, rfl⟩
      rw [hq] at hr hx
      cases q with
      | succ q => simp at hr
      | zero =>
        simp at hr hx
        subst hr; subst hx
        refine ⟨rfl, hL.turn hT9 (fun q o e hq => ?_), hy, b', rfl, by omega, by omega, fun e => ?_, by rw [hU]; simp⟩
        · injection e with e
          injection e with e _
          subst e
          rcases hq with hq | hq
          · omega
          · have := hvb _ hq; omega
        · rcases ha8 with h1 | h1
          · rw [h1] at e; have := hvb _ e; omega
          · rw [h1] at e; injection e with e; omega

theorem note_boxed {w : World} {rr c n k : Nat} {A : Option Addr} {l : List UInt8} (h : Cur w rr 82 A c n k l) :
    Hid (Rn w (((w.alloc (.cells #[.pointer (some ⟨rr, 0, none⟩)] 62)).alloc (.cells (ntC .zero nr0) 32)).alloc (.cells (ntC .zero nr0) 32)) rr A c n k l) ∧ Hid (Bk (((w.alloc (.cells #[.pointer (some ⟨rr, 0, none⟩)] 62)).alloc (.cells (ntC .zero nr0) 32)).alloc (.cells (ntC .zero nr0) 32)) (w.heap.size + 2) (outK 0 0 (.slice none 0 0) (.slice none 0 0)) 32) := by
  obtain ⟨h1, h2, h3, h4⟩ := rd_boxed2 h (ntC .zero nr0) 32
  have h5 := Bk.new ((w.alloc (.cells #[.pointer (some ⟨rr, 0, none⟩)] 62)).alloc (.cells (ntC .zero nr0) 32)) (ntC .zero nr0) 32
  have hz : ((w.alloc (.cells #[.pointer (some ⟨rr, 0, none⟩)] 62)).alloc (.cells (ntC .zero nr0) 32)).heap.size = w.heap.size + 2 := by simp
  rw [hz] at h5
  have hb := below_new ((w.alloc (.cells #[.pointer (some ⟨rr, 0, none⟩)] 62)).alloc (.cells (ntC .zero nr0) 32)) (.cells (ntC .zero nr0) 32)
  exact ⟨Lib.hid ⟨h3.out.below hb, h4.out.below hb, h1.out.below hb, grown_of_below (below_two h2.out hb) _, h.lt⟩, Lib.hid h5⟩

set_option maxHeartbeats 4000000 in
theorem note_any (rr c n : Nat) (A : Option Addr) (l : List UInt8) (w : World) (h : Cur w rr 82 A c n 0 l) (hn : n ≤ 100000) : Calls Try.prog 30 #[rdV rr] w (NoteOut w rr l) := by
  have HLN := Lib.hid h.len
  obtain ⟨HD, HG⟩ := note_boxed h
  clear h
  obtain ⟨PO, hPO⟩ : ∃ PO, PO = NoteOut w rr l := ⟨_, rfl⟩
  rw [← hPO]
  have HPO := Lib.hid hPO
  clear hPO
  unfold rdV
  go_enter Try.func30, Try.ntmps30
  go_upto_region 2 with fail
  have hC : (#[.int .i64 0, .int .i64 0, .slice none 0 0, .slice none 0 0] : Array Value) = ntC .zero nr0 := rfl
  rw [hC]
  clear hC
  generalize ((w.alloc (.cells #[.pointer (some ⟨rr, 0, none⟩)] 62)).alloc (.cells (ntC .zero nr0) 32)).alloc (.cells (ntC .zero nr0) 32) = w0 at *
  have HGR : Hid (rr < w.heap.size) := Lib.hid HD.out.rw
  obtain ⟨g, hg⟩ : ∃ g, g = w.heap.size + 2 := ⟨_, rfl⟩
  have HGG := Lib.hid hg
  have hHS : Hid (∀ {V : World} {k : Nat} (i : Nat) (v : Value), Rn w V rr A c n k l → Rn w (V.setCell ⟨g, i, none⟩ v) rr A c n k l) := Lib.hid (fun i v h => by rw [hg]; exact h.set i v)
  rw [← hg] at HG ⊢
  clear hg
  -- the first number
  rcases Nat.lt_or_ge n 1 with h1 | h1
  · have HE := Lib.hid (decE_a (b := l) (by have := HLN.out; omega))
    go_wp2_with (refine wpList_load_bk ty_reader HD.out.kb rfl rfl (.tmp 1) rfl rfl ?_)
    refine (number_no HD.out.cu 1 (by omega) (by omega) (by omega)).mono ?_
    rintro e w1 ⟨rfl, HG1⟩
    go_wp2_with fail
    exact ⟨rfl, by rw [HPO.out]; exact HD.out.bad HG1.out HE.out (by decide)⟩
  go_wp2_with (refine wpList_load_bk ty_reader HD.out.kb rfl rfl (.tmp 1) rfl rfl ?_)
  refine (number_yes HD.out.cu 1 1 1 rfl (by omega) (by omega) rfl (by omega)).mono ?_
  rintro e w1 ⟨rfl, HC1, HG1⟩
  have HD1 := Lib.hid (HD.out.move HC1.out HG1.out)
  have HV1 := Lib.hid (HG.out.far HG1.out (fun e => by have := HGR.out; have := HGG.out; injection e with e; omega))
  clear HD HG HC1 HG1
  have hK : num l 0 1 ≤ 255 := by have := num_lt l 0 1; omega
  obtain ⟨K, hKe⟩ : ∃ K, K = num l 0 1 := ⟨_, rfl⟩
  rw [← hKe] at hK ⊢
  have HK := Lib.hid hKe
  clear hKe
  have f0 := HV1.out.fr 0
  have c0 : w1.cell? ⟨g, 0, none⟩ = some (.int .i64 0) := HV1.out.c 0 _ rfl
  have HD2 := Lib.hid (hHS.out 0 (.int .i64 (K : Int)) HD1.out)
  have HV2 : Hid (Bk (w1.setCell ⟨g, 0, none⟩ (.int .i64 (K : Int))) g (outK (K : Int) 0 (.slice none 0 0) (.slice none 0 0)) 32) := Lib.hid (HV1.out.set 0 _)
  clear HD1 HV1
  go_upto_region 3 with fail
  clear f0 c0
  generalize w1.setCell ⟨g, 0, none⟩ (.int .i64 (K : Int)) = w2 at *
  -- the second
  rcases Nat.lt_or_ge n 7 with h2 | h2
  · have HE := Lib.hid (decE_a (b := l) (by have := HLN.out; omega))
    go_wp2_with (refine wpList_load_bk ty_reader HD2.out.kb rfl rfl (.tmp 1) rfl rfl ?_)
    refine (number_no HD2.out.cu 6 (by omega) (by omega) (by omega)).mono ?_
    rintro e w3 ⟨rfl, HG1⟩
    go_wp2_with fail
    exact ⟨rfl, by rw [HPO.out]; exact HD2.out.bad HG1.out HE.out (by decide)⟩
  go_wp2_with (refine wpList_load_bk ty_reader HD2.out.kb rfl rfl (.tmp 1) rfl rfl ?_)
  refine (number_yes HD2.out.cu 6 6 7 rfl (by omega) (by omega) rfl (by omega)).mono ?_
  rintro e w3 ⟨rfl, HC1, HG1⟩
  have HD1 := Lib.hid (HD2.out.move HC1.out HG1.out)
  have HV1 := Lib.hid (HV2.out.far HG1.out (fun e => by have := HGR.out; have := HGG.out; injection e with e; omega))
  clear HD2 HV2 HC1 HG1
  have hS : num l 1 6 ≤ 281474976710655 := by have := num_lt l 1 6; omega
  obtain ⟨S, hSe⟩ : ∃ S, S = num l 1 6 := ⟨_, rfl⟩
  rw [← hSe] at hS ⊢
  have HS := Lib.hid hSe
  clear hSe
  have f0 := HV1.out.fr 1
  have c0 : w3.cell? ⟨g, 1, none⟩ = some (.int .i64 0) := HV1.out.c 1 _ rfl
  have HD2 := Lib.hid (hHS.out 1 (.int .i64 (S : Int)) HD1.out)
  have HV2 : Hid (Bk (w3.setCell ⟨g, 1, none⟩ (.int .i64 (S : Int))) g (outK (K : Int) (S : Int) (.slice none 0 0) (.slice none 0 0)) 32) := Lib.hid (HV1.out.set 1 _)
  clear HD1 HV1
  go_upto_region 4 with fail
  clear f0 c0
  generalize w3.setCell ⟨g, 1, none⟩ (.int .i64 (S : Int)) = w4 at *
  -- how many images
  rcases Nat.lt_or_ge n 9 with h3 | h3
  · have HE := Lib.hid (decE_a (b := l) (by have := HLN.out; omega))
    go_wp2_with (refine wpList_load_bk ty_reader HD2.out.kb rfl rfl (.tmp 1) rfl rfl ?_)
    refine (count_short HD2.out.cu (by omega)).mono ?_
    rintro e w5 ⟨rfl, HG1⟩
    go_wp2_with fail
    exact ⟨rfl, by rw [HPO.out]; exact HD2.out.bad HG1.out HE.out (by decide)⟩
  have HMD : Hid (mOf l = num l 7 2) := Lib.hid rfl
  rcases Nat.lt_or_ge 256 (num l 7 2) with h4 | h4
  · have HE := Lib.hid (decE_b (b := l) (by have := HLN.out; omega) (by rw [HMD.out]; exact h4))
    have H4 := Lib.hid h4
    clear h4
    go_wp2_with (refine wpList_load_bk ty_reader HD2.out.kb rfl rfl (.tmp 1) rfl rfl ?_)
    refine (count_many HD2.out.cu (by omega) H4.out).mono ?_
    rintro e w5 ⟨rfl, HG1⟩
    go_wp2_with fail
    exact ⟨rfl, by rw [HPO.out]; exact HD2.out.bad HG1.out HE.out (by decide)⟩
  have H4 := Lib.hid h4
  clear h4
  go_wp2_with (refine wpList_load_bk ty_reader HD2.out.kb rfl rfl (.tmp 1) rfl rfl ?_)
  refine (count_yes HD2.out.cu 9 rfl (by omega) H4.out).mono ?_
  rintro e w5 ⟨rfl, HC1, HG1⟩
  have HD3 := Lib.hid (HD2.out.move HC1.out HG1.out)
  have HV3 := Lib.hid (HV2.out.far HG1.out (fun e => by have := HGR.out; have := HGG.out; injection e with e; omega))
  clear HD2 HV2 HC1 HG1
  have hM : num l 7 2 ≤ 256 := H4.out
  obtain ⟨mm, hMe⟩ : ∃ mm, mm = num l 7 2 := ⟨_, rfl⟩
  rw [← hMe] at hM ⊢
  have HM : Hid (mOf l = mm) := Lib.hid hMe.symm
  clear hMe h1 h2 H4 HMD
  go_wp2_with fail
  go_loopg [12] mm (fun gn i wr => ∃ (j k : Nat) (V : Value) (rs : List Ir), i = .int .i64 (j : Int) ∧ j + gn = mm ∧ k = 9 + 33 * j ∧ Hid (Rn w wr rr A c n k l) ∧ Hid (Bk wr g (outK (K : Int) (S : Int) V (.slice none 0 0)) 32) ∧ Hid (Imz wr g V (.slice none 0 0) rs (tIms l j)))
  case atStart => exact ⟨0, 9, _, [], rfl, by omega, rfl, HD3, HV3, Lib.hid (Imz.nil _ _)⟩
  case round =>
    obtain ⟨j, k, V, rs, rfl, hog, hk, HD, HG, HI⟩ := hrel
    rcases Nat.lt_or_ge j mm with hlt | hge
    · have hdj : decide (j < mm) = true := decide_eq_true hlt
      have hdi : decide ((j : Int) < (mm : Int)) = true := decide_eq_true (by omega)
      have HVB : Hid (∀ q, V.ownBlock = some q → g < q ∧ q < wr.heap.size) := Lib.hid (fun q e => by have := HI.out.own.lt q e; omega)
      have k2 : ∀ W, Turn (fun q => q = rr ∨ q = g ∨ V.ownBlock = some q) wr W → (loadVar 62 ⟨w.heap.size, 0, none⟩).run Try.prog W = .ok (.agg #[.pointer (some ⟨rr, 0, none⟩)]) W := fun W hW => Bk.load ty_reader (HD.out.kb.turn hW (fun e => by
        have h1 := HGR.out
        have h2 := HGG.out
        rcases e with e | e | e
        · omega
        · omega
        · have := HVB.out _ e; omega)) rfl
      have K2 := Lib.hid k2
      clear k2
      have HGX := Lib.hid (show Bk (World.drew wr) g (outK (K : Int) (S : Int) V (.slice none 0 0)) 32 from HG.out.below (Below.refl _ _).drew)
      have HCX := Lib.hid (show Cur (World.drew wr) rr 82 A c n k l from HD.out.cu.below (Below.refl _ _).drew)
      rcases Nat.lt_or_ge n (k + 33) with hs | hs
      · have HE := Lib.hid (decE_c (b := l) (by rw [HM.out]; omega) (by rw [HM.out, HLN.out]; omega))
        clear hk
        have k1 : ∀ W, Turn (fun q => q = rr) wr W → (loadVar 22 ⟨g, 2, none⟩).run Try.prog W = .ok V W := fun W hW => load_slice Try.underlying22 ((HG.out.turn hW (fun e => by have h1 := HGR.out; have h2 := HGG.out; omega)).c 2 _ rfl)
        go_upto_region 6 with fail
        refine wp_region_turn (X := (fun q => q = rr)) (by kernel_rfl) ?_
        have hS : Turn (fun q => q = rr) wr (World.drew wr) := (Turn.refl _ _).drew
        refine wpAnyH_take (i := 0) (oi := ⟨some 14, _, _, _, _, _⟩) (v := ?_) rfl (by kernel_rfl) (by kernel_rfl) (by kernel_rfl) (fun _ _ _ h => h) (Or.inl ⟨by rfl, ?_⟩) hS ?_
        rotate_left
        · intro W hW; go_simp; with_reducible rfl
        try simp only [Act.put, List.setIfInBounds_toArray, List.set_cons_zero, List.set_cons_succ]
        refine wpAnyH_take (i := 1) (oi := ⟨some 15, _, _, _, _, _⟩) (v := V) rfl (by kernel_rfl) (by kernel_rfl) (by kernel_rfl) (fun _ _ _ h => h) (Or.inl ⟨by rfl, fun W hW => exec_load rfl rfl (k1 W hW)⟩) hS ?_
        try simp only [Act.put, List.setIfInBounds_toArray, List.set_cons_zero, List.set_cons_succ]
        refine wpAnyH_take (i := 2) (oi := ⟨some 16, _, _, _, _, _⟩) (v := (.agg #[.pointer (some ⟨rr, 0, none⟩)])) rfl (by kernel_rfl) (by kernel_rfl) (by kernel_rfl) (fun _ _ _ h => h) (Or.inl ⟨by rfl, fun W hW => exec_load rfl rfl (K2.out W (hW.mono (fun q e => .inl e)))⟩) hS ?_
        try simp only [Act.put, List.setIfInBounds_toArray, List.set_cons_zero, List.set_cons_succ]
        refine wpAnyH_ready (rs := [3]) (by kernel_rfl) (by simp) ?_
        refine AllReadyH.cons (o := ⟨some 17, _, _, _, _, _⟩) rfl (fun Kr hKr => ?_) AllReadyH.nil
        -- operation 3: a call
        go_simp
        refine (image_no HCX.out hn hs).mono ?_
        rintro e V1 ⟨rfl, HG1⟩
        exact ⟨rfl, by rw [HPO.out]; exact HD.out.bad (grown_trans (grown_of_below (Below.refl _ _).drew _) HG1.out) HE.out (by decide)⟩
      go_upto_region 6 with fail
      have HIM : Hid (tIms l (j + 1) = tIms l j ++ [⟨(num l k 1 : Nat), (l.drop (k + 1)).take 32⟩]) := Lib.hid (by rw [tIms_step, hk]; unfold tIm; rw [show 9 + 33 * j + 1 = 10 + 33 * j by omega])
      have HYO : Hid (okI (num l k 1 : Nat)) := Lib.hid (num_okI _ (by omega))
      have HHK := Lib.hid hk
      obtain ⟨y, hy⟩ : ∃ y, y = num l k 1 := ⟨_, rfl⟩
      rw [← hy] at HIM HYO
      have HY := Lib.hid hy
      clear hk hy
      refine wp_region_turn (X := (fun q => q = rr ∨ q = g ∨ V.ownBlock = some q)) (by kernel_rfl) ?_
      have hS : Turn (fun q => q = rr ∨ q = g ∨ V.ownBlock = some q) wr (World.drew wr) := (Turn.refl _ _).drew
      refine wpAnyH_take (i := 0) (oi := ⟨some 14, _, _, _, _, _⟩) (v := ?_) rfl (by kernel_rfl) (by kernel_rfl) (by kernel_rfl) (fun _ _ _ h => h) (Or.inl ⟨by rfl, ?_⟩) hS ?_
      rotate_left
      · intro W hW; go_simp; with_reducible rfl
      try simp only [Act.put, List.setIfInBounds_toArray, List.set_cons_zero, List.set_cons_succ]
      refine wpAnyH_take (i := 2) (oi := ⟨some 16, _, _, _, _, _⟩) (v := (.agg #[.pointer (some ⟨rr, 0, none⟩)])) rfl (by kernel_rfl) (by kernel_rfl) (by kernel_rfl) (fun _ _ _ h => h) (Or.inl ⟨by rfl, fun W hW => exec_load rfl rfl (K2.out W hW)⟩) hS ?_
      try simp only [Act.put, List.setIfInBounds_toArray, List.set_cons_zero, List.set_cons_succ]
      refine wpAnyH_ready (rs := [1, 3]) (by kernel_rfl) (by simp) ?_
      refine AllReadyH.cons (o := ⟨some 15, _, _, _, _, _⟩) rfl (fun Kr hKr => ?_) (AllReadyH.cons (o := ⟨some 17, _, _, _, _, _⟩) rfl (fun Kr hKr => ?_) AllReadyH.nil)
      · skip
        -- operation 1: a step
        try rw [if_pos (by kernel_rfl)]
        have q2 : World.cell? _ ⟨g, 2, none⟩ = some V := HGX.out.c 2 _ rfl
        go_simp
        clear q2
        show Kr _ _
        refine hKr.out _ _ ?_ (fun _ => ?_)
        · exact hS
        clear hKr Kr
        try simp only [Act.put, List.setIfInBounds_toArray, List.set_cons_zero, List.set_cons_succ]
        refine wpAnyH_ready (rs := [3]) (by kernel_rfl) (by simp) ?_
        refine AllReadyH.cons (o := ⟨some 17, _, _, _, _, _⟩) rfl (fun Kr hKr => ?_) AllReadyH.nil
        -- operation 3: a call
        go_simp
        refine (image_yes HCX.out hn hs).mono ?_
        rintro e V1 ⟨HG1, b1, c1, rfl, HL1, HB1, HC1⟩
        rw [← HY.out]
        replace HGX := Lib.hid (HGX.out.far HG1.out (fun e => by have h1 := HGR.out; have h2 := HGG.out; injection e with e; omega))
        have HT1 : Hid (Turn (fun q => q = rr) wr V1) := Lib.hid ((Turn.ofBelow (Below.refl _ _).drew).trans (turn_one HG1.out))
        show Kr _ _
        refine hKr.out _ _ ?_ (fun _ => ?_)
        · exact hS.grown HG1.out (fun q e => .inl (.inl (by injection e with e; exact e.symm)))
        clear hKr Kr
        replace hS : Turn (fun q => q = rr ∨ q = g ∨ V.ownBlock = some q) wr V1 := hS.grown HG1.out (fun q e => .inl (.inl (by injection e with e; exact e.symm)))
        try simp only [Act.put, List.setIfInBounds_toArray, List.set_cons_zero, List.set_cons_succ]
        refine wpAnyH_ready (rs := [4]) (by kernel_rfl) (by simp) ?_
        refine AllReadyH.cons (o := ⟨some 18, _, _, _, _, _⟩) rfl (fun Kr hKr => ?_) AllReadyH.nil
        -- operation 4: a step
        try rw [if_pos (by kernel_rfl)]
        refine wp_build_im (.tmp 17) rfl (y : Int) (some ⟨b1, 0, none⟩) 32 c1 rfl ?_
        intro V3 g3 hle3 hlt3 hat3 hx3
        have HAT := Lib.hid hat3
        have HL3 := Lib.hid (HL1.out.up hx3)
        have HB3 : Hid (wr.heap.size ≤ b1 ∧ b1 < V3.heap.size) := Lib.hid ⟨HB1.out.1, Nat.lt_of_lt_of_le HB1.out.2 hx3.size⟩
        have HC3 := Lib.hid (HC1.out.below hx3)
        replace HT1 := Lib.hid (HT1.out.trans (Turn.ofBelow hx3))
        replace HGX := Lib.hid (HGX.out.below hx3)
        have HX3 := Lib.hid hx3
        clear hat3 hx3 hle3 hlt3
        show Kr _ _
        refine hKr.out _ _ ?_ (fun _ => ?_)
        · exact hS.trans (Turn.ofBelow HX3.out)
        clear hKr Kr
        replace hS : Turn (fun q => q = rr ∨ q = g ∨ V.ownBlock = some q) wr V3 := hS.trans (Turn.ofBelow HX3.out)
        try simp only [Act.put, List.setIfInBounds_toArray, List.set_cons_zero, List.set_cons_succ]
        refine wpAnyH_ready (rs := [5]) (by kernel_rfl) (by simp) ?_
        refine AllReadyH.cons (o := ⟨some 19, _, _, _, _, _⟩) rfl (fun Kr hKr => ?_) AllReadyH.nil
        -- operation 5: a step
        try rw [if_pos (by kernel_rfl)]
        refine Rk.wp_append ri_ok (.tmp 15) (.tmp 18) rfl (g + 1) V rs [⟨(y : Int), some ⟨b1, 0, none⟩, 32, c1⟩] rfl (HI.out.own.turn HT1.out (fun q hq e => by have h1 := HGR.out; have h2 := HGG.out; have := HVB.out q hq; omega)) _ 1 1 rfl HAT.out rfl (.inr ⟨_, _, rfl⟩) (by have h1 := HI.out.rl; rw [tIms_len] at h1; rw [List.length_singleton]; omega) (by have := HT1.out.size; have := HG.out.lt; omega) ?_
        intro v8 w8 ho8 hg8 ha8
        obtain ⟨A6, n6, c6, rfl⟩ := own_sl ri_ok ho8
        have HO8 := Lib.hid ho8
        have HG8 := Lib.hid hg8
        have HA8 := Lib.hid ha8
        clear ho8 ha8 hg8
        show Kr _ _
        refine hKr.out _ _ ?_ (fun _ => ?_)
        · exact hS.grown HG8.out (fun q e => .inl (.inr (.inr e)))
        clear hKr Kr
        replace hS : Turn (fun q => q = rr ∨ q = g ∨ V.ownBlock = some q) wr w8 := hS.grown HG8.out (fun q e => .inl (.inr (.inr e)))
        try simp only [Act.put, List.setIfInBounds_toArray, List.set_cons_zero, List.set_cons_succ]
        refine wpAnyH_take (i := 6) (oi := ⟨some 20, _, _, _, _, _⟩) (v := ?_) rfl (by kernel_rfl) (by kernel_rfl) (by kernel_rfl) (fun _ _ _ h => h) (Or.inl ⟨by rfl, ?_⟩) hS ?_
        rotate_left
        · intro W hW; go_simp; with_reducible rfl
        try simp only [Act.put, List.setIfInBounds_toArray, List.set_cons_zero, List.set_cons_succ]
        refine wpAnyH_ready (rs := [7]) (by kernel_rfl) (by simp) ?_
        refine AllReadyH.cons (o := ⟨none, _, _, _, _, _⟩) rfl (fun Kr hKr => ?_) AllReadyH.nil
        -- operation 7: a step
        try rw [if_pos (by kernel_rfl)]
        have hbk8 := HGX.out.far HG8.out (fun e => by have := HVB.out g e.symm; omega)
        have f3f := hbk8.fr 2
        have f3c : w8.cell? ⟨g, 2, none⟩ = some V := hbk8.c 2 _ rfl
        clear hbk8
        go_simp
        clear f3f f3c
        obtain ⟨hz1, hz2, hz3, hz4⟩ := HI.out.more2 rfl HT1.out (by have h1 := HGR.out; have h2 := HGG.out; omega) HL3.out HB3.out.1 HB3.out.2 HYO.out HO8.out HG8.out HA8.out HG.out
        show Kr _ _
        refine hKr.out _ _ ?_ (fun _ => ?_)
        · exact hz3
        clear hKr Kr
        replace hS : Turn (fun q => q = rr ∨ q = g ∨ V.ownBlock = some q) wr (w8.setCell ⟨g, 2, none⟩ (.slice A6 n6 c6)) := hz3
        try simp only [Act.put]
        refine wpAnyH_done (by kernel_rfl) ?_ _
        have HZ1 := Lib.hid hz1
        have HZ2 := Lib.hid hz2
        have HZ3 : Hid (Rn w _ rr A c n (k + 33) l) := Lib.hid (HD.out.go (HC3.out.turn hz4 (fun q hq => Or.elim hq (fun hq => by have := HGR.out; have := HGG.out; omega) (fun hq => by have := HVB.out q hq; have := HGR.out; have := HGG.out; omega))) hz3 (fun q hq => by have h2 := HGG.out; rcases hq with hq | hq | hq; exact .inl hq; exact .inr (by omega); exact .inr (by have := HVB.out q hq; omega)))
        clear hz1 hz2 hz3 hz4 hS
        generalize w8.setCell ⟨g, 2, none⟩ (.slice A6 n6 c6) = w9 at *
        go_wp2_with fail
        go_roundg (gk - 1)
        case measure => omega
        case rel => exact ⟨j + 1, k + 33, .slice A6 n6 c6, _, by go_num, by omega, by have := HHK.out; omega, HZ3, HZ2, Lib.hid (by rw [HIM.out]; exact HZ1.out)⟩
      · skip
        -- operation 3: a call
        go_simp
        refine (image_yes HCX.out hn hs).mono ?_
        rintro e V1 ⟨HG1, b1, c1, rfl, HL1, HB1, HC1⟩
        rw [← HY.out]
        replace HGX := Lib.hid (HGX.out.far HG1.out (fun e => by have h1 := HGR.out; have h2 := HGG.out; injection e with e; omega))
        have HT1 : Hid (Turn (fun q => q = rr) wr V1) := Lib.hid ((Turn.ofBelow (Below.refl _ _).drew).trans (turn_one HG1.out))
        show Kr _ _
        refine hKr.out _ _ ?_ (fun _ => ?_)
        · exact hS.grown HG1.out (fun q e => .inl (.inl (by injection e with e; exact e.symm)))
        clear hKr Kr
        replace hS : Turn (fun q => q = rr ∨ q = g ∨ V.ownBlock = some q) wr V1 := hS.grown HG1.out (fun q e => .inl (.inl (by injection e with e; exact e.symm)))
        try simp only [Act.put, List.setIfInBounds_toArray, List.set_cons_zero, List.set_cons_succ]
        refine wpAnyH_ready (rs := [1, 4]) (by kernel_rfl) (by simp) ?_
        refine AllReadyH.cons (o := ⟨some 15, _, _, _, _, _⟩) rfl (fun Kr hKr => ?_) (AllReadyH.cons (o := ⟨some 18, _, _, _, _, _⟩) rfl (fun Kr hKr => ?_) AllReadyH.nil)
        · skip
          -- operation 1: a step
          try rw [if_pos (by kernel_rfl)]
          have q2 : World.cell? _ ⟨g, 2, none⟩ = some V := HGX.out.c 2 _ rfl
          go_simp
          clear q2
          show Kr _ _
          refine hKr.out _ _ ?_ (fun _ => ?_)
          · exact hS
          clear hKr Kr
          try simp only [Act.put, List.setIfInBounds_toArray, List.set_cons_zero, List.set_cons_succ]
          refine wpAnyH_ready (rs := [4]) (by kernel_rfl) (by simp) ?_
          refine AllReadyH.cons (o := ⟨some 18, _, _, _, _, _⟩) rfl (fun Kr hKr => ?_) AllReadyH.nil
          -- operation 4: a step
          try rw [if_pos (by kernel_rfl)]
          refine wp_build_im (.tmp 17) rfl (y : Int) (some ⟨b1, 0, none⟩) 32 c1 rfl ?_
          intro V3 g3 hle3 hlt3 hat3 hx3
          have HAT := Lib.hid hat3
          have HL3 := Lib.hid (HL1.out.up hx3)
          have HB3 : Hid (wr.heap.size ≤ b1 ∧ b1 < V3.heap.size) := Lib.hid ⟨HB1.out.1, Nat.lt_of_lt_of_le HB1.out.2 hx3.size⟩
          have HC3 := Lib.hid (HC1.out.below hx3)
          replace HT1 := Lib.hid (HT1.out.trans (Turn.ofBelow hx3))
          replace HGX := Lib.hid (HGX.out.below hx3)
          have HX3 := Lib.hid hx3
          clear hat3 hx3 hle3 hlt3
          show Kr _ _
          refine hKr.out _ _ ?_ (fun _ => ?_)
          · exact hS.trans (Turn.ofBelow HX3.out)
          clear hKr Kr
          replace hS : Turn (fun q => q = rr ∨ q = g ∨ V.ownBlock = some q) wr V3 := hS.trans (Turn.ofBelow HX3.out)
          try simp only [Act.put, List.setIfInBounds_toArray, List.set_cons_zero, List.set_cons_succ]
          refine wpAnyH_ready (rs := [5]) (by kernel_rfl) (by simp) ?_
          refine AllReadyH.cons (o := ⟨some 19, _, _, _, _, _⟩) rfl (fun Kr hKr => ?_) AllReadyH.nil
          -- operation 5: a step
          try rw [if_pos (by kernel_rfl)]
          refine Rk.wp_append ri_ok (.tmp 15) (.tmp 18) rfl (g + 1) V rs [⟨(y : Int), some ⟨b1, 0, none⟩, 32, c1⟩] rfl (HI.out.own.turn HT1.out (fun q hq e => by have h1 := HGR.out; have h2 := HGG.out; have := HVB.out q hq; omega)) _ 1 1 rfl HAT.out rfl (.inr ⟨_, _, rfl⟩) (by have h1 := HI.out.rl; rw [tIms_len] at h1; rw [List.length_singleton]; omega) (by have := HT1.out.size; have := HG.out.lt; omega) ?_
          intro v8 w8 ho8 hg8 ha8
          obtain ⟨A6, n6, c6, rfl⟩ := own_sl ri_ok ho8
          have HO8 := Lib.hid ho8
          have HG8 := Lib.hid hg8
          have HA8 := Lib.hid ha8
          clear ho8 ha8 hg8
          show Kr _ _
          refine hKr.out _ _ ?_ (fun _ => ?_)
          · exact hS.grown HG8.out (fun q e => .inl (.inr (.inr e)))
          clear hKr Kr
          replace hS : Turn (fun q => q = rr ∨ q = g ∨ V.ownBlock = some q) wr w8 := hS.grown HG8.out (fun q e => .inl (.inr (.inr e)))
          try simp only [Act.put, List.setIfInBounds_toArray, List.set_cons_zero, List.set_cons_succ]
          refine wpAnyH_take (i := 6) (oi := ⟨some 20, _, _, _, _, _⟩) (v := ?_) rfl (by kernel_rfl) (by kernel_rfl) (by kernel_rfl) (fun _ _ _ h => h) (Or.inl ⟨by rfl, ?_⟩) hS ?_
          rotate_left
          · intro W hW; go_simp; with_reducible rfl
          try simp only [Act.put, List.setIfInBounds_toArray, List.set_cons_zero, List.set_cons_succ]
          refine wpAnyH_ready (rs := [7]) (by kernel_rfl) (by simp) ?_
          refine AllReadyH.cons (o := ⟨none, _, _, _, _, _⟩) rfl (fun Kr hKr => ?_) AllReadyH.nil
          -- operation 7: a step
          try rw [if_pos (by kernel_rfl)]
          have hbk8 := HGX.out.far HG8.out (fun e => by have := HVB.out g e.symm; omega)
          have f3f := hbk8.fr 2
          have f3c : w8.cell? ⟨g, 2, none⟩ = some V := hbk8.c 2 _ rfl
          clear hbk8
          go_simp
          clear f3f f3c
          obtain ⟨hz1, hz2, hz3, hz4⟩ := HI.out.more2 rfl HT1.out (by have h1 := HGR.out; have h2 := HGG.out; omega) HL3.out HB3.out.1 HB3.out.2 HYO.out HO8.out HG8.out HA8.out HG.out
          show Kr _ _
          refine hKr.out _ _ ?_ (fun _ => ?_)
          · exact hz3
          clear hKr Kr
          replace hS : Turn (fun q => q = rr ∨ q = g ∨ V.ownBlock = some q) wr (w8.setCell ⟨g, 2, none⟩ (.slice A6 n6 c6)) := hz3
          try simp only [Act.put]
          refine wpAnyH_done (by kernel_rfl) ?_ _
          have HZ1 := Lib.hid hz1
          have HZ2 := Lib.hid hz2
          have HZ3 : Hid (Rn w _ rr A c n (k + 33) l) := Lib.hid (HD.out.go (HC3.out.turn hz4 (fun q hq => Or.elim hq (fun hq => by have := HGR.out; have := HGG.out; omega) (fun hq => by have := HVB.out q hq; have := HGR.out; have := HGG.out; omega))) hz3 (fun q hq => by have h2 := HGG.out; rcases hq with hq | hq | hq; exact .inl hq; exact .inr (by omega); exact .inr (by have := HVB.out q hq; omega)))
          clear hz1 hz2 hz3 hz4 hS
          generalize w8.setCell ⟨g, 2, none⟩ (.slice A6 n6 c6) = w9 at *
          go_wp2_with fail
          go_roundg (gk - 1)
          case measure => omega
          case rel => exact ⟨j + 1, k + 33, .slice A6 n6 c6, _, by go_num, by omega, by have := HHK.out; omega, HZ3, HZ2, Lib.hid (by rw [HIM.out]; exact HZ1.out)⟩
        · skip
          -- operation 4: a step
          try rw [if_pos (by kernel_rfl)]
          refine wp_build_im (.tmp 17) rfl (y : Int) (some ⟨b1, 0, none⟩) 32 c1 rfl ?_
          intro V3 g3 hle3 hlt3 hat3 hx3
          have HAT := Lib.hid hat3
          have HL3 := Lib.hid (HL1.out.up hx3)
          have HB3 : Hid (wr.heap.size ≤ b1 ∧ b1 < V3.heap.size) := Lib.hid ⟨HB1.out.1, Nat.lt_of_lt_of_le HB1.out.2 hx3.size⟩
          have HC3 := Lib.hid (HC1.out.below hx3)
          replace HT1 := Lib.hid (HT1.out.trans (Turn.ofBelow hx3))
          replace HGX := Lib.hid (HGX.out.below hx3)
          have HX3 := Lib.hid hx3
          clear hat3 hx3 hle3 hlt3
          show Kr _ _
          refine hKr.out _ _ ?_ (fun _ => ?_)
          · exact hS.trans (Turn.ofBelow HX3.out)
          clear hKr Kr
          replace hS : Turn (fun q => q = rr ∨ q = g ∨ V.ownBlock = some q) wr V3 := hS.trans (Turn.ofBelow HX3.out)
          try simp only [Act.put, List.setIfInBounds_toArray, List.set_cons_zero, List.set_cons_succ]
          refine wpAnyH_ready (rs := [1]) (by kernel_rfl) (by simp) ?_
          refine AllReadyH.cons (o := ⟨some 15, _, _, _, _, _⟩) rfl (fun Kr hKr => ?_) AllReadyH.nil
          -- operation 1: a step
          try rw [if_pos (by kernel_rfl)]
          have q2 : World.cell? _ ⟨g, 2, none⟩ = some V := HGX.out.c 2 _ rfl
          go_simp
          clear q2
          show Kr _ _
          refine hKr.out _ _ ?_ (fun _ => ?_)
          · exact hS
          clear hKr Kr
          try simp only [Act.put, List.setIfInBounds_toArray, List.set_cons_zero, List.set_cons_succ]
          refine wpAnyH_ready (rs := [5]) (by kernel_rfl) (by simp) ?_
          refine AllReadyH.cons (o := ⟨some 19, _, _, _, _, _⟩) rfl (fun Kr hKr => ?_) AllReadyH.nil
          -- operation 5: a step
          try rw [if_pos (by kernel_rfl)]
          refine Rk.wp_append ri_ok (.tmp 15) (.tmp 18) rfl (g + 1) V rs [⟨(y : Int), some ⟨b1, 0, none⟩, 32, c1⟩] rfl (HI.out.own.turn HT1.out (fun q hq e => by have h1 := HGR.out; have h2 := HGG.out; have := HVB.out q hq; omega)) _ 1 1 rfl HAT.out rfl (.inr ⟨_, _, rfl⟩) (by have h1 := HI.out.rl; rw [tIms_len] at h1; rw [List.length_singleton]; omega) (by have := HT1.out.size; have := HG.out.lt; omega) ?_
          intro v8 w8 ho8 hg8 ha8
          obtain ⟨A6, n6, c6, rfl⟩ := own_sl ri_ok ho8
          have HO8 := Lib.hid ho8
          have HG8 := Lib.hid hg8
          have HA8 := Lib.hid ha8
          clear ho8 ha8 hg8
          show Kr _ _
          refine hKr.out _ _ ?_ (fun _ => ?_)
          · exact hS.grown HG8.out (fun q e => .inl (.inr (.inr e)))
          clear hKr Kr
          replace hS : Turn (fun q => q = rr ∨ q = g ∨ V.ownBlock = some q) wr w8 := hS.grown HG8.out (fun q e => .inl (.inr (.inr e)))
          try simp only [Act.put, List.setIfInBounds_toArray, List.set_cons_zero, List.set_cons_succ]
          refine wpAnyH_take (i := 6) (oi := ⟨some 20, _, _, _, _, _⟩) (v := ?_) rfl (by kernel_rfl) (by kernel_rfl) (by kernel_rfl) (fun _ _ _ h => h) (Or.inl ⟨by rfl, ?_⟩) hS ?_
          rotate_left
          · intro W hW; go_simp; with_reducible rfl
          try simp only [Act.put, List.setIfInBounds_toArray, List.set_cons_zero, List.set_cons_succ]
          refine wpAnyH_ready (rs := [7]) (by kernel_rfl) (by simp) ?_
          refine AllReadyH.cons (o := ⟨none, _, _, _, _, _⟩) rfl (fun Kr hKr => ?_) AllReadyH.nil
          -- operation 7: a step
          try rw [if_pos (by kernel_rfl)]
          have hbk8 := HGX.out.far HG8.out (fun e => by have := HVB.out g e.symm; omega)
          have f3f := hbk8.fr 2
          have f3c : w8.cell? ⟨g, 2, none⟩ = some V := hbk8.c 2 _ rfl
          clear hbk8
          go_simp
          clear f3f f3c
          obtain ⟨hz1, hz2, hz3, hz4⟩ := HI.out.more2 rfl HT1.out (by have h1 := HGR.out; have h2 := HGG.out; omega) HL3.out HB3.out.1 HB3.out.2 HYO.out HO8.out HG8.out HA8.out HG.out
          show Kr _ _
          refine hKr.out _ _ ?_ (fun _ => ?_)
          · exact hz3
          clear hKr Kr
          replace hS : Turn (fun q => q = rr ∨ q = g ∨ V.ownBlock = some q) wr (w8.setCell ⟨g, 2, none⟩ (.slice A6 n6 c6)) := hz3
          try simp only [Act.put]
          refine wpAnyH_done (by kernel_rfl) ?_ _
          have HZ1 := Lib.hid hz1
          have HZ2 := Lib.hid hz2
          have HZ3 : Hid (Rn w _ rr A c n (k + 33) l) := Lib.hid (HD.out.go (HC3.out.turn hz4 (fun q hq => Or.elim hq (fun hq => by have := HGR.out; have := HGG.out; omega) (fun hq => by have := HVB.out q hq; have := HGR.out; have := HGG.out; omega))) hz3 (fun q hq => by have h2 := HGG.out; rcases hq with hq | hq | hq; exact .inl hq; exact .inr (by omega); exact .inr (by have := HVB.out q hq; omega)))
          clear hz1 hz2 hz3 hz4 hS
          generalize w8.setCell ⟨g, 2, none⟩ (.slice A6 n6 c6) = w9 at *
          go_wp2_with fail
          go_roundg (gk - 1)
          case measure => omega
          case rel => exact ⟨j + 1, k + 33, .slice A6 n6 c6, _, by go_num, by omega, by have := HHK.out; omega, HZ3, HZ2, Lib.hid (by rw [HIM.out]; exact HZ1.out)⟩
    · obtain rfl : j = mm := by omega
      clear hge
      have HHK := Lib.hid hk
      rcases Nat.lt_or_ge n (k + 2) with h5 | h5
      · have HE := Lib.hid (decE_c (b := l) (by rw [HM.out]; omega) (by rw [HM.out, HLN.out]; omega))
        clear hk
        go_wp2_with (refine wpList_load_bk ty_reader HD.out.kb rfl rfl (.tmp 1) rfl rfl ?_)
        refine (count_short HD.out.cu h5).mono ?_
        rintro e w6 ⟨rfl, HG1⟩
        go_wp2_with fail
        exact ⟨rfl, by rw [HPO.out]; exact HD.out.bad HG1.out HE.out (by decide)⟩
      clear hk
      have HQD : Hid (qOf l = num l k 2) := Lib.hid (by rw [HHK.out]; unfold qOf; rw [HM.out])
      rcases Nat.lt_or_ge 256 (num l k 2) with h6 | h6
      · have HE := Lib.hid (decE_d (b := l) (by rw [HM.out]; omega) (by have := HHK.out; rw [HM.out, HLN.out]; omega) (by rw [HQD.out]; exact h6))
        have H6 := Lib.hid h6
        clear h6
        go_wp2_with (refine wpList_load_bk ty_reader HD.out.kb rfl rfl (.tmp 1) rfl rfl ?_)
        refine (count_many HD.out.cu h5 H6.out).mono ?_
        rintro e w6 ⟨rfl, HG1⟩
        go_wp2_with fail
        exact ⟨rfl, by rw [HPO.out]; exact HD.out.bad HG1.out HE.out (by decide)⟩
      have H6 := Lib.hid h6
      clear h6
      go_wp2_with (refine wpList_load_bk ty_reader HD.out.kb rfl rfl (.tmp 1) rfl rfl ?_)
      refine (count_yes HD.out.cu (k + 2) rfl h5 H6.out).mono ?_
      rintro e w6 ⟨rfl, HC1, HG1⟩
      have HD5 := Lib.hid (HD.out.move HC1.out HG1.out)
      have HG5 := Lib.hid (HG.out.far HG1.out (fun e => by have := HGR.out; have := HGG.out; injection e with e; omega))
      have HI5 := Lib.hid (HI.out.turn (turn_one HG1.out) (fun q e => .inl (by have := HGR.out; have := HGG.out; omega)))
      clear HD HG HI HC1 HG1
      have hQ : num l k 2 ≤ 256 := H6.out
      obtain ⟨qq, hQe⟩ : ∃ qq, qq = num l k 2 := ⟨_, rfl⟩
      rw [← hQe] at hQ HQD ⊢
      have HQ := HQD
      clear hQe H6 HQD
      go_wp2_with fail
      go_loopg [24] qq (fun gn i wr => ∃ (u k2 : Nat) (U : Value), i = .int .i64 (u : Int) ∧ u + gn = qq ∧ k2 = k + 2 + 9 * u ∧ Hid (Rn w wr rr A c n k2 l) ∧ Hid (Bk wr g (outK (K : Int) (S : Int) V U) 32) ∧ Hid (Imz wr g V U rs (tIms l j)) ∧ Hid (RO.Own wr (g + 1) U (tOps l (11 + 33 * j) u)))
      case atStart => exact ⟨0, k + 2, _, rfl, by omega, rfl, HD5, HG5, HI5, Lib.hid (Rk.Own.nil RO _ _)⟩
      case round =>
        obtain ⟨u, k2, U, rfl, hog2, hk2, HD, HG, HI, HO⟩ := hrel
        have HK2 := Lib.hid hk2
        clear HD5 HG5 HI5
        rcases Nat.lt_or_ge u qq with hlt | hge
        · have hdj : decide (u < qq) = true := decide_eq_true hlt
          have hdi : decide ((u : Int) < (qq : Int)) = true := decide_eq_true (by omega)
          have HUB : Hid (∀ q, U.ownBlock = some q → g < q ∧ q < wr.heap.size) := Lib.hid (fun q e => by have := HO.out.lt q e; omega)
          have KL := Lib.hid (show ∀ W, Turn (fun q => q = rr ∨ q = g ∨ U.ownBlock = some q) wr W → (loadVar 62 ⟨w.heap.size, 0, none⟩).run Try.prog W = .ok (.agg #[.pointer (some ⟨rr, 0, none⟩)]) W from fun W hW => Bk.load ty_reader (HD.out.kb.turn hW (fun e => by
            have h1 := HGR.out
            have h2 := HGG.out
            rcases e with e | e | e
            · omega
            · omega
            · have := HUB.out _ e; omega)) rfl)
          have HGX := Lib.hid (show Bk (World.drew wr) g (outK (K : Int) (S : Int) V U) 32 from HG.out.below (Below.refl _ _).drew)
          have HCX := Lib.hid (show Cur (World.drew wr) rr 82 A c n k2 l from HD.out.cu.below (Below.refl _ _).drew)
          rcases Nat.lt_or_ge n (k2 + 9) with h7 | h7
          · have HE := Lib.hid (decE_e (b := l) (by rw [HM.out]; omega) (by have := HHK.out; rw [HM.out, HLN.out]; omega) (by rw [HQ.out]; omega) (by have := HHK.out; rw [HM.out, HQ.out, HLN.out]; omega))
            clear hk2
            have k1 : ∀ W, Turn (fun q => q = rr) wr W → (loadVar 23 ⟨g, 3, none⟩).run Try.prog W = .ok U W := fun W hW => load_slice Try.underlying23 ((HG.out.turn hW (fun e => by have h1 := HGR.out; have h2 := HGG.out; omega)).c 3 _ rfl)
            go_upto_region 10 with fail
            refine wp_region_turn (X := (fun q => q = rr)) (by kernel_rfl) ?_
            have hS : Turn (fun q => q = rr) wr (World.drew wr) := (Turn.refl _ _).drew
            refine wpAnyH_take (i := 0) (oi := ⟨some 26, _, _, _, _, _⟩) (v := ?_) rfl (by kernel_rfl) (by kernel_rfl) (by kernel_rfl) (fun _ _ _ h => h) (Or.inl ⟨by rfl, ?_⟩) hS ?_
            rotate_left
            · intro W hW; go_simp; with_reducible rfl
            try simp only [Act.put, List.setIfInBounds_toArray, List.set_cons_zero, List.set_cons_succ]
            refine wpAnyH_take (i := 1) (oi := ⟨some 27, _, _, _, _, _⟩) (v := U) rfl (by kernel_rfl) (by kernel_rfl) (by kernel_rfl) (fun _ _ _ h => h) (Or.inl ⟨by rfl, fun W hW => exec_load rfl rfl (k1 W hW)⟩) hS ?_
            try simp only [Act.put, List.setIfInBounds_toArray, List.set_cons_zero, List.set_cons_succ]
            refine wpAnyH_take (i := 2) (oi := ⟨some 28, _, _, _, _, _⟩) (v := (.agg #[.pointer (some ⟨rr, 0, none⟩)])) rfl (by kernel_rfl) (by kernel_rfl) (by kernel_rfl) (fun _ _ _ h => h) (Or.inl ⟨by rfl, fun W hW => exec_load rfl rfl (KL.out W (hW.mono (fun q e => .inl e)))⟩) hS ?_
            try simp only [Act.put, List.setIfInBounds_toArray, List.set_cons_zero, List.set_cons_succ]
            refine wpAnyH_ready (rs := [3]) (by kernel_rfl) (by simp) ?_
            refine AllReadyH.cons (o := ⟨some 29, _, _, _, _, _⟩) rfl (fun Kr hKr => ?_) AllReadyH.nil
            -- operation 3: a call
            go_simp
            refine (op_no HCX.out h7).mono ?_
            rintro e V1 ⟨rfl, HG1⟩
            exact ⟨rfl, by rw [HPO.out]; exact HD.out.bad (grown_trans (grown_of_below (Below.refl _ _).drew _) HG1.out) HE.out (by decide)⟩
          have HTO : Hid (tOps l (11 + 33 * j) (u + 1) = tOps l (11 + 33 * j) u ++ [⟨(num l k2 1 : Nat), sgnI (num l (k2 + 1) 8 : Nat)⟩]) := Lib.hid (by
            have e : 11 + 33 * j + 9 * u = k2 := by have := HHK.out; omega
            rw [tOps_step]
            unfold tOp
            rw [e])
          clear hk2
          obtain ⟨cc, hcc⟩ : ∃ cc, cc = num l k2 1 := ⟨_, rfl⟩
          obtain ⟨vv, hvv⟩ : ∃ vv, vv = sgnI (num l (k2 + 1) 8 : Nat) := ⟨_, rfl⟩
          rw [← hcc, ← hvv] at HTO
          have HCV := Lib.hid (And.intro hcc hvv)
          clear hcc hvv
          go_upto_region 10 with fail
          refine wp_region_turn (X := (fun q => q = rr ∨ q = g ∨ U.ownBlock = some q)) (by kernel_rfl) ?_
          have hS : Turn (fun q => q = rr ∨ q = g ∨ U.ownBlock = some q) wr (World.drew wr) := (Turn.refl _ _).drew
          refine wpAnyH_take (i := 0) (oi := ⟨some 26, _, _, _, _, _⟩) (v := ?_) rfl (by kernel_rfl) (by kernel_rfl) (by kernel_rfl) (fun _ _ _ h => h) (Or.inl ⟨by rfl, ?_⟩) hS ?_
          rotate_left
          · intro W hW; go_simp; with_reducible rfl
          try simp only [Act.put, List.setIfInBounds_toArray, List.set_cons_zero, List.set_cons_succ]
          refine wpAnyH_take (i := 2) (oi := ⟨some 28, _, _, _, _, _⟩) (v := (.agg #[.pointer (some ⟨rr, 0, none⟩)])) rfl (by kernel_rfl) (by kernel_rfl) (by kernel_rfl) (fun _ _ _ h => h) (Or.inl ⟨by rfl, fun W hW => exec_load rfl rfl (KL.out W hW)⟩) hS ?_
          try simp only [Act.put, List.setIfInBounds_toArray, List.set_cons_zero, List.set_cons_succ]
          refine wpAnyH_ready (rs := [1, 3]) (by kernel_rfl) (by simp) ?_
          refine AllReadyH.cons (o := ⟨some 27, _, _, _, _, _⟩) rfl (fun Kr hKr => ?_) (AllReadyH.cons (o := ⟨some 29, _, _, _, _, _⟩) rfl (fun Kr hKr => ?_) AllReadyH.nil)
          · skip
            -- operation 1: a step
            try rw [if_pos (by kernel_rfl)]
            have q2 : World.cell? _ ⟨g, 3, none⟩ = some U := HGX.out.c 3 _ rfl
            go_simp
            clear q2
            show Kr _ _
            refine hKr.out _ _ ?_ (fun _ => ?_)
            · exact hS
            clear hKr Kr
            try simp only [Act.put, List.setIfInBounds_toArray, List.set_cons_zero, List.set_cons_succ]
            refine wpAnyH_ready (rs := [3]) (by kernel_rfl) (by simp) ?_
            refine AllReadyH.cons (o := ⟨some 29, _, _, _, _, _⟩) rfl (fun Kr hKr => ?_) AllReadyH.nil
            -- operation 3: a call
            go_simp
            refine (op_yes HCX.out h7).mono ?_
            rintro e V1 ⟨HG1, rfl, HC1⟩
            rw [← HCV.out.1, ← HCV.out.2]
            replace HGX := Lib.hid (HGX.out.far HG1.out (fun e => by have h1 := HGR.out; have h2 := HGG.out; injection e with e; omega))
            have HT1 : Hid (Turn (fun q => q = rr) wr V1) := Lib.hid ((Turn.ofBelow (Below.refl _ _).drew).trans (turn_one HG1.out))
            show Kr _ _
            refine hKr.out _ _ ?_ (fun _ => ?_)
            · exact hS.grown HG1.out (fun q e => .inl (.inl (by injection e with e; exact e.symm)))
            clear hKr Kr
            replace hS : Turn (fun q => q = rr ∨ q = g ∨ U.ownBlock = some q) wr V1 := hS.grown HG1.out (fun q e => .inl (.inl (by injection e with e; exact e.symm)))
            try simp only [Act.put, List.setIfInBounds_toArray, List.set_cons_zero, List.set_cons_succ]
            refine wpAnyH_ready (rs := [4]) (by kernel_rfl) (by simp) ?_
            refine AllReadyH.cons (o := ⟨some 30, _, _, _, _, _⟩) rfl (fun Kr hKr => ?_) AllReadyH.nil
            -- operation 4: a step
            try rw [if_pos (by kernel_rfl)]
            refine wp_build_op (.tmp 29) rfl (cc : Int) vv rfl ?_
            intro V3 g3 hle3 hlt3 hat3 hx3
            have HAT := Lib.hid hat3
            replace HGX := Lib.hid (HGX.out.below hx3)
            have HX3 := Lib.hid hx3
            clear hat3 hx3 hle3 hlt3
            show Kr _ _
            refine hKr.out _ _ ?_ (fun _ => ?_)
            · exact hS.trans (Turn.ofBelow HX3.out)
            clear hKr Kr
            replace hS : Turn (fun q => q = rr ∨ q = g ∨ U.ownBlock = some q) wr V3 := hS.trans (Turn.ofBelow HX3.out)
            try simp only [Act.put, List.setIfInBounds_toArray, List.set_cons_zero, List.set_cons_succ]
            refine wpAnyH_ready (rs := [5]) (by kernel_rfl) (by simp) ?_
            refine AllReadyH.cons (o := ⟨some 31, _, _, _, _, _⟩) rfl (fun Kr hKr => ?_) AllReadyH.nil
            -- operation 5: a step
            try rw [if_pos (by kernel_rfl)]
            refine Rk.wp_append ro_ok (.tmp 27) (.tmp 30) rfl (g + 1) U _ [⟨(cc : Int), vv⟩] rfl ((HO.out.turn HT1.out (fun q hq e => by have h1 := HGR.out; have h2 := HGG.out; have := HUB.out q hq; omega)).below HX3.out) _ 1 1 rfl HAT.out rfl (.inr ⟨_, _, rfl⟩) (by rw [tOps_len, List.length_singleton]; omega) (by have := HT1.out.size; have := HX3.out.size; have := HG.out.lt; omega) ?_
            intro v8 w8 ho8 hg8 ha8
            obtain ⟨A6, n6, c6, rfl⟩ := own_sl ro_ok ho8
            have HO8 := Lib.hid ho8
            have HG8 := Lib.hid hg8
            have HA8 := Lib.hid ha8
            clear ho8 ha8 hg8
            show Kr _ _
            refine hKr.out _ _ ?_ (fun _ => ?_)
            · exact hS.grown HG8.out (fun q e => .inl (.inr (.inr e)))
            clear hKr Kr
            replace hS : Turn (fun q => q = rr ∨ q = g ∨ U.ownBlock = some q) wr w8 := hS.grown HG8.out (fun q e => .inl (.inr (.inr e)))
            try simp only [Act.put, List.setIfInBounds_toArray, List.set_cons_zero, List.set_cons_succ]
            refine wpAnyH_take (i := 6) (oi := ⟨some 32, _, _, _, _, _⟩) (v := ?_) rfl (by kernel_rfl) (by kernel_rfl) (by kernel_rfl) (fun _ _ _ h => h) (Or.inl ⟨by rfl, ?_⟩) hS ?_
            rotate_left
            · intro W hW; go_simp; with_reducible rfl
            try simp only [Act.put, List.setIfInBounds_toArray, List.set_cons_zero, List.set_cons_succ]
            refine wpAnyH_ready (rs := [7]) (by kernel_rfl) (by simp) ?_
            refine AllReadyH.cons (o := ⟨none, _, _, _, _, _⟩) rfl (fun Kr hKr => ?_) AllReadyH.nil
            -- operation 7: a step
            try rw [if_pos (by kernel_rfl)]
            have hbk8 := HGX.out.far HG8.out (fun e => by have := HUB.out g e.symm; omega)
            have f3f := hbk8.fr 3
            have f3c : w8.cell? ⟨g, 3, none⟩ = some U := hbk8.c 3 _ rfl
            clear hbk8
            go_simp
            clear f3f f3c
            obtain ⟨hz1, hz2, hz3, hz4⟩ := Imz.ops (HI.out.turn HT1.out (fun q e => .inl (by have h1 := HGR.out; have h2 := HGG.out; omega))) (HO.out.turn HT1.out (fun q hq e => by have h1 := HGR.out; have h2 := HGG.out; have := HUB.out q hq; omega)) HX3.out HO8.out HG8.out HA8.out (HG.out.turn HT1.out (fun e => by have h1 := HGR.out; have h2 := HGG.out; omega))
            have hz5 := (HT1.out.mono (S' := fun q => q = rr ∨ q = g ∨ U.ownBlock = some q) (fun q e => .inl e)).trans (hz4.mono (fun q e => .inr e))
            show Kr _ _
            refine hKr.out _ _ ?_ (fun _ => ?_)
            · exact hz5
            clear hKr Kr
            replace hS : Turn (fun q => q = rr ∨ q = g ∨ U.ownBlock = some q) wr (w8.setCell ⟨g, 3, none⟩ (.slice A6 n6 c6)) := hz5
            try simp only [Act.put]
            refine wpAnyH_done (by kernel_rfl) ?_ _
            have HZ1 := Lib.hid hz1
            have HZ2 := Lib.hid hz2
            have HZ4 := Lib.hid hz3
            have HZ3 : Hid (Rn w _ rr A c n (k2 + 9) l) := Lib.hid (HD.out.go (HC1.out.turn hz4 (fun q hq => Or.elim hq (fun hq => by have := HGR.out; have := HGG.out; omega) (fun hq => by have := HUB.out q hq; have := HGR.out; have := HGG.out; omega))) hz5 (fun q hq => by have h2 := HGG.out; rcases hq with hq | hq | hq; exact .inl hq; exact .inr (by omega); exact .inr (by have := HUB.out q hq; omega)))
            clear hz1 hz2 hz3 hz4 hz5 hS
            generalize w8.setCell ⟨g, 3, none⟩ (.slice A6 n6 c6) = w9 at *
            go_wp2_with fail
            go_roundg (gk - 1)
            case measure => omega
            case rel => exact ⟨u + 1, k2 + 9, .slice A6 n6 c6, by go_num, by omega, by have := HK2.out; omega, HZ3, HZ2, HZ1, Lib.hid (by rw [HTO.out]; exact HZ4.out)⟩
          · skip
            -- operation 3: a call
            go_simp
            refine (op_yes HCX.out h7).mono ?_
            rintro e V1 ⟨HG1, rfl, HC1⟩
            rw [← HCV.out.1, ← HCV.out.2]
            replace HGX := Lib.hid (HGX.out.far HG1.out (fun e => by have h1 := HGR.out; have h2 := HGG.out; injection e with e; omega))
            have HT1 : Hid (Turn (fun q => q = rr) wr V1) := Lib.hid ((Turn.ofBelow (Below.refl _ _).drew).trans (turn_one HG1.out))
            show Kr _ _
            refine hKr.out _ _ ?_ (fun _ => ?_)
            · exact hS.grown HG1.out (fun q e => .inl (.inl (by injection e with e; exact e.symm)))
            clear hKr Kr
            replace hS : Turn (fun q => q = rr ∨ q = g ∨ U.ownBlock = some q) wr V1 := hS.grown HG1.out (fun q e => .inl (.inl (by injection e with e; exact e.symm)))
            try simp only [Act.put, List.setIfInBounds_toArray, List.set_cons_zero, List.set_cons_succ]
            refine wpAnyH_ready (rs := [1, 4]) (by kernel_rfl) (by simp) ?_
            refine AllReadyH.cons (o := ⟨some 27, _, _, _, _, _⟩) rfl (fun Kr hKr => ?_) (AllReadyH.cons (o := ⟨some 30, _, _, _, _, _⟩) rfl (fun Kr hKr => ?_) AllReadyH.nil)
            · skip
              -- operation 1: a step
              try rw [if_pos (by kernel_rfl)]
              have q2 : World.cell? _ ⟨g, 3, none⟩ = some U := HGX.out.c 3 _ rfl
              go_simp
              clear q2
              show Kr _ _
              refine hKr.out _ _ ?_ (fun _ => ?_)
              · exact hS
              clear hKr Kr
              try simp only [Act.put, List.setIfInBounds_toArray, List.set_cons_zero, List.set_cons_succ]
              refine wpAnyH_ready (rs := [4]) (by kernel_rfl) (by simp) ?_
              refine AllReadyH.cons (o := ⟨some 30, _, _, _, _, _⟩) rfl (fun Kr hKr => ?_) AllReadyH.nil
              -- operation 4: a step
              try rw [if_pos (by kernel_rfl)]
              refine wp_build_op (.tmp 29) rfl (cc : Int) vv rfl ?_
              intro V3 g3 hle3 hlt3 hat3 hx3
              have HAT := Lib.hid hat3
              replace HGX := Lib.hid (HGX.out.below hx3)
              have HX3 := Lib.hid hx3
              clear hat3 hx3 hle3 hlt3
              show Kr _ _
              refine hKr.out _ _ ?_ (fun _ => ?_)
              · exact hS.trans (Turn.ofBelow HX3.out)
              clear hKr Kr
              replace hS : Turn (fun q => q = rr ∨ q = g ∨ U.ownBlock = some q) wr V3 := hS.trans (Turn.ofBelow HX3.out)
              try simp only [Act.put, List.setIfInBounds_toArray, List.set_cons_zero, List.set_cons_succ]
              refine wpAnyH_ready (rs := [5]) (by kernel_rfl) (by simp) ?_
              refine AllReadyH.cons (o := ⟨some 31, _, _, _, _, _⟩) rfl (fun Kr hKr => ?_) AllReadyH.nil
              -- operation 5: a step
              try rw [if_pos (by kernel_rfl)]
              refine Rk.wp_append ro_ok (.tmp 27) (.tmp 30) rfl (g + 1) U _ [⟨(cc : Int), vv⟩] rfl ((HO.out.turn HT1.out (fun q hq e => by have h1 := HGR.out; have h2 := HGG.out; have := HUB.out q hq; omega)).below HX3.out) _ 1 1 rfl HAT.out rfl (.inr ⟨_, _, rfl⟩) (by rw [tOps_len, List.length_singleton]; omega) (by have := HT1.out.size; have := HX3.out.size; have := HG.out.lt; omega) ?_
              intro v8 w8 ho8 hg8 ha8
              obtain ⟨A6, n6, c6, rfl⟩ := own_sl ro_ok ho8
              have HO8 := Lib.hid ho8
              have HG8 := Lib.hid hg8
              have HA8 := Lib.hid ha8
              clear ho8 ha8 hg8
              show Kr _ _
              refine hKr.out _ _ ?_ (fun _ => ?_)
              · exact hS.grown HG8.out (fun q e => .inl (.inr (.inr e)))
              clear hKr Kr
              replace hS : Turn (fun q => q = rr ∨ q = g ∨ U.ownBlock = some q) wr w8 := hS.grown HG8.out (fun q e => .inl (.inr (.inr e)))
              try simp only [Act.put, List.setIfInBounds_toArray, List.set_cons_zero, List.set_cons_succ]
              refine wpAnyH_take (i := 6) (oi := ⟨some 32, _, _, _, _, _⟩) (v := ?_) rfl (by kernel_rfl) (by kernel_rfl) (by kernel_rfl) (fun _ _ _ h => h) (Or.inl ⟨by rfl, ?_⟩) hS ?_
              rotate_left
              · intro W hW; go_simp; with_reducible rfl
              try simp only [Act.put, List.setIfInBounds_toArray, List.set_cons_zero, List.set_cons_succ]
              refine wpAnyH_ready (rs := [7]) (by kernel_rfl) (by simp) ?_
              refine AllReadyH.cons (o := ⟨none, _, _, _, _, _⟩) rfl (fun Kr hKr => ?_) AllReadyH.nil
              -- operation 7: a step
              try rw [if_pos (by kernel_rfl)]
              have hbk8 := HGX.out.far HG8.out (fun e => by have := HUB.out g e.symm; omega)
              have f3f := hbk8.fr 3
              have f3c : w8.cell? ⟨g, 3, none⟩ = some U := hbk8.c 3 _ rfl
              clear hbk8
              go_simp
              clear f3f f3c
              obtain ⟨hz1, hz2, hz3, hz4⟩ := Imz.ops (HI.out.turn HT1.out (fun q e => .inl (by have h1 := HGR.out; have h2 := HGG.out; omega))) (HO.out.turn HT1.out (fun q hq e => by have h1 := HGR.out; have h2 := HGG.out; have := HUB.out q hq; omega)) HX3.out HO8.out HG8.out HA8.out (HG.out.turn HT1.out (fun e => by have h1 := HGR.out; have h2 := HGG.out; omega))
              have hz5 := (HT1.out.mono (S' := fun q => q = rr ∨ q = g ∨ U.ownBlock = some q) (fun q e => .inl e)).trans (hz4.mono (fun q e => .inr e))
              show Kr _ _
              refine hKr.out _ _ ?_ (fun _ => ?_)
              · exact hz5
              clear hKr Kr
              replace hS : Turn (fun q => q = rr ∨ q = g ∨ U.ownBlock = some q) wr (w8.setCell ⟨g, 3, none⟩ (.slice A6 n6 c6)) := hz5
              try simp only [Act.put]
              refine wpAnyH_done (by kernel_rfl) ?_ _
              have HZ1 := Lib.hid hz1
              have HZ2 := Lib.hid hz2
              have HZ4 := Lib.hid hz3
              have HZ3 : Hid (Rn w _ rr A c n (k2 + 9) l) := Lib.hid (HD.out.go (HC1.out.turn hz4 (fun q hq => Or.elim hq (fun hq => by have := HGR.out; have := HGG.out; omega) (fun hq => by have := HUB.out q hq; have := HGR.out; have := HGG.out; omega))) hz5 (fun q hq => by have h2 := HGG.out; rcases hq with hq | hq | hq; exact .inl hq; exact .inr (by omega); exact .inr (by have := HUB.out q hq; omega)))
              clear hz1 hz2 hz3 hz4 hz5 hS
              generalize w8.setCell ⟨g, 3, none⟩ (.slice A6 n6 c6) = w9 at *
              go_wp2_with fail
              go_roundg (gk - 1)
              case measure => omega
              case rel => exact ⟨u + 1, k2 + 9, .slice A6 n6 c6, by go_num, by omega, by have := HK2.out; omega, HZ3, HZ2, HZ1, Lib.hid (by rw [HTO.out]; exact HZ4.out)⟩
            · skip
              -- operation 4: a step
              try rw [if_pos (by kernel_rfl)]
              refine wp_build_op (.tmp 29) rfl (cc : Int) vv rfl ?_
              intro V3 g3 hle3 hlt3 hat3 hx3
              have HAT := Lib.hid hat3
              replace HGX := Lib.hid (HGX.out.below hx3)
              have HX3 := Lib.hid hx3
              clear hat3 hx3 hle3 hlt3
              show Kr _ _
              refine hKr.out _ _ ?_ (fun _ => ?_)
              · exact hS.trans (Turn.ofBelow HX3.out)
              clear hKr Kr
              replace hS : Turn (fun q => q = rr ∨ q = g ∨ U.ownBlock = some q) wr V3 := hS.trans (Turn.ofBelow HX3.out)
              try simp only [Act.put, List.setIfInBounds_toArray, List.set_cons_zero, List.set_cons_succ]
              refine wpAnyH_ready (rs := [1]) (by kernel_rfl) (by simp) ?_
              refine AllReadyH.cons (o := ⟨some 27, _, _, _, _, _⟩) rfl (fun Kr hKr => ?_) AllReadyH.nil
              -- operation 1: a step
              try rw [if_pos (by kernel_rfl)]
              have q2 : World.cell? _ ⟨g, 3, none⟩ = some U := HGX.out.c 3 _ rfl
              go_simp
              clear q2
              show Kr _ _
              refine hKr.out _ _ ?_ (fun _ => ?_)
              · exact hS
              clear hKr Kr
              try simp only [Act.put, List.setIfInBounds_toArray, List.set_cons_zero, List.set_cons_succ]
              refine wpAnyH_ready (rs := [5]) (by kernel_rfl) (by simp) ?_
              refine AllReadyH.cons (o := ⟨some 31, _, _, _, _, _⟩) rfl (fun Kr hKr => ?_) AllReadyH.nil
              -- operation 5: a step
              try rw [if_pos (by kernel_rfl)]
              refine Rk.wp_append ro_ok (.tmp 27) (.tmp 30) rfl (g + 1) U _ [⟨(cc : Int), vv⟩] rfl ((HO.out.turn HT1.out (fun q hq e => by have h1 := HGR.out; have h2 := HGG.out; have := HUB.out q hq; omega)).below HX3.out) _ 1 1 rfl HAT.out rfl (.inr ⟨_, _, rfl⟩) (by rw [tOps_len, List.length_singleton]; omega) (by have := HT1.out.size; have := HX3.out.size; have := HG.out.lt; omega) ?_
              intro v8 w8 ho8 hg8 ha8
              obtain ⟨A6, n6, c6, rfl⟩ := own_sl ro_ok ho8
              have HO8 := Lib.hid ho8
              have HG8 := Lib.hid hg8
              have HA8 := Lib.hid ha8
              clear ho8 ha8 hg8
              show Kr _ _
              refine hKr.out _ _ ?_ (fun _ => ?_)
              · exact hS.grown HG8.out (fun q e => .inl (.inr (.inr e)))
              clear hKr Kr
              replace hS : Turn (fun q => q = rr ∨ q = g ∨ U.ownBlock = some q) wr w8 := hS.grown HG8.out (fun q e => .inl (.inr (.inr e)))
              try simp only [Act.put, List.setIfInBounds_toArray, List.set_cons_zero, List.set_cons_succ]
              refine wpAnyH_take (i := 6) (oi := ⟨some 32, _, _, _, _, _⟩) (v := ?_) rfl (by kernel_rfl) (by kernel_rfl) (by kernel_rfl) (fun _ _ _ h => h) (Or.inl ⟨by rfl, ?_⟩) hS ?_
              rotate_left
              · intro W hW; go_simp; with_reducible rfl
              try simp only [Act.put, List.setIfInBounds_toArray, List.set_cons_zero, List.set_cons_succ]
              refine wpAnyH_ready (rs := [7]) (by kernel_rfl) (by simp) ?_
              refine AllReadyH.cons (o := ⟨none, _, _, _, _, _⟩) rfl (fun Kr hKr => ?_) AllReadyH.nil
              -- operation 7: a step
              try rw [if_pos (by kernel_rfl)]
              have hbk8 := HGX.out.far HG8.out (fun e => by have := HUB.out g e.symm; omega)
              have f3f := hbk8.fr 3
              have f3c : w8.cell? ⟨g, 3, none⟩ = some U := hbk8.c 3 _ rfl
              clear hbk8
              go_simp
              clear f3f f3c
              obtain ⟨hz1, hz2, hz3, hz4⟩ := Imz.ops (HI.out.turn HT1.out (fun q e => .inl (by have h1 := HGR.out; have h2 := HGG.out; omega))) (HO.out.turn HT1.out (fun q hq e => by have h1 := HGR.out; have h2 := HGG.out; have := HUB.out q hq; omega)) HX3.out HO8.out HG8.out HA8.out (HG.out.turn HT1.out (fun e => by have h1 := HGR.out; have h2 := HGG.out; omega))
              have hz5 := (HT1.out.mono (S' := fun q => q = rr ∨ q = g ∨ U.ownBlock = some q) (fun q e => .inl e)).trans (hz4.mono (fun q e => .inr e))
              show Kr _ _
              refine hKr.out _ _ ?_ (fun _ => ?_)
              · exact hz5
              clear hKr Kr
              replace hS : Turn (fun q => q = rr ∨ q = g ∨ U.ownBlock = some q) wr (w8.setCell ⟨g, 3, none⟩ (.slice A6 n6 c6)) := hz5
              try simp only [Act.put]
              refine wpAnyH_done (by kernel_rfl) ?_ _
              have HZ1 := Lib.hid hz1
              have HZ2 := Lib.hid hz2
              have HZ4 := Lib.hid hz3
              have HZ3 : Hid (Rn w _ rr A c n (k2 + 9) l) := Lib.hid (HD.out.go (HC1.out.turn hz4 (fun q hq => Or.elim hq (fun hq => by have := HGR.out; have := HGG.out; omega) (fun hq => by have := HUB.out q hq; have := HGR.out; have := HGG.out; omega))) hz5 (fun q hq => by have h2 := HGG.out; rcases hq with hq | hq | hq; exact .inl hq; exact .inr (by omega); exact .inr (by have := HUB.out q hq; omega)))
              clear hz1 hz2 hz3 hz4 hz5 hS
              generalize w8.setCell ⟨g, 3, none⟩ (.slice A6 n6 c6) = w9 at *
              go_wp2_with fail
              go_roundg (gk - 1)
              case measure => omega
              case rel => exact ⟨u + 1, k2 + 9, .slice A6 n6 c6, by go_num, by omega, by have := HK2.out; omega, HZ3, HZ2, HZ1, Lib.hid (by rw [HTO.out]; exact HZ4.out)⟩
        · obtain rfl : u = qq := by omega
          clear hge hk2
          obtain ⟨Av, nv, cv, hV⟩ := own_sl ri_ok HI.out.own
          obtain ⟨Bv, mv, dv, hU⟩ := own_sl ro_ok HO.out
          subst hV hU
          have HTL : Hid (tell l = ⟨(K : Int), (S : Int), tIms l j, tOps l (11 + 33 * j) u⟩) := Lib.hid (by unfold tell; rw [HM.out, HQ.out, HK.out, HS.out])
          obtain ⟨X, hX⟩ : ∃ X : Nt, X = ⟨(K : Int), (S : Int), tIms l j, tOps l (11 + 33 * j) u⟩ := ⟨_, rfl⟩
          have HGX : Hid (Bk wr g (ntC X ⟨Av, nv, cv, Bv, mv, dv, rs⟩) 32) := Lib.hid (by rw [hX]; exact HG.out)
          have HIX : Hid (Imz wr g (.slice Av nv cv) (.slice Bv mv dv) rs X.im) := Lib.hid (by rw [hX]; exact HI.out)
          have HOX : Hid (RO.Own wr (g + 1) (.slice Bv mv dv) X.op) := Lib.hid (by rw [hX]; exact HO.out)
          rw [← hX] at HTL
          have HSM : Hid (SmallN X) := Lib.hid (by rw [← HTL.out]; exact tell_small (by rw [HM.out]; omega) (by rw [HQ.out]; omega))
          have HK1 : Hid (okI X.kind ∧ okI X.seq ∧ ∀ (i : Nat) (y : Od), X.op[i]? = some y → okI y.c ∧ okI y.b) := Lib.hid (by rw [← HTL.out]; exact ⟨num_okI _ (by omega), num_okI _ (by omega), fun i y hy => tell_op i y hy⟩)
          clear hX HG HI HO
          have kc : wr.cell? ⟨w.heap.size, 0, none⟩ = some (.pointer (some ⟨rr, 0, none⟩)) := HD.out.kb.c 0 _ rfl
          rcases Nat.lt_or_ge k2 n with h8 | h8
          · have HE := Lib.hid (decE_f (b := l) (by rw [HM.out]; omega) (by rw [HQ.out]; omega) (by have := HHK.out; have := HK2.out; rw [HM.out, HQ.out, HLN.out]; have := HD.out.cu.le; omega) (.inl (by have := HHK.out; have := HK2.out; rw [HM.out, HQ.out, HLN.out]; omega)))
            go_wp2_with fail
            refine (rend_more HD.out.cu h8).mono ?_
            rintro e w7 ⟨rfl, hb7⟩
            have HB7 := Lib.hid hb7
            clear hb7 kc
            go_wp2_with fail
            refine (must_no 3 w7 (by omega)).mono ?_
            rintro e w8 ⟨rfl, rfl⟩
            go_wp2_with fail
            exact ⟨rfl, by rw [HPO.out]; exact HD.out.bad (grown_of_below HB7.out _) HE.out (by decide)⟩
          have hkn : k2 = n := by have := HD.out.cu.le; omega
          have HKN := Lib.hid hkn
          clear hkn
          go_wp2_with fail
          refine (rend_done HD.out.cu h8).mono ?_
          rintro e w7 ⟨rfl, hb7⟩
          have HD7 := Lib.hid (HD.out.below hb7)
          have HG7 := Lib.hid (HGX.out.below hb7)
          have HI7 := Lib.hid (HIX.out.below hb7)
          have HO7 := Lib.hid (HOX.out.below hb7)
          clear hb7 kc HD HGX HIX HOX
          go_wp2_with fail
          refine (must_ok w7).mono ?_
          rintro e w8 ⟨rfl, rfl⟩
          have HN7 := Lib.hid (HI7.out.note HO7.out HK1.out.1 HK1.out.2.1 HK1.out.2.2)
          go_wp2_with (refine wpList_load_bk ty_note HG7.out rfl rfl (.tmp 3) rfl rfl ?_)
          refine (psane_any X ⟨Av, nv, cv, Bv, mv, dv, rs⟩ w7 HN7.out.1 HSM.out).mono ?_
          rintro e w8 ⟨rfl, hb8⟩
          have HD8 := Lib.hid (HD7.out.below hb8)
          have HG8 := Lib.hid (HG7.out.below hb8)
          have HN8 := Lib.hid (HN7.out.1.below hb8)
          have HOF := Lib.hid HN7.out.2
          clear hb8 HD7 HG7 HI7 HO7 HN7
          by_cases hm : San X
          · rw [sane_yes hm]
            have HE := Lib.hid (decE_g (b := l) (by rw [HM.out]; omega) (by rw [HQ.out]; omega) (by have := HHK.out; have := HK2.out; have := HKN.out; rw [HM.out, HQ.out, HLN.out]; omega) (by rw [HTL.out]; exact hm))
            clear hm
            go_wp2_with (first
              | (refine wpList_load_bk ty_note HG8.out rfl rfl (.tmp 3) rfl rfl ?_)
              | (refine wpList_store_bk ty_note HD8.out.zb rfl rfl (.tmp 2) (.tmp 42) rfl rfl (ntC X ⟨Av, nv, cv, Bv, mv, dv, rs⟩) rfl rfl (ntC_one _ _) ?_; intro w9 hk9 hg9))
            refine bodyPost_ret (results_bk1 ty_note rfl _ rfl hk9 rfl) rfl ?_
            rw [HPO.out]
            have hgr := HGR.out
            have hgg := HGG.out
            refine ⟨Lib.hid (grown_new HD8.out.be hg9 (by omega)), .inl ⟨HE.out, ⟨Av, nv, cv, Bv, mv, dv, rs⟩, by rw [HTL.out]; rfl, by rw [HTL.out]; exact HN8.out.off (HOF.out _ (by omega)) hg9, fun z hz => HOF.out z (by omega)⟩⟩
          · rw [sane_no hm]
            have HE := Lib.hid (decE_f (b := l) (by rw [HM.out]; omega) (by rw [HQ.out]; omega) (by have := HHK.out; have := HK2.out; have := HKN.out; rw [HM.out, HQ.out, HLN.out]; omega) (.inr (by rw [HTL.out]; exact hm)))
            clear hm
            go_wp2_with fail
            exact ⟨rfl, by rw [HPO.out]; exact HD8.out.bad (grown_of_below (Below.refl _ _) _) HE.out (by decide)⟩

end Go.Proofs.Ytjpnihmijnpjcaa
