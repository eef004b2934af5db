/-
  The program's Append, Force and Drop.
-/
import Derived.Test.YtdjfahnnfhediaaGreatOpen7
namespace Go.Proofs.YtdjfahnnfhediaaGreat
set_option maxRecDepth 100000
open Go.RowKit Crc Wm

theorem log_ne {w : World} {q p p' L M : Nat} {G : Lg} {D : Dv} (hl : IsLog w q p G) (hd : IsDev w p' L M D) : ¬ DS p' L M q := by
  rintro (h | h | h)
  · obtain ⟨c, _, _, hb⟩ := hd.own
    have := hl.symm.trans (h ▸ hb)
    injection this with this
    injection this with _ ht
    exact absurd ht (by decide)
  · have := hl.symm.trans (h ▸ hd.laid)
    injection this with this
    injection this with _ ht
    exact absurd ht (by decide)
  · exact hd.cache.noRow hl h

/-- a log's block, and its device's -/
def LS (q p L M : Nat) (k : Nat) : Prop := DS p L M k ∨ k = q

/-- what an Append finds of its log, whatever it has written -/
structure KpL (w : World) (q p L M : Nat) (G : Lg) (V : World) : Prop where
  turn : Turn (LS q p L M) w V
  c0 : V.cell? ⟨q, 0, none⟩ = some (.int .i64 G.R.F)
  c1 : V.cell? ⟨q, 1, none⟩ = some (.int .i64 G.R.S)
  c2 : V.cell? ⟨q, 2, none⟩ = some (.int .i64 G.R.H)
  c3 : V.cell? ⟨q, 3, none⟩ = some (.int .i64 G.R.T)
  c4 : V.cell? ⟨q, 4, none⟩ = some (ptr p)
theorem KpL.of {w V : World} {q p L M : Nat} {G : Lg} (h : IsLog V q p G) (ht : Turn (LS q p L M) w V) : KpL w q p L M G V := ⟨ht, h.c0, h.c1, h.c2, h.c3, h.c4⟩

/-- what Append answers, and leaves -/
def AppOut (w : World) (q p L M : Nat) (G : Lg) (D : Dv) (b : List UInt8) (e : Ending) (w' : World) : Prop :=
  e = .returned (.tuple #[.int .i64 (G.appAt D b), .int .i64 (G.appE D b)]) ∧ IsLog w' q p (G.appG D b) ∧ IsDev w' p L M (G.appD D b) ∧ Turn (LS q p L M) w w'

theorem app_pre {w W : World} {q p L M : Nat} {G : Lg} {D : Dv} {b : List UInt8} (h : G.preE b ≠ 0) (hl : IsLog W q p G) (hd : IsDev W p L M D) (ht : Turn (LS q p L M) w W) : AppOut w q p L M G D b (.returned (.tuple #[.int .i64 0, .int .i64 (G.preE b)])) W := by
  have hE : G.appE D b = G.preE b := by unfold Lg.appE; rw [if_neg h]
  have hG : G.appG D b = G := by unfold Lg.appG; rw [if_neg h]
  have hD : G.appD D b = D := by unfold Lg.appD; rw [if_neg h]
  have hA : G.appAt D b = 0 := by unfold Lg.appAt; rw [hE, if_neg h]
  unfold AppOut
  rw [hE, hG, hD, hA]
  exact ⟨rfl, hl, hd, ht⟩
theorem app_gone {w W : World} {q p L M : Nat} {G : Lg} {D : Dv} {b : List UInt8} (h : G.preE b = 0) (hg : (putTo G.R G.R.T (cutAll G.E G.R.T b) D (needN b)).gone = true) (hl : IsLog W q p { G with broken := true }) (hd : IsDev W p L M (putTo G.R G.R.T (cutAll G.E G.R.T b) D (needN b))) (ht : Turn (LS q p L M) w W) : AppOut w q p L M G D b (.returned (.tuple #[.int .i64 0, .int .i64 11])) W := by
  have hD : G.appD D b = putTo G.R G.R.T (cutAll G.E G.R.T b) D (needN b) := by unfold Lg.appD; rw [if_pos h]
  have hE : G.appE D b = 11 := by unfold Lg.appE; rw [if_pos h, hD, if_pos hg]
  have hG : G.appG D b = { G with broken := true } := by unfold Lg.appG; rw [if_pos h, hD, if_pos hg]
  have hA : G.appAt D b = 0 := by unfold Lg.appAt; rw [hE, if_neg (by decide)]
  unfold AppOut
  rw [hE, hG, hD, hA]
  exact ⟨rfl, hl, hd, ht⟩
theorem app_ok {w W : World} {q p L M : Nat} {G : Lg} {D : Dv} {b : List UInt8} (h : G.preE b = 0) (hg : (putTo G.R G.R.T (cutAll G.E G.R.T b) D (needN b)).gone = false) (hl : IsLog W q p { G with R := ⟨G.R.F, G.R.S, G.R.H, G.R.T + needN b⟩ }) (hd : IsDev W p L M (putTo G.R G.R.T (cutAll G.E G.R.T b) D (needN b))) (ht : Turn (LS q p L M) w W) : AppOut w q p L M G D b (.returned (.tuple #[.int .i64 G.R.T, .int .i64 0])) W := by
  have hD : G.appD D b = putTo G.R G.R.T (cutAll G.E G.R.T b) D (needN b) := by unfold Lg.appD; rw [if_pos h]
  have hE : G.appE D b = 0 := by unfold Lg.appE; rw [if_pos h, hD, if_neg (by rw [hg]; exact Bool.false_ne_true)]
  have hG : G.appG D b = { G with R := ⟨G.R.F, G.R.S, G.R.H, G.R.T + needN b⟩ } := by unfold Lg.appG; rw [if_pos h, hD, if_neg (by rw [hg]; exact Bool.false_ne_true)]
  have hA : G.appAt D b = G.R.T := by unfold Lg.appAt; rw [hE, if_pos rfl]
  unfold AppOut
  rw [hE, hG, hD, hA]
  exact ⟨rfl, hl, hd, ht⟩

theorem append_nil (w : World) (v : Value) : Calls Tryz.prog 12 #[.pointer none, v] w fun e w' => e = .returned (.tuple #[.int .i64 0, .int .i64 11]) ∧ w' = w := by
  go_enter Tryz.func12, Tryz.ntmps12
  go_wp2_with fail
  refine (works_nil w).mono ?_
  rintro e w' ⟨rfl, hw⟩
  replace hw := hw.symm
  subst hw
  go_wp2_with fail
  go_ret2
  exact ⟨rfl, rfl⟩

theorem LsN.get {w : World} {base : Nat} {A : Option Addr} {ls : List (List UInt8)} (h : LsN w base A ls) (hn : 0 < ls.length) : ∃ b o, A = some ⟨b, o, none⟩ ∧ base ≤ b ∧ b < w.heap.size ∧ ∀ (j : Nat) (x : List UInt8), ls[j]? = some x → ∃ Ax n c, w.cell? ⟨b, o + j, none⟩ = some (.slice Ax n c) ∧ Lies w Ax c n x ∧ Up base Ax x := by
  rcases h with h | ⟨b, o, e, hb, hp⟩
  · rw [h] at hn; exact absurd hn (by decide)
  · exact ⟨b, o, e, hb.1, hb.2, hp⟩

theorem firm_of {w : World} {X : Nat → Prop} {base n c : Nat} {A : Option Addr} {l : List UInt8} (h : Lies w A c n l) (hu : Up base A l) (hX : ∀ k, X k → k < base) : Firm X w A l := fun _ hV => (h.turn hu hV hX).rd

set_option maxHeartbeats 2000000 in
theorem append_any {w : World} {q p L M : Nat} {G : Lg} {D : Dv} (hl : IsLog w q p G) (hd : IsDev w p L M D) (hon : G.On D) (hsp : D.spent ≤ 900000) (A : Option Addr) (n c : Nat) (b : List UInt8) (hb : Lies w A c n b) (hn : n ≤ 1000000) :
    Calls Tryz.prog 12 #[ptr q, .slice A n c] w (AppOut w q p L M G D b) := by
  have HW := Lib.hid (works_any hl)
  have HT := Lib.hid (ltail_any hl)
  have hne := log_ne hl hd
  have HP := Lib.hid (fun (W : World) (h : G.preE b ≠ 0) => @app_pre w W q p L M G D b h)
  have HPG := Lib.hid (fun (W : World) (h : G.preE b = 0) => @app_gone w W q p L M G D b h)
  have HPO := Lib.hid (fun (W : World) (h : G.preE b = 0) => @app_ok w W q p L M G D b h)
  have HPE : Hid (G.preE b = if G.broken = true then 11 else if cutE G.E G.R.T b ≠ 0 then cutE G.E G.R.T b else G.R.takeE (needN b)) := rfl
  have HLV : Hid (∀ V, Below w.heap.size w V → IsLog V q p G) := fun V hV => hl.below hV
  have HDV : Hid (∀ V, Below w.heap.size w V → IsDev V p L M D) := fun V hV => hd.below hV
  cases hbr : G.broken with
  | true =>
    have he : G.preE b = 11 := by rw [HPE.out, if_pos hbr]
    have HE := Lib.hid (HP.out w (by rw [he]; decide) hl hd (Turn.refl _ _))
    rw [he] at HE
    rw [hbr] at HW
    clear HP HPG HPO HPE hl hd hon he hbr
    go_enter Tryz.func12, Tryz.ntmps12
    go_wp2_with fail
    refine HW.out.mono ?_
    rintro e w' ⟨rfl, hw⟩
    replace hw := hw.symm
    subst hw
    go_wp2_with fail
    go_ret2
    exact HE.out
  | false =>
  rw [hbr, if_neg Bool.false_ne_true] at HPE
  rw [hbr] at HW
  have HCUT := Lib.hid (fun (h : Lies w A c n b) => cut_any G.E G.R.T (by have := hon.ok.h0; have := hon.ok.ht; omega) (by have := hon.ok.t1; omega) A c n b w h (by omega))
  have HCUT2 := Lib.hid (HCUT.out hb)
  have HON := Lib.hid hon
  have HDK := Lib.hid hd.ok
  have ok := hon.ok
  have c5 := hl.c5
  obtain ⟨R, E, safe, broken⟩ := G
  obtain ⟨F, S, H, T⟩ := R
  have hSb : 1 ≤ S ∧ S ≤ 4096 := ⟨ok.s0, ok.s1⟩
  have hTb : 0 ≤ T ∧ T ≤ 1099511627776 := ⟨by have h1 : 0 ≤ H := ok.h0; have h2 : H ≤ T := ok.ht; omega, ok.t1⟩
  simp only at hbr
  subst hbr
  simp only at HCUT2 HPE c5
  by_cases hc0 : cutE E T b = 0
  case neg =>
    rw [if_pos hc0] at HPE
    have HE := Lib.hid (fun W hW => HP.out W (by rw [HPE.out]; exact hc0) (HLV.out W hW) (HDV.out W hW) (Turn.ofBelow hW))
    rw [HPE.out] at HE
    have hne2 : (cutE E T b != 0) = true := by rw [bne_iff_ne]; exact hc0
    clear HP HPG HPO HPE hl hd hon hc0 HLV HDV
    generalize cutE E T b = ce at *
    go_enter Tryz.func12, Tryz.ntmps12
    go_wp2_with fail
    refine HW.out.mono ?_
    rintro e w' ⟨rfl, hw⟩
    replace hw := hw.symm
    subst hw
    go_wp2_with fail
    refine HT.out.mono ?_
    rintro e w' ⟨rfl, hw⟩
    replace hw := hw.symm
    subst hw
    go_wp2_with fail
    refine HCUT2.out.mono ?_
    rintro e w2 ⟨A2, n2, c2, rfl, hn2, hl2, hc2, hb2⟩
    have HB2 := Lib.hid hb2
    clear hn2 hl2 hc2 hb2 c5
    go_wp2_with fail
    go_ret2
    exact HE.out _ HB2.out
  rw [if_neg (by rw [hc0]; exact fun h => h rfl)] at HPE
  have hcl : cutL E T b = cutAll E T b := by unfold cutL; rw [if_pos hc0]
  rw [hcl, hc0] at HCUT2
  have HLEN := Lib.hid (length_cutAll E T b)
  have HGET : Hid (∀ i, i < needN b → (cutAll E T b).getD i [] = (pieceAt E T (needN b) b i).sector ∧ (cutAll E T b)[i]? = some (pieceAt E T (needN b) b i).sector ∧ (pieceAt E T (needN b) b i).sector.length = 64) := fun i hi => by
    have h1 := cutAll_get E T b i hi
    exact ⟨by rw [List.getD_eq_getElem?_getD, h1]; rfl, h1, length_sector _ (cut_may hc0 i hi).len⟩
  have hnd : 1 ≤ needN b ∧ needN b ≤ 1024 := ⟨needN_pos b, (cut_ok hc0).1⟩
  have htk := take_any ⟨F, S, H, T⟩ (needN b : Int) (by omega)
  have hta : (Rg.mk F S H T).take (needN b : Int) = if (Rg.mk F S H T).takeE (needN b : Int) = 0 then ⟨F, S, H, T + (needN b : Int)⟩ else Rg.zero := rfl
  rw [hta] at htk
  have hteb : (Rg.mk F S H T).takeE (needN b : Int) = 0 → T + (needN b : Int) ≤ 1099511627776 := by
    intro h
    unfold Rg.takeE at h
    split at h
    · split at h
      · exact absurd h (by decide)
      · next h2 => exact Int.not_lt.1 (fun h3 => h2 (.inr h3))
    · exact absurd h (by decide)
  clear hta hcl
  replace HPE : Hid (Lg.preE ⟨⟨F, S, H, T⟩, E, safe, false⟩ b = (Rg.mk F S H T).takeE (needN b : Int)) := HPE
  by_cases ht0 : (Rg.mk F S H T).takeE (needN b : Int) = 0
  case neg =>
    have HE := Lib.hid (fun W hW => HP.out W (by rw [HPE.out]; exact ht0) (HLV.out W hW) (HDV.out W hW) (Turn.ofBelow hW))
    rw [HPE.out] at HE
    rw [if_neg ht0] at htk
    have HTK := Lib.hid htk
    have hne2 : ((Rg.mk F S H T).takeE (needN b : Int) != 0) = true := by rw [bne_iff_ne]; exact ht0
    have HLN2 : Hid ((cutAll E T b).length = needN b) := HLEN
    clear HP HPG HPO HPE hl hd hon hc0 ht0 htk hteb HGET HLEN
    generalize (Rg.mk F S H T).takeE (needN b : Int) = te at *
    generalize needN b = N at *
    generalize cutAll E T b = sl at *
    go_enter Tryz.func12, Tryz.ntmps12
    go_wp2_with fail
    refine HW.out.mono ?_
    rintro e w' ⟨rfl, hw⟩
    replace hw := hw.symm
    subst hw
    go_wp2_with fail
    refine HT.out.mono ?_
    rintro e w' ⟨rfl, hw⟩
    replace hw := hw.symm
    subst hw
    go_wp2_with fail
    refine HCUT2.out.mono ?_
    rintro e w2 ⟨A2, n2, c2, rfl, hn2, hl2, hc2, hb2⟩
    have hn3 : N = n2 := by rw [hn2, HLN2.out]
    subst hn3
    have HB2 := Lib.hid hb2
    have HL2 := Lib.hid (HLV.out _ hb2)
    clear hn2 hl2 hc2 hb2 c5
    have c0 := HL2.out.c0
    have c1 := HL2.out.c1
    have c2 := HL2.out.c2
    have c3 := HL2.out.c3
    simp only at c0 c1 c2 c3
    go_wp2_with fail
    refine (HTK.out _).mono ?_
    rintro e w3 ⟨rfl, hb3⟩
    have HE3 := Lib.hid (HE.out _ (below_two (below_two HB2.out hb3) (below_new _ (.cells (rgC Rg.zero) 74))))
    clear hb3 c0 c1 c2 c3
    go_wp2_with fail
    go_ret2
    exact HE3.out
  rw [ht0, if_pos rfl] at htk
  have hT2 := hteb ht0
  have HTK := Lib.hid htk
  have HP0 : Hid (Lg.preE ⟨⟨F, S, H, T⟩, E, safe, false⟩ b = 0) := by show _ = _; rw [HPE.out, ht0]
  have HGN := Lib.hid (fun W => HPG.out W HP0.out)
  have HOK := Lib.hid (fun W => HPO.out W HP0.out)
  have HSEC := Lib.hid (fun (at_ : Int) => sector_any ⟨F, S, H, T⟩ at_)
  have HPN := Lib.hid (fun i => Lg.putTo_n ⟨F, S, H, T⟩ T (cutAll E T b) D i)
  have HPS := Lib.hid (fun i => Lg.putTo_spent ⟨F, S, H, T⟩ T (cutAll E T b) D i)
  have HST : Hid (∀ i, i < needN b → (putTo ⟨F, S, H, T⟩ T (cutAll E T b) D (i + 1)) = (putTo ⟨F, S, H, T⟩ T (cutAll E T b) D i).write ((Rg.mk F S H T).sector (T + (i : Int))) (pieceAt E T (needN b) b i).sector ∧ (putTo ⟨F, S, H, T⟩ T (cutAll E T b) D i).writeE ((Rg.mk F S H T).sector (T + (i : Int))) (pieceAt E T (needN b) b i).sector = if (putTo ⟨F, S, H, T⟩ T (cutAll E T b) D (i + 1)).gone = true then 11 else 0) := fun i hi => by
    obtain ⟨g1, g2, g3⟩ := HGET.out i hi
    have hs : (Rg.mk F S H T).sector (T + (i : Int)) = F + (T + (i : Int)) % S := HON.out.sector (G := ⟨⟨F, S, H, T⟩, E, safe, false⟩) (by omega) (by omega)
    have e1 : putTo ⟨F, S, H, T⟩ T (cutAll E T b) D (i + 1) = (putTo ⟨F, S, H, T⟩ T (cutAll E T b) D i).write ((Rg.mk F S H T).sector (T + (i : Int))) (pieceAt E T (needN b) b i).sector := by
      rw [hs, ← g1]
      rfl
    refine ⟨e1, ?_⟩
    rw [e1]
    refine Lg.write_two ?_ (by omega)
    rw [hs]
    exact (HON.out.dev (Lg.putTo_n ⟨F, S, H, T⟩ T (cutAll E T b) D i)).has (T + (i : Int))
  have HPT := Lib.hid (fun (i : Nat) (h : (putTo ⟨F, S, H, T⟩ T (cutAll E T b) D i).gone = true) (m : Nat) (hm : i ≤ m) => Lg.putTo_gone ⟨F, S, H, T⟩ T (cutAll E T b) D h m hm)
  replace HGN : Hid (∀ W, (putTo ⟨F, S, H, T⟩ T (cutAll E T b) D (needN b)).gone = true → IsLog W q p ⟨⟨F, S, H, T⟩, E, safe, true⟩ → IsDev W p L M (putTo ⟨F, S, H, T⟩ T (cutAll E T b) D (needN b)) → Turn (LS q p L M) w W → AppOut w q p L M ⟨⟨F, S, H, T⟩, E, safe, false⟩ D b (.returned (.tuple #[.int .i64 0, .int .i64 11])) W) := HGN
  replace HOK : Hid (∀ W, (putTo ⟨F, S, H, T⟩ T (cutAll E T b) D (needN b)).gone = false → IsLog W q p ⟨⟨F, S, H, T + needN b⟩, E, safe, false⟩ → IsDev W p L M (putTo ⟨F, S, H, T⟩ T (cutAll E T b) D (needN b)) → Turn (LS q p L M) w W → AppOut w q p L M ⟨⟨F, S, H, T⟩, E, safe, false⟩ D b (.returned (.tuple #[.int .i64 T, .int .i64 0])) W) := HOK
  have HSL : Hid (∀ i, i < needN b → (cutAll E T b)[i]? = some (pieceAt E T (needN b) b i).sector ∧ (pieceAt E T (needN b) b i).sector.length = 64) := fun i hi => (HGET.out i hi).2
  replace HLEN : Hid ((cutAll E T b).length = needN b) := HLEN
  have HD0 : Hid (putTo ⟨F, S, H, T⟩ T (cutAll E T b) D 0 = D) := rfl
  clear HP HPG HPO HPE hl hc0 ht0 htk hteb HP0 HGET HPN hon
  generalize hDD : putTo ⟨F, S, H, T⟩ T (cutAll E T b) D = DD at *
  generalize hsec : (fun i => (pieceAt E T (needN b) b i).sector) = sec at *
  have hsec' : ∀ i, (pieceAt E T (needN b) b i).sector = sec i := fun i => congrFun hsec i
  simp only [hsec'] at HST HSL
  clear hDD hsec hsec'
  generalize needN b = N at *
  generalize cutAll E T b = sl at *
  have hql : q < w.heap.size := (HLV.out w (Below.refl _ _)).lt
  have hdl := hd.lt
  clear hd
  go_enter Tryz.func12, Tryz.ntmps12
  go_wp2_with fail
  refine HW.out.mono ?_
  rintro e w' ⟨rfl, hw⟩
  replace hw := hw.symm
  subst hw
  go_wp2_with fail
  refine HT.out.mono ?_
  rintro e w' ⟨rfl, hw⟩
  replace hw := hw.symm
  subst hw
  go_wp2_with fail
  refine HCUT2.out.mono ?_
  rintro e w2 ⟨A2, n2, c2, rfl, hn2, hl2, hc2, hb2⟩
  have hn3 : N = n2 := by rw [hn2, HLEN.out]
  subst hn3
  have HB2 := Lib.hid hb2
  have HS2 := Lib.hid hl2
  have HL2 := Lib.hid (HLV.out _ hb2)
  clear hn2 hl2 hb2 c5 HW HT HCUT HCUT2
  have c0 := HL2.out.c0
  have c1 := HL2.out.c1
  have c2' := HL2.out.c2
  have c3 := HL2.out.c3
  simp only at c0 c1 c2' c3
  go_wp2_with fail
  refine (HTK.out _).mono ?_
  rintro e w3 ⟨rfl, hb3⟩
  have HB3 := Lib.hid (below_two HB2.out hb3)
  have HS3 := Lib.hid (HS2.out.up hb3)
  clear hb3 c0 c1 c2' c3 HTK HL2
  go_upto_region 11 with fail
  have HX4 : Hid (Bx (w3.alloc (.cells #[.int .i64 F, .int .i64 S, .int .i64 H, .int .i64 (T + (N : Int))] 74)) w3.heap.size ⟨F, S, H, T + (N : Int)⟩ 74) := heap_alloc_new w3 _
  have HBB : Hid (Below w3.heap.size w3 (w3.alloc (.cells #[.int .i64 F, .int .i64 S, .int .i64 H, .int .i64 (T + (N : Int))] 74))) := below_new w3 _
  have HB4 : Hid (Below w.heap.size w (w3.alloc (.cells #[.int .i64 F, .int .i64 S, .int .i64 H, .int .i64 (T + (N : Int))] 74))) := below_two HB3.out HBB.out
  have HS4 : Hid (LsN (w3.alloc (.cells #[.int .i64 F, .int .i64 S, .int .i64 H, .int .i64 (T + (N : Int))] 74)) w.heap.size A2 sl) := HS3.out.up HBB.out
  have hg9 : w.heap.size ≤ w3.heap.size := HB3.out.size
  clear HBB HS3
  generalize w3.alloc (.cells #[.int .i64 F, .int .i64 S, .int .i64 H, .int .i64 (T + (N : Int))] 74) = w4 at *
  generalize w3.heap.size = g9 at *
  have HL4 := Lib.hid (HLV.out _ HB4.out)
  have HD4 : Hid (IsDev w4 p L M (DD 0)) := by rw [HD0.out]; exact HDV.out _ HB4.out
  obtain ⟨bb, oo, hA2, hbb1, hbb2, hpp⟩ := HS4.out.get (by rw [HLEN.out]; omega)
  subst hA2
  have HPP := Lib.hid hpp
  have hlo : ∀ k, DS p L M k → k < w.heap.size := fun k hk => by rcases hk with rfl | rfl | rfl; exact hdl.1; exact hdl.2.1; exact hdl.2.2
  have HLO := Lib.hid hlo
  clear hpp HS4 hlo HLV HDV HD0 HS2
  go_loopw [46] (fun u wr => ∃ i : Nat, u = .int .i64 (i : Int) ∧ i ≤ N ∧ Hid (IsLog wr q p ⟨⟨F, S, H, T⟩, E, safe, false⟩) ∧ Hid (IsDev wr p L M (DD i)) ∧ Hid (Turn (DS p L M) w4 wr) ∧ Hid (i = 0 ∨ (DD i).gone = false)) (fun u _ => N - (intOf u).toNat)
  case atStart => exact ⟨0, rfl, Nat.zero_le _, HL4, HD4, Turn.refl _ _, .inl rfl⟩
  case round =>
    obtain ⟨i, rfl, hi, HLOG, HDEV, HTN, HNG⟩ := hrel
    rcases Nat.lt_or_ge i N with hlt | hge
    · obtain ⟨Ax, nx, cx, hcell, hlies, hup⟩ := HPP.out i _ (HSL.out i hlt).1
      have kx := HTN.out.cell hcell (fun hk => by have := HLO.out bb hk; omega)
      have HFX : Hid (Firm (DS p L M) wr Ax (sec i)) := firm_of (hlies.turn hup HTN.out HLO.out) hup HLO.out
      have HNX := Lib.hid hlies.len
      clear hcell hlies hup
      obtain ⟨hs1, hs2⟩ := HST.out i hlt
      have HSPI : Hid ((DD i).spent ≤ 1000000) := Nat.le_trans (HPS.out i) (by omega)
      have hwrt := fun (V : World) (hV : Below wr.heap.size wr V) => dwrite_any (HDEV.out.below hV) HSPI.out ((Rg.mk F S H T).sector (T + (i : Int))) (HFX.out.turn (Turn.ofBelow hV)) nx cx HNX.out
      rw [← hs1, hs2] at hwrt
      have HWR := Lib.hid hwrt
      clear hs1 hs2 hwrt
      have v0 : ∀ V, KpL wr q p L M ⟨⟨F, S, H, T⟩, E, safe, false⟩ V → V.cell? ⟨q, 0, none⟩ = some (.int .i64 F) := fun V hV => hV.c0
      have v1 : ∀ V, KpL wr q p L M ⟨⟨F, S, H, T⟩, E, safe, false⟩ V → V.cell? ⟨q, 1, none⟩ = some (.int .i64 S) := fun V hV => hV.c1
      have v2 : ∀ V, KpL wr q p L M ⟨⟨F, S, H, T⟩, E, safe, false⟩ V → V.cell? ⟨q, 2, none⟩ = some (.int .i64 H) := fun V hV => hV.c2
      have v3 : ∀ V, KpL wr q p L M ⟨⟨F, S, H, T⟩, E, safe, false⟩ V → V.cell? ⟨q, 3, none⟩ = some (.int .i64 T) := fun V hV => hV.c3
      have v4 : ∀ V, KpL wr q p L M ⟨⟨F, S, H, T⟩, E, safe, false⟩ V → V.cell? ⟨q, 4, none⟩ = some (ptr p) := fun V hV => hV.c4
      have hwi : IntKind.i64.wrap (T + (i : Int)) = T + (i : Int) := by rw [IntKind.wrap_i64]; omega
      have hdj : decide ((i : Int) < (N : Int)) = true := decide_eq_true (by omega)
      have hdj2 : decide (i < N) = true := decide_eq_true hlt
      by_cases hgn : (DD (i + 1)).gone = true
      · rw [if_pos hgn] at HWR
        go_upto_region 13 with fail
        refine wp_region_held_drew (S := KpL wr q p L M ⟨⟨F, S, H, T⟩, E, safe, false⟩) (by kernel_rfl) (KpL.of (HLOG.out.below ((Below.refl _ _).drew)) ((Turn.refl _ _).drew)) (fun _ => ?_)
        have hS : (KpL wr q p L M ⟨⟨F, S, H, T⟩, E, safe, false⟩) (World.drew wr) := KpL.of (HLOG.out.below ((Below.refl _ _).drew)) ((Turn.refl _ _).drew)
        refine wpAnyH_take (i := 0) (oi := ⟨some 51, _, _, _, _, _⟩) (v := ?_) rfl (by kernel_rfl) (by kernel_rfl) (by kernel_rfl) (fun _ _ _ h => h) (Or.inl ⟨by rfl, ?_⟩) hS ?_
        rotate_left
        · intro W hW; go_simp; with_reducible rfl
        try simp only [Act.put, List.setIfInBounds_toArray, List.set_cons_zero, List.set_cons_succ]
        refine wpAnyH_take (i := 1) (oi := ⟨some 52, _, _, _, _, _⟩) (v := ?_) rfl (by kernel_rfl) (by kernel_rfl) (by kernel_rfl) (fun _ _ _ h => h) (Or.inl ⟨by rfl, ?_⟩) hS ?_
        rotate_left
        · intro W hW; go_simp; with_reducible rfl
        try simp only [Act.put, List.setIfInBounds_toArray, List.set_cons_zero, List.set_cons_succ]
        refine wpAnyH_take (i := 2) (oi := ⟨some 53, _, _, _, _, _⟩) (v := ?_) rfl (by kernel_rfl) (by kernel_rfl) (by kernel_rfl) (fun _ _ _ h => h) (Or.inl ⟨by rfl, ?_⟩) hS ?_
        rotate_left
        · intro W hW; go_simp; with_reducible rfl
        try simp only [Act.put, List.setIfInBounds_toArray, List.set_cons_zero, List.set_cons_succ]
        refine wpAnyH_take (i := 3) (oi := ⟨some 54, _, _, _, _, _⟩) (v := ?_) rfl (by kernel_rfl) (by kernel_rfl) (by kernel_rfl) (fun _ _ _ h => h) (Or.inl ⟨by rfl, ?_⟩) hS ?_
        rotate_left
        · intro W hW; go_simp; with_reducible rfl
        try simp only [Act.put, List.setIfInBounds_toArray, List.set_cons_zero, List.set_cons_succ]
        refine wpAnyH_take (i := 4) (oi := ⟨some 55, _, _, _, _, _⟩) (v := ?_) rfl (by kernel_rfl) (by kernel_rfl) (by kernel_rfl) (fun _ _ _ h => h) (Or.inl ⟨by rfl, ?_⟩) hS ?_
        rotate_left
        · intro W hW; go_simp; with_reducible rfl
        try simp only [Act.put, List.setIfInBounds_toArray, List.set_cons_zero, List.set_cons_succ]
        refine wpAnyH_take (i := 5) (oi := ⟨some 56, _, _, _, _, _⟩) (v := ?_) rfl (by kernel_rfl) (by kernel_rfl) (by kernel_rfl) (fun _ _ _ h => h) (Or.inl ⟨by rfl, ?_⟩) hS ?_
        rotate_left
        · intro W hW; go_simp; with_reducible rfl
        try simp only [Act.put, List.setIfInBounds_toArray, List.set_cons_zero, List.set_cons_succ]
        refine wpAnyH_take (i := 6) (oi := ⟨some 57, _, _, _, _, _⟩) (v := ?_) rfl (by kernel_rfl) (by kernel_rfl) (by kernel_rfl) (fun _ _ _ h => h) (Or.inl ⟨by rfl, ?_⟩) hS ?_
        rotate_left
        · intro W hW; go_simp; with_reducible rfl
        try simp only [Act.put, List.setIfInBounds_toArray, List.set_cons_zero, List.set_cons_succ]
        refine wpAnyH_take (i := 7) (oi := ⟨some 58, _, _, _, _, _⟩) (v := ?_) rfl (by kernel_rfl) (by kernel_rfl) (by kernel_rfl) (fun _ _ _ h => h) (Or.inl ⟨by rfl, ?_⟩) hS ?_
        rotate_left
        · intro W hW; go_simp; with_reducible rfl
        try simp only [Act.put, List.setIfInBounds_toArray, List.set_cons_zero, List.set_cons_succ]
        refine wpAnyH_take (i := 8) (oi := ⟨some 59, _, _, _, _, _⟩) (v := ?_) rfl (by kernel_rfl) (by kernel_rfl) (by kernel_rfl) (fun _ _ _ h => h) (Or.inl ⟨by rfl, ?_⟩) hS ?_
        rotate_left
        · intro W hW; go_simp; with_reducible rfl
        try simp only [Act.put, List.setIfInBounds_toArray, List.set_cons_zero, List.set_cons_succ]
        refine wpAnyH_take (i := 9) (oi := ⟨some 60, _, _, _, _, _⟩) (v := ?_) rfl (by kernel_rfl) (by kernel_rfl) (by kernel_rfl) (fun _ _ _ h => h) (Or.inl ⟨by rfl, ?_⟩) hS ?_
        rotate_left
        · intro W hW; go_simp; with_reducible rfl
        try simp only [Act.put, List.setIfInBounds_toArray, List.set_cons_zero, List.set_cons_succ]
        refine wpAnyH_take (i := 10) (oi := ⟨some 61, _, _, _, _, _⟩) (v := ?_) rfl (by kernel_rfl) (by kernel_rfl) (by kernel_rfl) (fun _ _ _ h => h) (Or.inl ⟨by rfl, ?_⟩) hS ?_
        rotate_left
        · intro W hW; go_simp; with_reducible rfl
        try simp only [Act.put, List.setIfInBounds_toArray, List.set_cons_zero, List.set_cons_succ]
        refine wpAnyH_take (i := 11) (oi := ⟨some 62, _, _, _, _, _⟩) (v := ?_) rfl (by kernel_rfl) (by kernel_rfl) (by kernel_rfl) (fun _ _ _ h => h) (Or.inl ⟨by rfl, ?_⟩) hS ?_
        rotate_left
        · intro W hW; go_simp; with_reducible rfl
        try simp only [Act.put, List.setIfInBounds_toArray, List.set_cons_zero, List.set_cons_succ]
        refine wpAnyH_take (i := 13) (oi := ⟨some 64, _, _, _, _, _⟩) (v := ?_) rfl (by kernel_rfl) (by kernel_rfl) (by kernel_rfl) (fun _ _ _ h => h) (Or.inl ⟨by rfl, ?_⟩) hS ?_
        rotate_left
        · intro W hW; go_simp; with_reducible rfl
        try simp only [Act.put, List.setIfInBounds_toArray, List.set_cons_zero, List.set_cons_succ]
        refine wpAnyH_ready (rs := [12]) (by kernel_rfl) (by simp) ?_
        refine AllReadyH.cons (o := ⟨some 63, _, _, _, _, _⟩) rfl (fun Kr hKr => ?_) AllReadyH.nil
        -- operation 12: a call
        go_simp
        refine (HSEC.out (T + (i : Int)) _).mono ?_
        rintro e V1 ⟨rfl, hx⟩
        have HB1 : Hid (Below wr.heap.size wr V1) := below_two ((Below.refl _ _).drew) hx
        show Kr _ _
        refine hKr.out _ _ ?_ (fun _ => ?_)
        · exact KpL.of (HLOG.out.below HB1.out) (Turn.ofBelow HB1.out)
        clear hKr Kr
        replace hS : (KpL wr q p L M ⟨⟨F, S, H, T⟩, E, safe, false⟩) V1 := KpL.of (HLOG.out.below HB1.out) (Turn.ofBelow HB1.out)
        try simp only [Act.put, List.setIfInBounds_toArray, List.set_cons_zero, List.set_cons_succ]
        refine wpAnyH_ready (rs := [14]) (by kernel_rfl) (by simp) ?_
        refine AllReadyH.cons (o := ⟨some 65, _, _, _, _, _⟩) rfl (fun Kr hKr => ?_) AllReadyH.nil
        -- operation 14: a call
        go_simp
        refine (HWR.out _ HB1.out).mono ?_
        rintro e V2 ⟨rfl, hd2, ht2⟩
        have HD2 := Lib.hid hd2
        have HL2 := Lib.hid ((HLOG.out.below HB1.out).turn ht2 hne)
        have HT2 := Lib.hid ((Turn.ofBelow (S := DS p L M) HB1.out).trans ht2)
        clear hd2 ht2
        show Kr _ _
        refine hKr.out _ _ ?_ (fun _ => ?_)
        · exact KpL.of HL2.out (HT2.out.mono (fun _ h => .inl h))
        clear hKr Kr
        replace hS : (KpL wr q p L M ⟨⟨F, S, H, T⟩, E, safe, false⟩) V2 := KpL.of HL2.out (HT2.out.mono (fun _ h => .inl h))
        try simp only [Act.put, List.setIfInBounds_toArray, List.set_cons_zero, List.set_cons_succ]
        refine wpAnyH_ready (rs := [15]) (by kernel_rfl) (by simp) ?_
        refine AllReadyH.cons (o := ⟨some 66, _, _, _, _, _⟩) rfl (fun Kr hKr => ?_) AllReadyH.nil
        -- operation 15: a call
        go_simp
        refine (heed_no HL2.out 11 rfl).mono ?_
        rintro e V3 ⟨rfl, hx⟩
        subst hx
        show Kr _ _
        refine hKr.out _ _ ?_ (fun _ => ?_)
        · exact KpL.mk ((HT2.out.mono (fun _ h => .inl h)).setCell _ _ (.inl (.inr rfl))) HL2.out.broke.c0 HL2.out.broke.c1 HL2.out.broke.c2 HL2.out.broke.c3 HL2.out.broke.c4
        clear hKr Kr
        replace hS : (KpL wr q p L M ⟨⟨F, S, H, T⟩, E, safe, false⟩) (V2.setCell ⟨q, 7, none⟩ (.bool true)) := KpL.mk ((HT2.out.mono (fun _ h => .inl h)).setCell _ _ (.inl (.inr rfl))) HL2.out.broke.c0 HL2.out.broke.c1 HL2.out.broke.c2 HL2.out.broke.c3 HL2.out.broke.c4
        try simp only [Act.put, List.setIfInBounds_toArray, List.set_cons_zero, List.set_cons_succ]
        refine wpAnyH_take (i := 16) (oi := ⟨some 12, _, _, _, _, _⟩) (v := ?_) rfl (by kernel_rfl) (by kernel_rfl) (by kernel_rfl) (fun _ _ _ h => h) (Or.inl ⟨by rfl, ?_⟩) hS ?_
        rotate_left
        · intro W hW; go_simp; with_reducible rfl
        try simp only [Act.put, List.setIfInBounds_toArray, List.set_cons_zero, List.set_cons_succ]
        refine wpAnyH_done (by kernel_rfl) ?_ _
        have HL3 := Lib.hid HL2.out.broke
        have HTS : Hid (Turn (LS q p L M) w (V2.setCell ⟨q, 7, none⟩ (.bool true))) := (((Turn.ofBelow HB4.out).trans ((HTN.out.trans HT2.out).mono (fun _ h => .inl h)))).setCell _ _ (.inl (.inr rfl))
        have HD3 : Hid (IsDev (V2.setCell ⟨q, 7, none⟩ (.bool true)) p L M (DD N)) := by
          rw [HPT.out (i + 1) hgn N (by omega)]
          exact HD2.out.turn ((Turn.refl (· = q) V2).setCell ⟨q, 7, none⟩ _ (.inl rfl)) (fun e => hne (e ▸ .inl rfl)) (fun e => hne (e ▸ .inr (.inl rfl))) (fun e => hne (e ▸ .inr (.inr rfl)))
        have HGG : Hid ((DD N).gone = true) := by show _ = _; rw [HPT.out (i + 1) hgn N (by omega)]; exact hgn
        have hne2 : ((11 : Int) != 0) = true := rfl
        clear hS v0 v1 v2 v3 v4 kx
        go_wp2_with fail
        go_ret2
        exact HGN.out _ HGG.out HL3.out HD3.out HTS.out
      · rw [if_neg hgn] at HWR
        have HGF : Hid ((DD (i + 1)).gone = false) := Bool.eq_false_iff.2 hgn
        go_upto_region 13 with fail
        refine wp_region_held_drew (S := KpL wr q p L M ⟨⟨F, S, H, T⟩, E, safe, false⟩) (by kernel_rfl) (KpL.of (HLOG.out.below ((Below.refl _ _).drew)) ((Turn.refl _ _).drew)) (fun _ => ?_)
        have hS : (KpL wr q p L M ⟨⟨F, S, H, T⟩, E, safe, false⟩) (World.drew wr) := KpL.of (HLOG.out.below ((Below.refl _ _).drew)) ((Turn.refl _ _).drew)
        refine wpAnyH_take (i := 0) (oi := ⟨some 51, _, _, _, _, _⟩) (v := ?_) rfl (by kernel_rfl) (by kernel_rfl) (by kernel_rfl) (fun _ _ _ h => h) (Or.inl ⟨by rfl, ?_⟩) hS ?_
        rotate_left
        · intro W hW; go_simp; with_reducible rfl
        try simp only [Act.put, List.setIfInBounds_toArray, List.set_cons_zero, List.set_cons_succ]
        refine wpAnyH_take (i := 1) (oi := ⟨some 52, _, _, _, _, _⟩) (v := ?_) rfl (by kernel_rfl) (by kernel_rfl) (by kernel_rfl) (fun _ _ _ h => h) (Or.inl ⟨by rfl, ?_⟩) hS ?_
        rotate_left
        · intro W hW; go_simp; with_reducible rfl
        try simp only [Act.put, List.setIfInBounds_toArray, List.set_cons_zero, List.set_cons_succ]
        refine wpAnyH_take (i := 2) (oi := ⟨some 53, _, _, _, _, _⟩) (v := ?_) rfl (by kernel_rfl) (by kernel_rfl) (by kernel_rfl) (fun _ _ _ h => h) (Or.inl ⟨by rfl, ?_⟩) hS ?_
        rotate_left
        · intro W hW; go_simp; with_reducible rfl
        try simp only [Act.put, List.setIfInBounds_toArray, List.set_cons_zero, List.set_cons_succ]
        refine wpAnyH_take (i := 3) (oi := ⟨some 54, _, _, _, _, _⟩) (v := ?_) rfl (by kernel_rfl) (by kernel_rfl) (by kernel_rfl) (fun _ _ _ h => h) (Or.inl ⟨by rfl, ?_⟩) hS ?_
        rotate_left
        · intro W hW; go_simp; with_reducible rfl
        try simp only [Act.put, List.setIfInBounds_toArray, List.set_cons_zero, List.set_cons_succ]
        refine wpAnyH_take (i := 4) (oi := ⟨some 55, _, _, _, _, _⟩) (v := ?_) rfl (by kernel_rfl) (by kernel_rfl) (by kernel_rfl) (fun _ _ _ h => h) (Or.inl ⟨by rfl, ?_⟩) hS ?_
        rotate_left
        · intro W hW; go_simp; with_reducible rfl
        try simp only [Act.put, List.setIfInBounds_toArray, List.set_cons_zero, List.set_cons_succ]
        refine wpAnyH_take (i := 5) (oi := ⟨some 56, _, _, _, _, _⟩) (v := ?_) rfl (by kernel_rfl) (by kernel_rfl) (by kernel_rfl) (fun _ _ _ h => h) (Or.inl ⟨by rfl, ?_⟩) hS ?_
        rotate_left
        · intro W hW; go_simp; with_reducible rfl
        try simp only [Act.put, List.setIfInBounds_toArray, List.set_cons_zero, List.set_cons_succ]
        refine wpAnyH_take (i := 6) (oi := ⟨some 57, _, _, _, _, _⟩) (v := ?_) rfl (by kernel_rfl) (by kernel_rfl) (by kernel_rfl) (fun _ _ _ h => h) (Or.inl ⟨by rfl, ?_⟩) hS ?_
        rotate_left
        · intro W hW; go_simp; with_reducible rfl
        try simp only [Act.put, List.setIfInBounds_toArray, List.set_cons_zero, List.set_cons_succ]
        refine wpAnyH_take (i := 7) (oi := ⟨some 58, _, _, _, _, _⟩) (v := ?_) rfl (by kernel_rfl) (by kernel_rfl) (by kernel_rfl) (fun _ _ _ h => h) (Or.inl ⟨by rfl, ?_⟩) hS ?_
        rotate_left
        · intro W hW; go_simp; with_reducible rfl
        try simp only [Act.put, List.setIfInBounds_toArray, List.set_cons_zero, List.set_cons_succ]
        refine wpAnyH_take (i := 8) (oi := ⟨some 59, _, _, _, _, _⟩) (v := ?_) rfl (by kernel_rfl) (by kernel_rfl) (by kernel_rfl) (fun _ _ _ h => h) (Or.inl ⟨by rfl, ?_⟩) hS ?_
        rotate_left
        · intro W hW; go_simp; with_reducible rfl
        try simp only [Act.put, List.setIfInBounds_toArray, List.set_cons_zero, List.set_cons_succ]
        refine wpAnyH_take (i := 9) (oi := ⟨some 60, _, _, _, _, _⟩) (v := ?_) rfl (by kernel_rfl) (by kernel_rfl) (by kernel_rfl) (fun _ _ _ h => h) (Or.inl ⟨by rfl, ?_⟩) hS ?_
        rotate_left
        · intro W hW; go_simp; with_reducible rfl
        try simp only [Act.put, List.setIfInBounds_toArray, List.set_cons_zero, List.set_cons_succ]
        refine wpAnyH_take (i := 10) (oi := ⟨some 61, _, _, _, _, _⟩) (v := ?_) rfl (by kernel_rfl) (by kernel_rfl) (by kernel_rfl) (fun _ _ _ h => h) (Or.inl ⟨by rfl, ?_⟩) hS ?_
        rotate_left
        · intro W hW; go_simp; with_reducible rfl
        try simp only [Act.put, List.setIfInBounds_toArray, List.set_cons_zero, List.set_cons_succ]
        refine wpAnyH_take (i := 11) (oi := ⟨some 62, _, _, _, _, _⟩) (v := ?_) rfl (by kernel_rfl) (by kernel_rfl) (by kernel_rfl) (fun _ _ _ h => h) (Or.inl ⟨by rfl, ?_⟩) hS ?_
        rotate_left
        · intro W hW; go_simp; with_reducible rfl
        try simp only [Act.put, List.setIfInBounds_toArray, List.set_cons_zero, List.set_cons_succ]
        refine wpAnyH_take (i := 13) (oi := ⟨some 64, _, _, _, _, _⟩) (v := ?_) rfl (by kernel_rfl) (by kernel_rfl) (by kernel_rfl) (fun _ _ _ h => h) (Or.inl ⟨by rfl, ?_⟩) hS ?_
        rotate_left
        · intro W hW; go_simp; with_reducible rfl
        try simp only [Act.put, List.setIfInBounds_toArray, List.set_cons_zero, List.set_cons_succ]
        refine wpAnyH_ready (rs := [12]) (by kernel_rfl) (by simp) ?_
        refine AllReadyH.cons (o := ⟨some 63, _, _, _, _, _⟩) rfl (fun Kr hKr => ?_) AllReadyH.nil
        -- operation 12: a call
        go_simp
        refine (HSEC.out (T + (i : Int)) _).mono ?_
        rintro e V1 ⟨rfl, hx⟩
        have HB1 : Hid (Below wr.heap.size wr V1) := below_two ((Below.refl _ _).drew) hx
        show Kr _ _
        refine hKr.out _ _ ?_ (fun _ => ?_)
        · exact KpL.of (HLOG.out.below HB1.out) (Turn.ofBelow HB1.out)
        clear hKr Kr
        replace hS : (KpL wr q p L M ⟨⟨F, S, H, T⟩, E, safe, false⟩) V1 := KpL.of (HLOG.out.below HB1.out) (Turn.ofBelow HB1.out)
        try simp only [Act.put, List.setIfInBounds_toArray, List.set_cons_zero, List.set_cons_succ]
        refine wpAnyH_ready (rs := [14]) (by kernel_rfl) (by simp) ?_
        refine AllReadyH.cons (o := ⟨some 65, _, _, _, _, _⟩) rfl (fun Kr hKr => ?_) AllReadyH.nil
        -- operation 14: a call
        go_simp
        refine (HWR.out _ HB1.out).mono ?_
        rintro e V2 ⟨rfl, hd2, ht2⟩
        have HD2 := Lib.hid hd2
        have HL2 := Lib.hid ((HLOG.out.below HB1.out).turn ht2 hne)
        have HT2 := Lib.hid ((Turn.ofBelow (S := DS p L M) HB1.out).trans ht2)
        clear hd2 ht2
        show Kr _ _
        refine hKr.out _ _ ?_ (fun _ => ?_)
        · exact KpL.of HL2.out (HT2.out.mono (fun _ h => .inl h))
        clear hKr Kr
        replace hS : (KpL wr q p L M ⟨⟨F, S, H, T⟩, E, safe, false⟩) V2 := KpL.of HL2.out (HT2.out.mono (fun _ h => .inl h))
        try simp only [Act.put, List.setIfInBounds_toArray, List.set_cons_zero, List.set_cons_succ]
        refine wpAnyH_ready (rs := [15]) (by kernel_rfl) (by simp) ?_
        refine AllReadyH.cons (o := ⟨some 66, _, _, _, _, _⟩) rfl (fun Kr hKr => ?_) AllReadyH.nil
        -- operation 15: a call
        go_simp
        refine (heed_ok V2 (ptr q)).mono ?_
        rintro e V3 ⟨rfl, hx⟩
        subst hx
        show Kr _ _
        refine hKr.out _ _ ?_ (fun _ => ?_)
        · exact hS
        clear hKr Kr
        try simp only [Act.put, List.setIfInBounds_toArray, List.set_cons_zero, List.set_cons_succ]
        refine wpAnyH_take (i := 16) (oi := ⟨some 12, _, _, _, _, _⟩) (v := ?_) rfl (by kernel_rfl) (by kernel_rfl) (by kernel_rfl) (fun _ _ _ h => h) (Or.inl ⟨by rfl, ?_⟩) hS ?_
        rotate_left
        · intro W hW; go_simp; with_reducible rfl
        try simp only [Act.put, List.setIfInBounds_toArray, List.set_cons_zero, List.set_cons_succ]
        refine wpAnyH_done (by kernel_rfl) ?_ _
        have HTS := Lib.hid (HTN.out.trans HT2.out)
        have hne2 : ((0 : Int) != 0) = false := rfl
        clear hS v0 v1 v2 v3 v4 kx
        go_wp2_with fail
        refine ⟨⟨i + 1, by go_num, by omega, HL2, HD2, HTS, .inr HGF.out⟩, by simp [intOf]; omega⟩
    · obtain rfl : i = N := by omega
      have hdj : decide ((i : Int) < (i : Int)) = false := decide_eq_false (by omega)
      have hdj2 : decide (i < i) = false := decide_eq_false (by omega)
      have HGF : Hid ((DD i).gone = false) := by rcases HNG.out with h | h; exact absurd h (by omega); exact h
      have HXR : Hid (Bx wr g9 ⟨F, S, H, T + (i : Int)⟩ 74) := (HTN.out.block g9 HX4.out.lt (fun hk => by have := HLO.out g9 hk; omega)).trans HX4.out
      have x0 := HXR.out.c0
      have x1 := HXR.out.c1
      have x2 := HXR.out.c2
      have x3 := HXR.out.c3
      have c0 := HLOG.out.c0
      have c1 := HLOG.out.c1
      have c2' := HLOG.out.c2
      have c3 := HLOG.out.c3
      have f0 := HLOG.out.fr 0
      have f1 := HLOG.out.fr 1
      have f2 := HLOG.out.fr 2
      have f3 := HLOG.out.fr 3
      try simp only at x0 x1 x2 x3 c0 c1 c2' c3
      go_wp2_with fail
      go_ret2
      refine HOK.out _ HGF.out (HLOG.out.ring ⟨F, S, H, T + (i : Int)⟩) ?_ ?_
      · exact HDEV.out.turn (((((Turn.refl (· = q) wr).setCell ⟨q, 0, none⟩ _ (.inl rfl)).setCell ⟨q, 1, none⟩ _ (.inl rfl)).setCell ⟨q, 2, none⟩ _ (.inl rfl)).setCell ⟨q, 3, none⟩ _ (.inl rfl)) (fun e => hne (e ▸ .inl rfl)) (fun e => hne (e ▸ .inr (.inl rfl))) (fun e => hne (e ▸ .inr (.inr rfl)))
      · exact (((((Turn.ofBelow HB4.out).trans (HTN.out.mono (fun _ h => .inl h))).setCell ⟨q, 0, none⟩ _ (.inl (.inr rfl))).setCell ⟨q, 1, none⟩ _ (.inl (.inr rfl))).setCell ⟨q, 2, none⟩ _ (.inl (.inr rfl))).setCell ⟨q, 3, none⟩ _ (.inl (.inr rfl))

/-- what Force answers, and leaves -/
def ForOut (w : World) (q p L M : Nat) (G : Lg) (D : Dv) (e : Ending) (w' : World) : Prop :=
  e = .returned (.int .i64 (G.forE D)) ∧ IsLog w' q p (G.forG D) ∧ IsDev w' p L M (G.forD D) ∧ Turn (LS q p L M) w w'

theorem force_nil (w : World) : Calls Tryz.prog 13 #[.pointer none] w fun e w' => e = .returned (.int .i64 11) ∧ w' = w := by
  go_enter Tryz.func13, Tryz.ntmps13
  go_wp2_with fail
  refine (works_nil w).mono ?_
  rintro e w' ⟨rfl, hw⟩
  replace hw := hw.symm
  subst hw
  go_wp2_with fail
  go_ret
  exact ⟨rfl, rfl⟩

theorem force_any {w : World} {q p L M : Nat} {G : Lg} {D : Dv} (hl : IsLog w q p G) (hd : IsDev w p L M D) (hsp : D.spent ≤ 1000000) :
    Calls Tryz.prog 13 #[ptr q] w (ForOut w q p L M G D) := by
  have HW := Lib.hid (works_any hl)
  have hne := log_ne hl hd
  cases hbr : G.broken with
  | true =>
    have HE : Hid (ForOut w q p L M G D (.returned (.int .i64 11)) w) := by
      have e1 : G.forE D = 11 := by unfold Lg.forE; rw [if_pos hbr]
      have e2 : G.forG D = G := by unfold Lg.forG; rw [if_pos hbr]
      have e3 : G.forD D = D := by unfold Lg.forD; rw [if_pos hbr]
      unfold ForOut
      rw [e1, e2, e3]
      exact ⟨rfl, hl, hd, Turn.refl _ _⟩
    rw [hbr] at HW
    clear hl hd hbr
    go_enter Tryz.func13, Tryz.ntmps13
    go_wp2_with fail
    refine HW.out.mono ?_
    rintro e w' ⟨rfl, hw⟩
    replace hw := hw.symm
    subst hw
    go_wp2_with fail
    go_ret
    exact HE.out
  | false =>
    have hfl := flush_any hd hsp
    have hfb : ¬ G.broken = true := by rw [hbr]; exact Bool.false_ne_true
    have e1 : G.forE D = D.flushE := by unfold Lg.forE; rw [if_neg hfb]
    have e2 : G.forG D = if D.flushE ≠ 0 then { G with broken := true } else { G with safe := G.R.T } := by unfold Lg.forG; rw [if_neg hfb]
    have e3 : G.forD D = D.flush := by unfold Lg.forD; rw [if_neg hfb]
    have HE : Hid (∀ W, IsLog W q p (G.forG D) → IsDev W p L M D.flush → Turn (LS q p L M) w W → ForOut w q p L M G D (.returned (.int .i64 D.flushE)) W) := by
      intro W h1 h2 h3
      unfold ForOut
      rw [e1, e3]
      exact ⟨rfl, h1, h2, h3⟩
    rw [e2] at HE
    rw [hbr] at HW
    have c4 := hl.c4
    have HLV := Lib.hid hl
    clear hl hd hfb e1 e2 e3
    by_cases hz : D.flushE = 0
    · rw [if_neg (by rw [hz]; exact fun h => h rfl), hz] at HE
      rw [hz] at hfl
      have HFL := Lib.hid hfl
      clear hfl
      go_enter Tryz.func13, Tryz.ntmps13
      go_wp2_with fail
      refine HW.out.mono ?_
      rintro e w' ⟨rfl, hw⟩
      replace hw := hw.symm
      subst hw
      go_wp2_with fail
      refine HFL.out.mono ?_
      rintro e w2 ⟨rfl, hd2, ht2⟩
      have HL2 := Lib.hid (HLV.out.turn ht2 hne)
      have HD2 := Lib.hid hd2
      have HT2 := Lib.hid ht2
      clear hd2 ht2 c4
      go_wp2_with fail
      refine (heed_ok w2 (ptr q)).mono ?_
      rintro e w' ⟨rfl, hw⟩
      replace hw := hw.symm
      subst hw
      have hne2 : ((0 : Int) != 0) = false := rfl
      have HTL := Lib.hid (ltail_any HL2.out)
      have c6 := HL2.out.c6
      have f6 := HL2.out.fr 6
      go_wp2_with fail
      refine HTL.out.mono ?_
      rintro e w' ⟨rfl, hw⟩
      replace hw := hw.symm
      subst hw
      go_wp2_with fail
      go_ret
      refine HE.out _ (HL2.out.safed _) ?_ ((HT2.out.mono (fun _ h => .inl h)).setCell _ _ (.inl (.inr rfl)))
      exact HD2.out.turn ((Turn.refl (· = q) w2).setCell ⟨q, 6, none⟩ _ (.inl rfl)) (fun e => hne (e ▸ .inl rfl)) (fun e => hne (e ▸ .inr (.inl rfl))) (fun e => hne (e ▸ .inr (.inr rfl)))
    · rw [if_pos hz] at HE
      have hne2 : (D.flushE != 0) = true := by rw [bne_iff_ne]; exact hz
      have heq2 : (D.flushE == 0) = false := by simpa using hz
      have HQ2 := Lib.hid heq2
      clear hz heq2
      generalize D.flushE = fe at *
      have HFL := Lib.hid hfl
      clear hfl
      go_enter Tryz.func13, Tryz.ntmps13
      go_wp2_with fail
      refine HW.out.mono ?_
      rintro e w' ⟨rfl, hw⟩
      replace hw := hw.symm
      subst hw
      go_wp2_with fail
      refine HFL.out.mono ?_
      rintro e w2 ⟨rfl, hd2, ht2⟩
      have HL2 := Lib.hid (HLV.out.turn ht2 hne)
      have HD2 := Lib.hid hd2
      have HT2 := Lib.hid ht2
      clear hd2 ht2 c4
      go_wp2_with fail
      refine (heed_no HL2.out fe HQ2.out).mono ?_
      rintro e w3 ⟨rfl, hw⟩
      subst hw
      go_wp2_with fail
      go_ret
      refine HE.out _ HL2.out.broke ?_ ((HT2.out.mono (fun _ h => .inl h)).setCell _ _ (.inl (.inr rfl)))
      exact HD2.out.turn ((Turn.refl (· = q) w2).setCell ⟨q, 7, none⟩ _ (.inl rfl)) (fun e => hne (e ▸ .inl rfl)) (fun e => hne (e ▸ .inr (.inl rfl))) (fun e => hne (e ▸ .inr (.inr rfl)))

theorem drop_nil (w : World) (v : Value) : Calls Tryz.prog 26 #[.pointer none, v] w fun e w' => e = .returned (.int .i64 11) ∧ w' = w := by
  go_enter Tryz.func26, Tryz.ntmps26
  go_wp2_with fail
  refine (works_nil w).mono ?_
  rintro e w' ⟨rfl, hw⟩
  replace hw := hw.symm
  subst hw
  go_wp2_with fail
  go_ret
  exact ⟨rfl, rfl⟩

theorem ldrop_any {w : World} {q p : Nat} {G : Lg} (hl : IsLog w q p G) (to_ : Int) :
    Calls Tryz.prog 26 #[ptr q, .int .i64 to_] w fun e w' => e = .returned (.int .i64 (G.dropE to_)) ∧ IsLog w' q p (G.dropG to_) ∧ Turn (· = q) w w' := by
  have HW := Lib.hid (works_any hl)
  cases hbr : G.broken with
  | true =>
    have HE : Hid (∀ W, W = w → (Ending.returned (.int .i64 11) = .returned (.int .i64 (G.dropE to_)) ∧ IsLog W q p (G.dropG to_) ∧ Turn (· = q) w W)) := by
      intro W hW
      subst hW
      have e1 : G.dropE to_ = 11 := by unfold Lg.dropE; rw [if_pos hbr]
      have e2 : G.dropG to_ = G := by unfold Lg.dropG; rw [e1, if_neg (by decide)]
      rw [e1, e2]
      exact ⟨rfl, hl, Turn.refl _ _⟩
    rw [hbr] at HW
    clear hl hbr
    go_enter Tryz.func26, Tryz.ntmps26
    go_wp2_with fail
    refine HW.out.mono ?_
    rintro e w' ⟨rfl, hw⟩
    replace hw := hw.symm
    subst hw
    go_wp2_with fail
    go_ret
    exact HE.out _ rfl
  | false =>
    have hfb : ¬ G.broken = true := by rw [hbr]; exact Bool.false_ne_true
    have e1 : G.dropE to_ = G.R.dropE to_ := by unfold Lg.dropE; rw [if_neg hfb]
    have HE : Hid (∀ W, IsLog W q p (if G.R.dropE to_ = 0 then { G with R := ⟨G.R.F, G.R.S, to_, G.R.T⟩ } else G) → Turn (· = q) w W → (Ending.returned (.int .i64 (G.R.dropE to_)) = .returned (.int .i64 (G.dropE to_)) ∧ IsLog W q p (G.dropG to_) ∧ Turn (· = q) w W)) := by
      intro W h1 h2
      have e2 : G.dropG to_ = if G.R.dropE to_ = 0 then { G with R := ⟨G.R.F, G.R.S, to_, G.R.T⟩ } else G := by unfold Lg.dropG; rw [e1]
      rw [e1, e2]
      exact ⟨rfl, h1, h2⟩
    have hdr := drop_any G.R to_
    have hta : G.R.drop to_ = if G.R.dropE to_ = 0 then ⟨G.R.F, G.R.S, to_, G.R.T⟩ else Rg.zero := rfl
    rw [hta] at hdr
    rw [hbr] at HW
    have HLV := Lib.hid hl
    have c0 := hl.c0
    have c1 := hl.c1
    have c2 := hl.c2
    have c3 := hl.c3
    clear hl hfb e1 hta
    obtain ⟨⟨F, S, H, T⟩, E, safe, broken⟩ := G
    simp only at hbr HE hdr c0 c1 c2 c3
    subst hbr
    generalize (Rg.mk F S H T).dropE to_ = de at *
    by_cases hz : de = 0
    · subst hz
      rw [if_pos rfl] at hdr HE
      have HDR := Lib.hid hdr
      clear hdr
      go_enter Tryz.func26, Tryz.ntmps26
      go_wp2_with fail
      refine HW.out.mono ?_
      rintro e w' ⟨rfl, hw⟩
      replace hw := hw.symm
      subst hw
      go_wp2_with fail
      refine (HDR.out _).mono ?_
      rintro e w2 ⟨rfl, hb2⟩
      have HB2 := Lib.hid hb2
      clear hb2 c0 c1 c2 c3
      have hne2 : ((0 : Int) != 0) = false := rfl
      go_upto_region 6 with fail
      have HX4 : Hid (Bx (w2.alloc (.cells #[.int .i64 F, .int .i64 S, .int .i64 to_, .int .i64 T] 74)) w2.heap.size ⟨F, S, to_, T⟩ 74) := heap_alloc_new w2 _
      have HBB : Hid (Below w2.heap.size w2 (w2.alloc (.cells #[.int .i64 F, .int .i64 S, .int .i64 to_, .int .i64 T] 74))) := below_new w2 _
      have HB4 : Hid (Below w.heap.size w (w2.alloc (.cells #[.int .i64 F, .int .i64 S, .int .i64 to_, .int .i64 T] 74))) := below_two HB2.out HBB.out
      clear HBB
      generalize w2.alloc (.cells #[.int .i64 F, .int .i64 S, .int .i64 to_, .int .i64 T] 74) = w4 at *
      have HL4 := Lib.hid (HLV.out.below HB4.out)
      have x0 := HX4.out.c0
      have x1 := HX4.out.c1
      have x2 := HX4.out.c2
      have x3 := HX4.out.c3
      have c0 := HL4.out.c0
      have c1 := HL4.out.c1
      have c2 := HL4.out.c2
      have c3 := HL4.out.c3
      have f0 := HL4.out.fr 0
      have f1 := HL4.out.fr 1
      have f2 := HL4.out.fr 2
      have f3 := HL4.out.fr 3
      try simp only at x0 x1 x2 x3 c0 c1 c2 c3
      go_wp2_with fail
      go_ret
      exact HE.out _ (HL4.out.ring ⟨F, S, to_, T⟩) (((((Turn.ofBelow (S := (· = q)) HB4.out).setCell ⟨q, 0, none⟩ _ (.inl rfl)).setCell ⟨q, 1, none⟩ _ (.inl rfl)).setCell ⟨q, 2, none⟩ _ (.inl rfl)).setCell ⟨q, 3, none⟩ _ (.inl rfl))
    · rw [if_neg hz] at hdr HE
      have HDR := Lib.hid hdr
      have hne2 : (de != 0) = true := by rw [bne_iff_ne]; exact hz
      clear hdr hz
      go_enter Tryz.func26, Tryz.ntmps26
      go_wp2_with fail
      refine HW.out.mono ?_
      rintro e w' ⟨rfl, hw⟩
      replace hw := hw.symm
      subst hw
      go_wp2_with fail
      refine (HDR.out _).mono ?_
      rintro e w2 ⟨rfl, hb2⟩
      have HB4 : Hid (Below w.heap.size w (w2.alloc (.cells (rgC Rg.zero) 74))) := below_two hb2 (below_new w2 _)
      clear hb2 c0 c1 c2 c3
      go_wp2_with fail
      go_ret
      exact HE.out _ (HLV.out.below HB4.out) (Turn.ofBelow HB4.out)

end Go.Proofs.YtdjfahnnfhediaaGreat
