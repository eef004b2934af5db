/-
  The records that the program's Open finds.
-/
import Derived.Test.YtdjfahnnfhediaaGreatRecs
import Derived.Deep.CutRange
namespace Go.Proofs.YtdjfahnnfhediaaGreat
set_option maxRecDepth 100000
open Go.RowKit Crc Wm

/-- what a round of found has: since w the log's block alone has turned, the records lie in new memory -/
structure FMid (T : TypeId) (w wr : World) (q : Nat) (v : Value) (rs : List (Int × List UInt8)) : Prop where
  turn : Turn (· = q) w wr
  recs : Rs T wr w.heap.size v rs
section
variable {T : TypeId} {w wr w' : World} {q : Nat} {v : Value} {rs : List (Int × List UInt8)}
theorem FMid.below (h : FMid T w wr q v rs) (hb : Below wr.heap.size wr w') : FMid T w w' q v rs := ⟨h.turn.trans (Turn.ofBelow hb), h.recs.below hb⟩
theorem FMid.setq (h : FMid T w wr q v rs) (hq : q < w.heap.size) (i : Nat) (x : Value) : FMid T w (wr.setCell ⟨q, i, none⟩ x) q v rs := by
  have ht : Turn (· = q) wr (wr.setCell ⟨q, i, none⟩ x) := (Turn.refl _ _).setCell _ _ (.inl rfl)
  exact ⟨h.turn.trans ht, h.recs.turn ht (fun k hk => by omega)⟩
theorem FMid.push (h : FMid T w wr q v rs) {v' : Value} {ss : List (Int × List UInt8)} (hr : Rs T w' w.heap.size v' ss) (hg : wr.grownBy w' v.ownBlock) : FMid T w w' q v' ss := by
  have hv := h.recs.lt
  exact ⟨h.turn.grown hg (fun j hj => .inr (hv j hj).1), hr⟩
end

theorem ring_len {D : Dv} (h : D.Ok) (R : Rg) : ∀ x ∈ ringL D R, x.length ≤ 1000000 := by
  intro x hx
  unfold ringL at hx
  obtain ⟨i, _, rfl⟩ := List.mem_map.1 hx
  unfold Dv.read
  split
  · simp
  · split
    · next hh =>
      rw [h.sector (Dv.has_lt hh).1]
      decide
    · simp

/-- what found answers, and leaves -/
def FoundOut (w : World) (q p : Nat) (G : Lg) (ls : List (List UInt8)) (e : Ending) (w' : World) : Prop :=
  ∃ rs t A n c, e = .returned (.slice A n c) ∧ n = rs.length ∧ RsN w' w.heap.size A rs ∧ Fnd ls G.R.H G.E rs t ∧ IsLog w' q p { G with R := ⟨G.R.F, G.R.S, G.R.H, t⟩ } ∧ Turn (· = q) w w' ∧ n ≤ 4096 ∧ n ≤ c

theorem fnd_end {w w1 wr : World} {q p : Nat} {F S H T E safe : Int} {broken : Bool} {ls : List (List UInt8)} {A : Option Addr} {m c : Nat} {rs : List (Int × List UInt8)} {last at_ : Int} (hf : FMid 53 w1 wr q (.slice A m c) rs) (hm : rs.length = m) (hb : Below w.heap.size w w1)
    (hr : Run ls H E 0 H rs last at_) (hc : counts ls H E last at_ = false) (hl : IsLog wr q p ⟨⟨F, S, H, at_⟩, E, safe, broken⟩) (h4 : m ≤ 4096) : ∀ W, Below wr.heap.size wr W → FoundOut w q p ⟨⟨F, S, H, T⟩, E, safe, broken⟩ ls (.returned (.slice A m c)) W := by
  intro W hW
  obtain ⟨A', c', e, hn, hcc⟩ := (hf.below hW).recs.form
  injection e with e1 e2 e3
  subst e1 e3
  exact ⟨rs, at_, A, m, c, rfl, hm.symm, hn.le hb.size, ⟨last, hr, hc⟩, hl.below hW, (Turn.ofBelow hb).trans (hf.below hW).turn, h4, by omega⟩

set_option maxHeartbeats 1000000 in
theorem found_any {w : World} {q p L M : Nat} {F S H E safe : Int} {broken : Bool} {D : Dv} (hl : IsLog w q p ⟨⟨F, S, H, H⟩, E, safe, broken⟩) (hd : IsDev w p L M D) (hon : (Lg.mk ⟨F, S, H, H⟩ E safe broken).On D) :
    Calls Tryz.prog 37 #[ptr q] w (FoundOut w q p ⟨⟨F, S, H, H⟩, E, safe, broken⟩ (ringL D ⟨F, S, H, H⟩)) := by
  obtain ⟨i0, hi, hz0, hz1, hz2⟩ := info_parts rec_facts
  have HI := Lib.hid (show _ ∧ _ ∧ _ ∧ _ from ⟨hi, hz0, hz1, hz2⟩)
  clear hi hz0 hz1 hz2
  have HSEC := Lib.hid (sectors_any hl hd hon)
  have HSM := Lib.hid (ring_len hd.ok ⟨F, S, H, H⟩)
  obtain ⟨n, hn⟩ : ∃ n : Nat, S = (n : Int) := ⟨S.toNat, by have : 1 ≤ S := hon.ok.s0; omega⟩
  subst hn
  have HLEN : Hid ((ringL D ⟨F, n, H, H⟩).length = n) := by show _ = _; rw [length_ringL]; rfl
  have hnb : 1 ≤ n ∧ n ≤ 4096 := by have h1 : 1 ≤ (n : Int) := hon.ok.s0; have h2 : (n : Int) ≤ 4096 := hon.ok.s1; omega
  have hHb : 0 ≤ H ∧ H ≤ 1099511627776 := ⟨hon.ok.h0, hon.ok.t1⟩
  have hFb : 0 ≤ F ∧ F ≤ 4096 := ⟨hon.ok.f0, hon.ok.f1⟩
  have HL := Lib.hid hl
  have hql := hl.lt
  clear hl hd hon
  generalize ringL D ⟨F, n, H, H⟩ = ls at *
  go_enter Tryz.func37, Tryz.ntmps37
  go_wp2_with fail
  refine HSEC.out.mono ?_
  rintro e w1 ⟨A4, n4, c4, rfl, hn4, hls4, hnc4, hb1⟩
  have hn5 : n = n4 := by rw [hn4, HLEN.out]
  subst hn5
  have HS4 := Lib.hid hls4
  have HL1 := Lib.hid (HL.out.below hb1)
  have HB1 := Lib.hid hb1
  have hq1 : q < w1.heap.size := HL1.out.lt
  have HF1 : Hid (FMid 53 w1 w1 q (.slice none 0 0) []) := ⟨Turn.refl _ _, Rs.nil _ _ _⟩
  clear hn4 hls4 hb1 HSEC HL
  go_wp2_with fail
  go_loopg [3, 5] n (fun k v u wr => ∃ (K : Nat) (last : Int) (rs : List (Int × List UInt8)), u = .int .i64 last ∧ K ≤ n ∧ k + K = n ∧ Hid (FMid 53 w1 wr q v rs) ∧ Hid (Run ls H E 0 H rs last (H + (K : Int))) ∧ Hid (IsLog wr q p ⟨⟨F, n, H, H + (K : Int)⟩, E, safe, broken⟩))
  case atStart => exact ⟨0, 0, [], rfl, Nat.zero_le _, rfl, HF1, ⟨rfl, by simp⟩, by simpa using HL1⟩
  case round =>
    obtain ⟨K, last, rs, rfl, hK, hgk, HF, HRUN, HLOG⟩ := hrel
    have hin := HRUN.out.in_ (Int.le_refl _) (by omega) hHb.2
    rw [HLEN.out] at hin
    obtain ⟨A', c', hv, _, _⟩ := HF.out.recs.form
    obtain ⟨m, hm⟩ : ∃ m, rs.length = m := ⟨_, rfl⟩
    rw [hm] at hv hin
    subst hv
    have HM := Lib.hid hm
    have hm4 : m ≤ n := by omega
    have hat0 : H + (K : Int) ≤ 1099511627776 := hin.2.2
    clear hm hin
    have HTL := Lib.hid (ltail_any HLOG.out)
    have HHD := Lib.hid (lhead_any HLOG.out)
    obtain ⟨at_, hat⟩ : ∃ at_, H + (K : Int) = at_ := ⟨_, rfl⟩
    have hwr : IntKind.i64.wrap (at_ - H) = (K : Int) := by rw [IntKind.wrap_i64]; omega
    have hb2 : 0 ≤ at_ ∧ at_ ≤ 1099511627776 ∧ H ≤ at_ := by omega
    have hKat : (at_ - H).toNat = K := by omega
    rw [hat] at HRUN HLOG
    have HTL2 : Hid (Calls Tryz.prog 32 #[ptr q] wr fun e w' => e = .returned (.int .i64 at_) ∧ w' = wr) := by have := HTL.out; simp only at this; rw [hat] at this; exact this
    have HHD2 : Hid (Calls Tryz.prog 27 #[ptr q] wr fun e w' => e = .returned (.int .i64 H) ∧ w' = wr) := HHD.out
    clear HTL HHD
    have HSW : Hid (LsN wr w.heap.size A4 ls) := HS4.out.turn HF.out.turn (fun k hk => by omega)
    have HFL : Hid ((from_ ls H at_).length = n - K) := by show _ = _; unfold from_; rw [List.length_drop, HLEN.out, hKat]
    have HFS : Hid (∀ x ∈ from_ ls H at_, x.length ≤ 1000000) := fun x hx => HSM.out x (List.mem_of_mem_drop hx)
    have HCI := Lib.hid (fun h => counts_in (ls := ls) (H := H) (ep := E) (last := last) (at_ := at_) h hb2.2.2 (by rw [HLEN.out]; omega))
    rw [HLEN.out] at HCI
    have HCN : Hid (counts ls H E last at_ = (decide (gatE (from_ ls H at_) at_ = 0) && (decide (last ≤ gatEp (from_ ls H at_) at_) && (decide (gatEp (from_ ls H at_) at_ < E) && decide (at_ + gatC (from_ ls H at_) at_ ≤ 1099511627776))))) := rfl
    have HGC : Hid (gatE (from_ ls H at_) at_ = 0 → 1 ≤ gatC (from_ ls H at_) at_ ∧ gatC (from_ ls H at_) at_ ≤ ((n - K : Nat) : Int) ∧ gatC (from_ ls H at_) at_ ≤ 1024 ∧ 0 ≤ gatEp (from_ ls H at_) at_ ∧ gatEp (from_ ls H at_) at_ ≤ 4294967295) := fun h => by
      obtain ⟨g1, g2, g3, _, _, g5, g6, _⟩ := gat_cnt h
      rw [HFL.out] at g2
      exact ⟨g1, g2, g3, by rw [g5]; exact g6.1, by rw [g5]; exact g6.2⟩
    have HSN := Lib.hid (fun h => HRUN.out.snoc h)
    have HEND := Lib.hid (fun hc => fnd_end (T := H) HF.out HM.out HB1.out HRUN.out hc HLOG.out (by omega))
    have HA4 : Hid (LsN wr w.heap.size (Option.map (fun x => x.add K) A4) (from_ ls H at_)) := by
      show LsN _ _ _ _
      unfold from_
      rw [hKat]
      exact HSW.out.drop K _ (fun b o e _ => by rw [e]; show some ((⟨b, o, none⟩ : Addr).add K) = _; rw [addr_add])
    have HGA := Lib.hid (fun (A2 : Option Addr) (c2 : Nat) (h : Ls wr A2 (from_ ls H at_)) => gather_any A2 c2 (n - K) (from_ ls H at_) HFL (by omega) HFS at_ (by omega) (by omega) wr h)
    have HNIL : Hid (n = K → from_ ls H at_ = []) := fun h => List.eq_nil_of_length_eq_zero (by rw [HFL.out]; omega)
    have c2 := HLOG.out.c2
    have c5 := HLOG.out.c5
    simp only at c2 c5
    by_cases hcK : c4 = K
    · have hnK : n = K := by omega
      subst hcK
      subst hnK
      have hg := HGA.out A4 0 (.inl (HNIL.out rfl))
      rw [HNIL.out rfl, Nat.sub_self] at hg
      rw [HNIL.out rfl] at HCN
      have hge : gatE [] at_ = 2 := rfl
      rw [hge] at hg HCN
      have HG := Lib.hid hg
      have HC0 : Hid (counts ls H E last at_ = false) := HCN.out
      have HE := Lib.hid (HEND.out HC0.out)
      clear hg hge HGA HNIL HCN HGC HSN HCI HFL HFS HA4 HSW HEND
      go_wp2_with fail
      refine HTL2.out.mono ?_
      rintro e w2 ⟨rfl, hw⟩
      replace hw := hw.symm
      subst hw
      go_wp2_with fail
      refine HHD2.out.mono ?_
      rintro e w2 ⟨rfl, hw⟩
      replace hw := hw.symm
      subst hw
      go_wp2_with fail
      refine HG.out.mono ?_
      rintro e w3 ⟨A3, n3, c3, rfl, ho3, hb3⟩
      have HE3 := Lib.hid (HE.out _ hb3)
      have hne : ((2 : Int) != 0) = true := rfl
      clear ho3 hb3 c2 c5
      go_wp2_with fail
      go_ret
      exact HE3.out
    · have HG := Lib.hid (HGA.out _ (c4 - K) HA4.out.ls)
      have hKc : K ≤ c4 := by omega
      have hatK : at_ + (0 : Nat) = H + (K : Int) := by omega
      generalize gatE (from_ ls H at_) at_ = gE at *
      generalize gatB (from_ ls H at_) at_ = gB at *
      generalize gatEp (from_ ls H at_) at_ = gP at *
      generalize gatC (from_ ls H at_) at_ = gC at *
      clear HNIL HGA HA4 HSW HFL HFS
      go_wp2_with fail
      refine HTL2.out.mono ?_
      rintro e w2 ⟨rfl, hw⟩
      replace hw := hw.symm
      subst hw
      go_wp2_with fail
      refine HHD2.out.mono ?_
      rintro e w2 ⟨rfl, hw⟩
      replace hw := hw.symm
      subst hw
      go_wp2_with fail
      refine HG.out.mono ?_
      rintro e w3 ⟨A3, n3, c3, rfl, ho3, hb3⟩
      have HO3 := Lib.hid ho3
      have HB3 := Lib.hid hb3
      clear ho3 hb3 c2 c5 HTL2 HHD2 HG
      have c5 : w3.cell? ⟨q, 5, none⟩ = some (.int .i64 E) := (HLOG.out.below HB3.out).c5
      by_cases hE0 : gE = 0
      case neg =>
        have HC0 : Hid (counts ls H E last at_ = false) := by show _ = _; rw [HCN.out, decide_eq_false hE0]; rfl
        have HE3 := Lib.hid (HEND.out HC0.out _ HB3.out)
        have hne : (gE != 0) = true := by rw [bne_iff_ne]; exact hE0
        clear HCN HGC HSN HEND HCI hE0
        go_wp2_with fail
        go_ret
        exact HE3.out
      have hne : (gE != 0) = false := by rw [hE0]; rfl
      obtain ⟨g1, g2, g3, g4, g5⟩ := HGC.out hE0
      obtain ⟨C, hC⟩ := Int.eq_ofNat_of_zero_le (by omega : 0 ≤ gC)
      subst hC
      by_cases h1 : gP < last
      · have HC0 : Hid (counts ls H E last at_ = false) := by show _ = _; rw [HCN.out, decide_eq_false (show ¬ last ≤ gP by omega), Bool.false_and, Bool.and_false]
        have HE3 := Lib.hid (HEND.out HC0.out _ HB3.out)
        have hd : decide (gP < last) = true := decide_eq_true h1
        clear HCN HGC HSN HEND HCI hE0 h1
        go_wp2_with fail
        go_ret
        exact HE3.out
      have hd1 : decide (gP < last) = false := decide_eq_false h1
      by_cases h2 : E ≤ gP
      · have HC0 : Hid (counts ls H E last at_ = false) := by show _ = _; rw [HCN.out, decide_eq_false (show ¬ gP < E by omega), Bool.false_and, Bool.and_false, Bool.and_false]
        have HE3 := Lib.hid (HEND.out HC0.out _ HB3.out)
        have hd : decide (gP ≥ E) = true := decide_eq_true h2
        have hd' : decide (E ≤ gP) = true := decide_eq_true h2
        clear HCN HGC HSN HEND HCI hE0 h1 h2
        go_wp2_with fail
        go_ret
        exact HE3.out
      have hd2 : decide (gP ≥ E) = false := decide_eq_false h2
      have hd2' : decide (E ≤ gP) = false := decide_eq_false h2
      have c0 : w3.cell? ⟨q, 0, none⟩ = some (.int .i64 F) := (HLOG.out.below HB3.out).c0
      have c1 : w3.cell? ⟨q, 1, none⟩ = some (.int .i64 (n : Int)) := (HLOG.out.below HB3.out).c1
      have c2 : w3.cell? ⟨q, 2, none⟩ = some (.int .i64 H) := (HLOG.out.below HB3.out).c2
      have c3 : w3.cell? ⟨q, 3, none⟩ = some (.int .i64 at_) := (HLOG.out.below HB3.out).c3
      have hsn : (Rg.mk F n H at_).sane = true := Rg.sane_iff.2 ⟨hFb.1, hFb.2, by show (1 : Int) ≤ n; omega, by show (n : Int) ≤ 4096; omega, hHb.1, hb2.2.2, hb2.2.1, by show at_ - H ≤ n; omega⟩
      have htk := take_any ⟨F, n, H, at_⟩ (C : Int) (by omega)
      have hte : (Rg.mk F n H at_).takeE (C : Int) = if 1099511627776 < at_ + (C : Int) then 5 else 0 := by
        unfold Rg.takeE
        rw [hsn, decide_eq_true (show 0 ≤ (C : Int) by omega)]
        show (if n - (at_ - H) < (C : Int) ∨ 1099511627776 < at_ + (C : Int) then (5 : Int) else 0) = _
        by_cases hh : 1099511627776 < at_ + (C : Int)
        · rw [if_pos (.inr hh), if_pos hh]
        · rw [if_neg (by omega), if_neg hh]
      have hta : (Rg.mk F n H at_).take (C : Int) = if (Rg.mk F n H at_).takeE (C : Int) = 0 then ⟨F, n, H, at_ + (C : Int)⟩ else Rg.zero := rfl
      rw [hte] at hta htk
      rw [hta] at htk
      clear hsn hte hta
      by_cases h3 : 1099511627776 < at_ + (C : Int)
      · rw [if_pos h3, if_neg (by decide)] at htk
        have HC0 : Hid (counts ls H E last at_ = false) := by show _ = _; rw [HCN.out, decide_eq_false (show ¬ at_ + (C : Int) ≤ 1099511627776 by omega), Bool.and_false, Bool.and_false, Bool.and_false]
        have HTK := Lib.hid htk
        clear htk HCN HGC HSN HCI hE0 h1 h2 h3
        go_wp2_with fail
        refine (HTK.out _).mono ?_
        rintro e w4 ⟨rfl, hb4⟩
        have HE4 := Lib.hid (HEND.out HC0.out _ (below_two (below_two HB3.out hb4) (below_new _ (.cells (rgC Rg.zero) 74))))
        clear hb4 c0 c1 c2 c3 c5
        go_wp2_with fail
        go_ret
        exact HE4.out
      · rw [if_neg h3, if_pos rfl] at htk
        have hcnt : counts ls H E last at_ = true := by rw [HCN.out, decide_eq_true hE0, decide_eq_true (show last ≤ gP by omega), decide_eq_true (show gP < E by omega), decide_eq_true (show at_ + (C : Int) ≤ 1099511627776 by omega)]; rfl
        have hci := (HCI.out hcnt)
        have HRN := Lib.hid (HSN.out hcnt)
        have HTK := Lib.hid htk
        obtain ⟨hi', hz0, hz1, hz2⟩ := HI.out
        clear htk HCN HGC HSN HCI hE0 h1 h2 HEND hcnt
        go_wp2_with fail
        refine (HTK.out _).mono ?_
        rintro e w4 ⟨rfl, hb4⟩
        have HB4 := Lib.hid (below_two HB3.out hb4)
        have HL3 := Lib.hid ((HO3.out.lies).up hb4)
        clear hb4 c0 c1 c2 c3 c5
        go_upto_region 11 with fail
        have HX : Hid (Bx (w4.alloc (.cells #[.int .i64 F, .int .i64 (n : Int), .int .i64 H, .int .i64 (at_ + (C : Int))] 74)) w4.heap.size ⟨F, n, H, at_ + (C : Int)⟩ 74) := Bx.new w4 ⟨F, n, H, at_ + (C : Int)⟩ 74
        have HBB : Hid (Below w4.heap.size w4 (w4.alloc (.cells #[.int .i64 F, .int .i64 (n : Int), .int .i64 H, .int .i64 (at_ + (C : Int))] 74))) := below_new w4 _
        have HB5 : Hid (Below wr.heap.size wr (w4.alloc (.cells #[.int .i64 F, .int .i64 (n : Int), .int .i64 H, .int .i64 (at_ + (C : Int))] 74))) := below_two HB4.out HBB.out
        have HL5 : Hid (Lies (w4.alloc (.cells #[.int .i64 F, .int .i64 (n : Int), .int .i64 H, .int .i64 (at_ + (C : Int))] 74)) A3 c3 n3 gB) := HL3.out.up HBB.out
        clear HBB
        generalize hw5 : w4.alloc (.cells #[.int .i64 F, .int .i64 (n : Int), .int .i64 H, .int .i64 (at_ + (C : Int))] 74) = w5 at HX HB5 HL5 ⊢
        clear hw5
        have HLG5 := Lib.hid (HLOG.out.below HB5.out)
        have HF5 := Lib.hid (HF.out.below HB5.out)
        have HU5 : Hid (Up wr.heap.size A3 gB) := .inr fun a ha => (HO3.out.block a ha).1
        have HFA5 : Hid (Far A3 gB (Value.slice A' m c').ownBlock) := .inr fun a ha e => by
          have h1 := (HO3.out.block a ha).1
          have h2 := (HF.out.recs.lt _ e.symm).2
          omega
        have x0 := HX.out.c0
        have x1 := HX.out.c1
        have x2 := HX.out.c2
        have x3 := HX.out.c3
        have c0 := HLG5.out.c0
        have c1 := HLG5.out.c1
        have c2 := HLG5.out.c2
        have c3 := HLG5.out.c3
        have f0 := HLG5.out.fr 0
        have f1 := HLG5.out.fr 1
        have f2 := HLG5.out.fr 2
        have f3 := HLG5.out.fr 3
        try simp only at x0 x1 x2 x3 c0 c1 c2 c3
        have hqr : q < wr.heap.size := HLOG.out.lt
        go_upto_region 12 with fail
        have HLG6 := Lib.hid (HLG5.out.ring ⟨F, n, H, at_ + (C : Int)⟩)
        have HF6 := Lib.hid ((((HF5.out.setq hq1 0 (.int .i64 F)).setq hq1 1 (.int .i64 (n : Int))).setq hq1 2 (.int .i64 H)).setq hq1 3 (.int .i64 (at_ + (C : Int))))
        have HL6 := Lib.hid (HL5.out.turn HU5.out (((((Turn.refl (· = q) w5).setCell ⟨q, 0, none⟩ (.int .i64 F) (.inl rfl)).setCell ⟨q, 1, none⟩ (.int .i64 (n : Int)) (.inl rfl)).setCell ⟨q, 2, none⟩ (.int .i64 H) (.inl rfl)).setCell ⟨q, 3, none⟩ (.int .i64 (at_ + (C : Int))) (.inl rfl)) (fun k hk => by omega))
        have hsz : wr.heap.size ≤ w5.heap.size := HB5.out.size
        have hs6 : Hid (w5.heap.size = ((((w5.setCell ⟨q, 0, none⟩ (.int .i64 F)).setCell ⟨q, 1, none⟩ (.int .i64 (n : Int))).setCell ⟨q, 2, none⟩ (.int .i64 H)).setCell ⟨q, 3, none⟩ (.int .i64 (at_ + (C : Int)))).heap.size) := Lib.hid (by simp [World.setCell])
        replace HLG6 : Hid (IsLog ((((w5.setCell ⟨q, 0, none⟩ (.int .i64 F)).setCell ⟨q, 1, none⟩ (.int .i64 (n : Int))).setCell ⟨q, 2, none⟩ (.int .i64 H)).setCell ⟨q, 3, none⟩ (.int .i64 (at_ + (C : Int)))) q p ⟨⟨F, n, H, at_ + (C : Int)⟩, E, safe, broken⟩) := HLG6
        generalize hw6 : (((w5.setCell ⟨q, 0, none⟩ (.int .i64 F)).setCell ⟨q, 1, none⟩ (.int .i64 (n : Int))).setCell ⟨q, 2, none⟩ (.int .i64 H)).setCell ⟨q, 3, none⟩ (.int .i64 (at_ + (C : Int))) = w6 at HLG6 HF6 HL6 hs6 ⊢
        clear hw6 x0 x1 x2 x3 c0 c1 c2 c3 f0 f1 f2 f3
        have hw1r : w1.heap.size ≤ wr.heap.size := HF.out.turn.size
        have HBN := Lib.hid (below_new w6 (.cells #[.int .i64 at_, .slice A3 n3 c3] 53))
        have HR6 := Lib.hid ((HF6.out.below HBN.out).recs)
        have HLN := Lib.hid (HL6.out.up HBN.out)
        have HUN : Hid (Up w1.heap.size A3 gB) := Lib.hid (HU5.out.le hw1r)
        have hb6 : w1.heap.size ≤ w6.heap.size := by rw [← hs6.out]; omega
        go_wp2_with (at_builtin; refine wpList_append_rec rfl (.tmp 62) (.tmp 66) _ rfl w1.heap.size i0 Tryz.underlying35 hi' hz0 hz1 hz2 (.slice A' m c') rs rfl HR6.out m HM.out w6.heap.size at_ A3 n3 c3 gB rfl (two_cells _ _ _ _ _ rfl) HLN.out HFA5.out HUN.out (by omega) (by simp; omega) ?_; intro v7 w7 hr7 hg7)
        have HF7 := Lib.hid ((HF6.out.below HBN.out).push hr7 hg7)
        have HL7 : Hid (IsLog w7 q p ⟨⟨F, n, H, at_ + (C : Int)⟩, E, safe, broken⟩) := by
          have h1 := HLG6.out.below HBN.out
          refine (hg7.block q h1.lt (fun e => ?_)).trans h1
          have := (HR6.out.lt q e.symm).1
          omega
        clear hr7 hg7
        go_roundg (gk - C)
        case measure => omega
        case rel => exact ⟨K + C, gP, rs ++ [(at_, gB)], rfl, by omega, by omega, HF7, by have := HRN.out; rw [show H + ((K + C : Nat) : Int) = at_ + (C : Int) by omega]; exact this, by rw [show H + ((K + C : Nat) : Int) = at_ + (C : Int) by omega]; exact HL7⟩

end Go.Proofs.YtdjfahnnfhediaaGreat
