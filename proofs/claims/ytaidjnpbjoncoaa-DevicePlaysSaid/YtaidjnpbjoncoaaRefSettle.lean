/-
  The document's device: what is kept is laid down, the rest is lost.
-/
import Derived.Test.YtaidjnpbjoncoaaRefWriteD
namespace Go.Proofs.Ytaidjnpbjoncoaa
open Go.RowKit

namespace Dv
/-- what is kept is laid down, the rest is lost -/
def drop (D : Dv) (keep : Nat → Bool) : Dv := { D with laid := lay D.late D.laid keep D.keys D.keys.length, late := fun _ => none }
theorem Ok.drop {D : Dv} (h : D.Ok) (keep : Nat → Bool) : (D.drop keep).Ok :=
  ⟨h.pos, h.top, lay_len keep D.keys h.laid h.late _ (fun _ hj => (keys_lt hj).2), (fun _ _ h => by cases h), (fun _ _ h => by cases h), h.left, h.left'⟩
theorem getD_take {l : List Nat} (hn : l.Nodup) {m : Nat} (h : m < l.length) : l.getD m 0 ∉ l.take m := by
  rw [List.getD_eq_getElem?_getD, List.getElem?_eq_getElem h]
  intro hm
  obtain ⟨j, hj, e⟩ := List.getElem_of_mem hm
  rw [List.length_take] at hj
  rw [List.getElem_take] at e
  have := (List.getElem_inj hn).1 e
  omega
end Dv

/-- 'all' or the i-th is kept -/
def kpAll (all : Bool) (n : Nat) (f : Nat → Bool) (m : Nat) : Bool := all || kp n f m

/-- behind m rounds -/
structure RMid (w1 wr : World) (a b n : Nat) (D : Dv) (keep : Nat → Bool) (m : Nat) : Prop where
  laid : StrRow wr a n (Dv.lay D.late D.laid keep D.keys m)
  late : StrRow wr b n fun i => if i ∈ D.keys.take m then [] else (D.late i).getD []
  turn : Turn (fun k => k = a ∨ k = b) w1 wr

section
variable {w1 wr : World} {a b n i m : Nat} {D : Dv} {keep : Nat → Bool} {s : List UInt8}
theorem take_next {j : Nat} (hm : m < D.keys.length) (hi : D.keys.getD m 0 = i) : j ∈ D.keys.take (m + 1) ↔ (j ∈ D.keys.take m ∨ j = i) := by
  have e : D.keys[m] = i := by rw [← hi, List.getD_eq_getElem?_getD, List.getElem?_eq_getElem hm]; rfl
  rw [List.take_add_one, List.getElem?_eq_getElem hm, List.mem_append]
  simp [e]
theorem RMid.at_ (h : RMid w1 wr a b n D keep m) (hm : m < D.keys.length) (hi : D.keys.getD m 0 = i) (hn : i < n) (hs : D.late i = some s) : wr.cell? ⟨b, i, none⟩ = some (.string ⟨s.toArray⟩) := by
  have := h.late.cell hn
  rw [if_neg (by rw [← hi]; exact Dv.getD_take D.keys_nodup hm), hs] at this
  exact this
theorem RMid.lost (h : RMid w1 wr a b n D keep m) (hab : a ≠ b) (hm : m < D.keys.length) (hi : D.keys.getD m 0 = i) (hk : keep m = false) : RMid w1 (wr.drew.setCell ⟨b, i, none⟩ (.string ⟨#[]⟩)) a b n D keep (m + 1) := by
  refine ⟨?_, ?_, h.turn.drew.setCell _ _ (.inl (.inr rfl))⟩
  · refine (StrRow.same h.laid (w' := wr.drew.setCell ⟨b, i, none⟩ (.string ⟨#[]⟩)) (heap_setCell_other _ _ _ _ hab)).eq fun j _ => ?_
    rw [Dv.lay_succ, hk, if_neg Bool.false_ne_true]
  · refine StrRow.set (w := wr.drew) (h.late.same rfl) i [] fun j _ => ?_
    by_cases e : j = i
    · rw [if_pos ((take_next hm hi).2 (.inr e)), if_pos e]
    · rw [if_neg e]
      by_cases e2 : j ∈ D.keys.take m
      · rw [if_pos ((take_next hm hi).2 (.inl e2)), if_pos e2]
      · rw [if_neg (fun h3 => by rcases (take_next hm hi).1 h3 with h4 | h4; exact e2 h4; exact e h4), if_neg e2]
theorem RMid.down (h : RMid w1 wr a b n D keep m) (hab : a ≠ b) (hm : m < D.keys.length) (hi : D.keys.getD m 0 = i) (hk : keep m = true) (hs : D.late i = some s) {wx : World} (hx : wx.heap = (wr.drew.setCell ⟨a, i, none⟩ (.string ⟨s.toArray⟩)).heap)
    (hT : Turn (fun k => k = a ∨ k = b) wr wx) : RMid w1 (wx.drew.setCell ⟨b, i, none⟩ (.string ⟨#[]⟩)) a b n D keep (m + 1) := by
  have hxb : wx.drew.heap[b]? = wr.heap[b]? := by
    show wx.heap[b]? = _
    rw [hx, heap_setCell_other _ _ _ _ (Ne.symm hab)]
    rfl
  refine ⟨?_, ?_, (h.turn.trans hT).drew.setCell _ _ (.inl (.inr rfl))⟩
  · have h1 : StrRow (wr.drew.setCell ⟨a, i, none⟩ (strV s)) a n (Dv.lay D.late D.laid keep D.keys (m + 1)) := StrRow.set (w := wr.drew) (h.laid.same rfl) i s fun j _ => by
      rw [Dv.lay_succ, hk, if_pos rfl, hi]
      by_cases e : j = i
      · subst e
        rw [if_pos rfl, if_pos rfl, hs]; rfl
      · rw [if_neg e, if_neg e]
    refine h1.same ?_
    rw [heap_setCell_other _ _ _ _ hab]
    show wx.heap[a]? = _
    rw [hx]
    rfl
  · refine StrRow.set (w := wx.drew) (h.late.same hxb) i [] fun j _ => ?_
    by_cases e : j = i
    · rw [if_pos ((take_next hm hi).2 (.inr e)), if_pos e]
    · rw [if_neg e]
      by_cases e2 : j ∈ D.keys.take m
      · rw [if_pos ((take_next hm hi).2 (.inl e2)), if_pos e2]
      · rw [if_neg (fun h3 => by rcases (take_next hm hi).1 h3 with h4 | h4; exact e2 h4; exact e h4), if_neg e2]
end

theorem RMid.done {w wr : World} {q a b c : Nat} {D : Dv} {keep : Nat → Bool} (h : IsRef w q a b c D) (hm : RMid w wr a b D.n D keep D.keys.length) : IsRef wr q a b c (D.drop keep) := by
  refine ⟨h.ok.drop keep, h.ne, (hm.turn.block q h.lt.1 (fun e => by rcases e with e | e; exact h.ne.1 e; exact h.ne.2.1 e)).trans h.own, hm.laid, hm.late.eq fun j hj => ?_⟩
  rw [List.take_length]
  cases hs : D.late j with
  | none => rw [if_neg (fun h3 => by have := (Dv.mem_keys.1 h3).2; rw [hs] at this; cases this)]; rfl
  | some s => rw [if_pos (Dv.mem_keys.2 ⟨hj, by rw [hs]; rfl⟩)]; rfl

set_option maxRecDepth 100000 in
set_option maxHeartbeats 4000000 in
theorem settle_any {w : World} {q a b c : Nat} {D : Dv} (h : IsRef w q a b c D) {A : Option Addr} {kn : Nat} (cc : Nat) {f : Nat → Bool} (all : Bool) (hk : Bools (DS q a b) w A kn f) :
    Calls Try.prog 32 #[ptr q, .slice A kn cc, .bool all] w fun e w' => e = .returned (.tuple #[]) ∧ IsRef w' q a b c (D.drop (kpAll all kn f)) ∧ Turn (DS q a b) w w' := by
  have hca := refcached_any h
  have H := Lib.hid h
  have HK := Lib.hid hk
  clear h hk
  go_enter Try.func32, Try.ntmps32
  go_wp2_with (go_at_call 27; refine hca.mono ?_; rintro e w1 ⟨B, N, cap, rfl, hN, hrow, hb1⟩; have HROW := Lib.hid hrow; have HB1 := Lib.hid hb1; have HN := Lib.hid hN; clear hN hrow hb1)
  have hT1 : Turn (fun _ => False) w w1 := Turn.ofBelow HB1.out
  have hd1 := H.out.turn hT1 (fun h => h) (fun h => h) (fun h => h)
  have HT1 := Lib.hid hT1
  have HD1 := Lib.hid hd1
  have HK1 := Lib.hid (HK.out.turn (hT1.mono fun _ h => h.elim))
  have hne := hd1.ne
  have HNE := Lib.hid hne
  have c0 := Lib.hid hd1.c0
  have c1 := Lib.hid hd1.c1
  have hN4 : N ≤ 4096 := by have h1 := Dv.keys_length D; have h2 := H.out.ok.top; have h3 := HN.out; omega
  clear hca hT1 hd1 hne
  go_wp2_with fail
  go_loopw [7] (fun v wr => ∃ m : Nat, v = .int .i64 (m : Int) ∧ m ≤ N ∧ Hid (RMid w1 wr a b D.n D (kpAll all kn f) m)) (fun v _ => N - (intOf v).toNat)
  case atStart => exact ⟨0, rfl, Nat.zero_le _, Lib.hid ⟨HD1.out.laid, HD1.out.late.eq fun j _ => by simp, Turn.refl _ _⟩⟩
  case round =>
    obtain ⟨m, rfl, hm, HM⟩ := hrel
    by_cases hlt : m < N
    · have hdm : decide (m < N) = true := decide_eq_true hlt
      obtain ⟨g, rfl, hgb, hgl, hcell⟩ := ints_cells HROW.out (by omega)
      have hml : m < D.keys.length := by rw [← HN.out]; exact hlt
      obtain ⟨hin, his⟩ := Dv.keys_lt hml
      have hci := hcell m hml
      obtain ⟨s, hs⟩ := Option.isSome_iff_exists.1 his
      obtain ⟨i, hi⟩ : ∃ i, D.keys.getD m 0 = i := ⟨_, rfl⟩
      have HI := Lib.hid hi
      have HML := Lib.hid hml
      rw [hi] at hin hci hs
      have hga : g ≠ a := fun e => by have h1 := H.out.lt.2.1; omega
      have hgb' : g ≠ b := fun e => by have h1 := H.out.lt.2.2; omega
      have HS0 := Lib.hid hs
      have hTw : ∀ V, Turn (fun k => k = a ∨ k = b) wr V → V.cell? ⟨g, m, none⟩ = some (.int .i64 (i : Int)) := fun V hV => (HM.out.turn.trans hV).cell hci (fun e => by rcases e with e | e; exact hga e; exact hgb' e)
      have hC0 : ∀ V, Turn (fun k => k = a ∨ k = b) wr V → V.cell? ⟨q, 0, none⟩ = some (.slice (some ⟨a, 0, none⟩) D.n c) := fun V hV => (HM.out.turn.trans hV).cell c0.out (fun e => by rcases e with e | e; exact HNE.out.1 e; exact HNE.out.2.1 e)
      have hC1 : ∀ V, Turn (fun k => k = a ∨ k = b) wr V → V.cell? ⟨q, 1, none⟩ = some (.slice (some ⟨b, 0, none⟩) D.n D.n) := fun V hV => (HM.out.turn.trans hV).cell c1.out (fun e => by rcases e with e | e; exact HNE.out.1 e; exact HNE.out.2.1 e)
      have hLb := HM.out.at_ hml hi hin hs
      have hAa : wr.cell? ⟨a, i, none⟩ = some _ := HM.out.laid.cell hin
      have hFa := HM.out.laid.fr i
      have hFb := HM.out.late.fr i
      have HTW := Lib.hid hTw
      have HC0 := Lib.hid hC0
      have HC1 := Lib.hid hC1
      have HLB := Lib.hid hLb
      have HAA := Lib.hid hAa
      have HFR := Lib.hid (show _ ∧ _ from ⟨hFa, hFb⟩)
      have hbd : (i : Int) < 9223372036854775808 := by have := HD1.out.ok.top; omega
      have hmm : m + 1 ≤ N := hlt
      have hcase : (kpAll all kn f m = true ∧ (all = true ∨ (all = false ∧ m < kn ∧ ∃ b' o, A = some ⟨b', o, none⟩ ∧ wr.cell? ⟨b', o + m, none⟩ = some (.bool true)))) ∨
          (kpAll all kn f m = false ∧ all = false ∧ (decide (m < kn) = false ∨ (m < kn ∧ ∃ b' o, A = some ⟨b', o, none⟩ ∧ wr.cell? ⟨b', o + m, none⟩ = some (.bool false)))) := by
        unfold kpAll kp
        cases all
        · by_cases h1 : m < kn
          · rcases HK1.out with h0 | ⟨b', o, e, hbc⟩
            · omega
            have hbj := hbc m h1 wr (HM.out.turn.mono fun k e => by rcases e with e | e; exact .inr (.inl e); exact .inr (.inr e))
            rw [decide_eq_true h1]
            cases hf : f m
            · rw [hf] at hbj
              exact .inr ⟨rfl, rfl, .inr ⟨h1, b', o, e, hbj⟩⟩
            · rw [hf] at hbj
              exact .inl ⟨rfl, .inr ⟨rfl, h1, b', o, e, hbj⟩⟩
          · rw [decide_eq_false h1]
            exact .inr ⟨rfl, rfl, .inl rfl⟩
        · exact .inl ⟨rfl, .inl rfl⟩
      have hci2 := HTW.out wr (Turn.refl _ _)
      clear hcell his hci hi hs hTw hC0 hC1 hLb hAa hFa hFb HK1 HK hga hgb'
      rcases hcase with ⟨hkm, hway⟩ | ⟨hkm, hall, hway⟩
      · have HKM := Lib.hid hkm
        clear hkm
        rcases hway with rfl | ⟨rfl, hdk, b', o', rfl, hkc⟩
        all_goals
          go_wp2_with fail
        iterate 2
          · skip
            have e0 : ∀ V, Turn (· = a) wr V → V.cell? ⟨q, 0, none⟩ = some (.slice (some ⟨a, 0, none⟩) D.n c) := fun V hV => HC0.out V (hV.mono fun _ e => .inl e)
            have e1 : ∀ V, Turn (· = a) wr V → V.cell? ⟨q, 1, none⟩ = some (.slice (some ⟨b, 0, none⟩) D.n D.n) := fun V hV => HC1.out V (hV.mono fun _ e => .inl e)
            have e2 : ∀ V, Turn (· = a) wr V → V.cell? ⟨g, m, none⟩ = some (.int .i64 (i : Int)) := fun V hV => HTW.out V (hV.mono fun _ e => .inl e)
            have e3 : ∀ V, Turn (· = a) wr V → V.cell? ⟨b, i, none⟩ = some (.string ⟨s.toArray⟩) := fun V hV => hV.cell HLB.out (Ne.symm HNE.out.2.2)
            have e4 := HAA.out
            have e5 := HFR.out.1
            refine wp_region_turn (X := (· = a)) (by kernel_rfl) ?_
            have hS : Turn (· = a) wr (World.drew wr) := (Turn.refl _ _).drew
            refine wpAnyH_take (i := 0) (oi := ⟨some 29, _, _, _, _, _⟩) (v := ?_) rfl (by kernel_rfl) (by kernel_rfl) (by kernel_rfl) (fun _ _ _ h => h) (Or.inl ⟨by rfl, ?_⟩) hS ?_
            rotate_left
            · intro W hW; go_simp; with_reducible rfl
            try simp only [Act.put, List.setIfInBounds_toArray, List.set_cons_zero, List.set_cons_succ]
            refine wpAnyH_take (i := 1) (oi := ⟨some 30, _, _, _, _, _⟩) (v := ?_) rfl (by kernel_rfl) (by kernel_rfl) (by kernel_rfl) (fun _ _ _ h => h) (Or.inl ⟨by rfl, ?_⟩) hS ?_
            rotate_left
            · intro W hW; go_simp; with_reducible rfl
            try simp only [Act.put, List.setIfInBounds_toArray, List.set_cons_zero, List.set_cons_succ]
            refine wpAnyH_take (i := 2) (oi := ⟨some 31, _, _, _, _, _⟩) (v := ?_) rfl (by kernel_rfl) (by kernel_rfl) (by kernel_rfl) (fun _ _ _ h => h) (Or.inl ⟨by rfl, ?_⟩) hS ?_
            rotate_left
            · intro W hW; go_simp; with_reducible rfl
            try simp only [Act.put, List.setIfInBounds_toArray, List.set_cons_zero, List.set_cons_succ]
            refine wpAnyH_take (i := 3) (oi := ⟨some 32, _, _, _, _, _⟩) (v := ?_) rfl (by kernel_rfl) (by kernel_rfl) (by kernel_rfl) (fun _ _ _ h => h) (Or.inl ⟨by rfl, ?_⟩) hS ?_
            rotate_left
            · intro W hW; go_simp; with_reducible rfl
            try simp only [Act.put, List.setIfInBounds_toArray, List.set_cons_zero, List.set_cons_succ]
            refine wpAnyH_take (i := 4) (oi := ⟨some 33, _, _, _, _, _⟩) (v := ?_) rfl (by kernel_rfl) (by kernel_rfl) (by kernel_rfl) (fun _ _ _ h => h) (Or.inl ⟨by rfl, ?_⟩) hS ?_
            rotate_left
            · intro W hW; go_simp; with_reducible rfl
            try simp only [Act.put, List.setIfInBounds_toArray, List.set_cons_zero, List.set_cons_succ]
            refine wpAnyH_take (i := 5) (oi := ⟨some 34, _, _, _, _, _⟩) (v := ?_) rfl (by kernel_rfl) (by kernel_rfl) (by kernel_rfl) (fun _ _ _ h => h) (Or.inl ⟨by rfl, ?_⟩) hS ?_
            rotate_left
            · intro W hW; go_simp; with_reducible rfl
            try simp only [Act.put, List.setIfInBounds_toArray, List.set_cons_zero, List.set_cons_succ]
            refine wpAnyH_take (i := 6) (oi := ⟨some 35, _, _, _, _, _⟩) (v := ?_) rfl (by kernel_rfl) (by kernel_rfl) (by kernel_rfl) (fun _ _ _ h => h) (Or.inl ⟨by rfl, ?_⟩) hS ?_
            rotate_left
            · intro W hW; go_simp; with_reducible rfl
            try simp only [Act.put, List.setIfInBounds_toArray, List.set_cons_zero, List.set_cons_succ]
            refine wpAnyH_take (i := 7) (oi := ⟨some 36, _, _, _, _, _⟩) (v := ?_) rfl (by kernel_rfl) (by kernel_rfl) (by kernel_rfl) (fun _ _ _ h => h) (Or.inl ⟨by rfl, ?_⟩) hS ?_
            rotate_left
            · intro W hW; go_simp; with_reducible rfl
            try simp only [Act.put, List.setIfInBounds_toArray, List.set_cons_zero, List.set_cons_succ]
            refine wpAnyH_take (i := 8) (oi := ⟨some 37, _, _, _, _, _⟩) (v := ?_) rfl (by kernel_rfl) (by kernel_rfl) (by kernel_rfl) (fun _ _ _ h => h) (Or.inl ⟨by rfl, ?_⟩) hS ?_
            rotate_left
            · intro W hW; go_simp; with_reducible rfl
            try simp only [Act.put, List.setIfInBounds_toArray, List.set_cons_zero, List.set_cons_succ]
            refine wpAnyH_take (i := 9) (oi := ⟨some 38, _, _, _, _, _⟩) (v := ?_) rfl (by kernel_rfl) (by kernel_rfl) (by kernel_rfl) (fun _ _ _ h => h) (Or.inl ⟨by rfl, ?_⟩) hS ?_
            rotate_left
            · intro W hW; go_simp; with_reducible rfl
            try simp only [Act.put, List.setIfInBounds_toArray, List.set_cons_zero, List.set_cons_succ]
            refine wpAnyH_take (i := 10) (oi := ⟨some 39, _, _, _, _, _⟩) (v := ?_) rfl (by kernel_rfl) (by kernel_rfl) (by kernel_rfl) (fun _ _ _ h => h) (Or.inl ⟨by rfl, ?_⟩) hS ?_
            rotate_left
            · intro W hW; go_simp; with_reducible rfl
            try simp only [Act.put, List.setIfInBounds_toArray, List.set_cons_zero, List.set_cons_succ]
            refine wpAnyH_take (i := 11) (oi := ⟨some 40, _, _, _, _, _⟩) (v := ?_) rfl (by kernel_rfl) (by kernel_rfl) (by kernel_rfl) (fun _ _ _ h => h) (Or.inl ⟨by rfl, ?_⟩) hS ?_
            rotate_left
            · intro W hW; go_simp; with_reducible rfl
            try simp only [Act.put, List.setIfInBounds_toArray, List.set_cons_zero, List.set_cons_succ]
            refine wpAnyH_take (i := 12) (oi := ⟨some 41, _, _, _, _, _⟩) (v := ?_) rfl (by kernel_rfl) (by kernel_rfl) (by kernel_rfl) (fun _ _ _ h => h) (Or.inl ⟨by rfl, ?_⟩) hS ?_
            rotate_left
            · intro W hW; go_simp; with_reducible rfl
            try simp only [Act.put, List.setIfInBounds_toArray, List.set_cons_zero, List.set_cons_succ]
            refine wpAnyH_take (i := 13) (oi := ⟨some 42, _, _, _, _, _⟩) (v := ?_) rfl (by kernel_rfl) (by kernel_rfl) (by kernel_rfl) (fun _ _ _ h => h) (Or.inl ⟨by rfl, ?_⟩) hS ?_
            rotate_left
            · intro W hW; go_simp; with_reducible rfl
            try simp only [Act.put, List.setIfInBounds_toArray, List.set_cons_zero, List.set_cons_succ]
            refine wpAnyH_take (i := 14) (oi := ⟨some 43, _, _, _, _, _⟩) (v := ?_) rfl (by kernel_rfl) (by kernel_rfl) (by kernel_rfl) (fun _ _ _ h => h) (Or.inl ⟨by rfl, ?_⟩) hS ?_
            rotate_left
            · intro W hW; go_simp; with_reducible rfl
            try simp only [Act.put, List.setIfInBounds_toArray, List.set_cons_zero, List.set_cons_succ]
            refine wpAnyH_take (i := 15) (oi := ⟨some 44, _, _, _, _, _⟩) (v := ?_) rfl (by kernel_rfl) (by kernel_rfl) (by kernel_rfl) (fun _ _ _ h => h) (Or.inl ⟨by rfl, ?_⟩) hS ?_
            rotate_left
            · intro W hW; go_simp; with_reducible rfl
            try simp only [Act.put, List.setIfInBounds_toArray, List.set_cons_zero, List.set_cons_succ]
            refine wpAnyH_take (i := 16) (oi := ⟨some 45, _, _, _, _, _⟩) (v := ?_) rfl (by kernel_rfl) (by kernel_rfl) (by kernel_rfl) (fun _ _ _ h => h) (Or.inl ⟨by rfl, ?_⟩) hS ?_
            rotate_left
            · intro W hW; go_simp; with_reducible rfl
            try simp only [Act.put, List.setIfInBounds_toArray, List.set_cons_zero, List.set_cons_succ]
            refine wpAnyH_take (i := 17) (oi := ⟨some 46, _, _, _, _, _⟩) (v := ?_) rfl (by kernel_rfl) (by kernel_rfl) (by kernel_rfl) (fun _ _ _ h => h) (Or.inl ⟨by rfl, ?_⟩) hS ?_
            rotate_left
            · intro W hW; go_simp; with_reducible rfl
            try simp only [Act.put, List.setIfInBounds_toArray, List.set_cons_zero, List.set_cons_succ]
            refine wpAnyH_take (i := 18) (oi := ⟨some 47, _, _, _, _, _⟩) (v := ?_) rfl (by kernel_rfl) (by kernel_rfl) (by kernel_rfl) (fun _ _ _ h => h) (Or.inl ⟨by rfl, ?_⟩) hS ?_
            rotate_left
            · intro W hW; go_simp; with_reducible rfl
            try simp only [Act.put, List.setIfInBounds_toArray, List.set_cons_zero, List.set_cons_succ]
            -- operation 19: a step
            refine wpAnyH_ready (rs := [19]) (by kernel_rfl) (by simp) ?_
            refine AllReadyH.cons (o := ⟨none, _, _, _, _, _⟩) rfl (fun Kr hKr => ?_) AllReadyH.nil
            go_simp
            show Kr _ _
            refine hKr.out _ _ ?_ (fun _ => ?_)
            · exact Turn.trans hS ((Turn.refl (· = a) wr.drew).setCell ⟨a, i, none⟩ (.string ⟨s.toArray⟩) (.inl rfl))
            clear hKr Kr
            refine wpAnyH_turn (Turn.trans hS ((Turn.refl (· = a) wr.drew).setCell ⟨a, i, none⟩ (.string ⟨s.toArray⟩) (.inl rfl))) ?_
            clear hS
            have hS : Turn (· = a) (wr.drew.setCell ⟨a, i, none⟩ (.string ⟨s.toArray⟩)) (wr.drew.setCell ⟨a, i, none⟩ (.string ⟨s.toArray⟩)) := Turn.refl _ _
            try simp only [Act.put]
            refine wpAnyH_done (by kernel_rfl) ?_ _
            have hTx : Turn (fun k => k = a ∨ k = b) wr (wr.setCell ⟨a, i, none⟩ (.string ⟨s.toArray⟩)).drew := ((Turn.refl (fun k => k = a ∨ k = b) wr).setCell ⟨a, i, none⟩ _ (.inl (.inl rfl))).drew
            have hNX := Lib.hid (HM.out.down HNE.out.2.2 HML.out HI.out HKM.out HS0.out (wx := (wr.setCell ⟨a, i, none⟩ (.string ⟨s.toArray⟩)).drew) rfl hTx)
            have hb0 : (wr.setCell ⟨a, i, none⟩ (.string ⟨s.toArray⟩)).drew.heap[b]? = wr.heap[b]? := heap_setCell_other _ _ _ _ (Ne.symm HNE.out.2.2)
            clear e0 e1 e2 e3 e4 e5
            generalize (wr.setCell ⟨a, i, none⟩ (.string ⟨s.toArray⟩)).drew = wx at *
            have e1 : ∀ V, Turn (· = b) wx V → V.cell? ⟨q, 1, none⟩ = some (.slice (some ⟨b, 0, none⟩) D.n D.n) := fun V hV => HC1.out V (hTx.trans (hV.mono fun _ e => .inr e))
            have e2 : ∀ V, Turn (· = b) wx V → V.cell? ⟨g, m, none⟩ = some (.int .i64 (i : Int)) := fun V hV => HTW.out V (hTx.trans (hV.mono fun _ e => .inr e))
            have e3 : wx.cell? ⟨b, i, none⟩ = some (.string ⟨s.toArray⟩) := (World.cell?_of_block (w := wr) hb0).trans HLB.out
            have e5 : wx.frozen? ⟨b, i, none⟩ = false := (World.frozen?_of_block (w := wr) hb0).trans HFR.out.2
            clear hTx hb0
            go_wp2_with fail
            refine wp_region_turn (X := (· = b)) (by kernel_rfl) ?_
            have hS : Turn (· = b) wx (World.drew wx) := (Turn.refl _ _).drew
            refine wpAnyH_take (i := 0) (oi := ⟨some 48, _, _, _, _, _⟩) (v := ?_) rfl (by kernel_rfl) (by kernel_rfl) (by kernel_rfl) (fun _ _ _ h => h) (Or.inl ⟨by rfl, ?_⟩) hS ?_
            rotate_left
            · intro W hW; go_simp; with_reducible rfl
            try simp only [Act.put, List.setIfInBounds_toArray, List.set_cons_zero, List.set_cons_succ]
            refine wpAnyH_take (i := 1) (oi := ⟨some 49, _, _, _, _, _⟩) (v := ?_) rfl (by kernel_rfl) (by kernel_rfl) (by kernel_rfl) (fun _ _ _ h => h) (Or.inl ⟨by rfl, ?_⟩) hS ?_
            rotate_left
            · intro W hW; go_simp; with_reducible rfl
            try simp only [Act.put, List.setIfInBounds_toArray, List.set_cons_zero, List.set_cons_succ]
            refine wpAnyH_take (i := 2) (oi := ⟨some 50, _, _, _, _, _⟩) (v := ?_) rfl (by kernel_rfl) (by kernel_rfl) (by kernel_rfl) (fun _ _ _ h => h) (Or.inl ⟨by rfl, ?_⟩) hS ?_
            rotate_left
            · intro W hW; go_simp; with_reducible rfl
            try simp only [Act.put, List.setIfInBounds_toArray, List.set_cons_zero, List.set_cons_succ]
            refine wpAnyH_take (i := 3) (oi := ⟨some 51, _, _, _, _, _⟩) (v := ?_) rfl (by kernel_rfl) (by kernel_rfl) (by kernel_rfl) (fun _ _ _ h => h) (Or.inl ⟨by rfl, ?_⟩) hS ?_
            rotate_left
            · intro W hW; go_simp; with_reducible rfl
            try simp only [Act.put, List.setIfInBounds_toArray, List.set_cons_zero, List.set_cons_succ]
            refine wpAnyH_take (i := 4) (oi := ⟨some 52, _, _, _, _, _⟩) (v := ?_) rfl (by kernel_rfl) (by kernel_rfl) (by kernel_rfl) (fun _ _ _ h => h) (Or.inl ⟨by rfl, ?_⟩) hS ?_
            rotate_left
            · intro W hW; go_simp; with_reducible rfl
            try simp only [Act.put, List.setIfInBounds_toArray, List.set_cons_zero, List.set_cons_succ]
            refine wpAnyH_take (i := 5) (oi := ⟨some 53, _, _, _, _, _⟩) (v := ?_) rfl (by kernel_rfl) (by kernel_rfl) (by kernel_rfl) (fun _ _ _ h => h) (Or.inl ⟨by rfl, ?_⟩) hS ?_
            rotate_left
            · intro W hW; go_simp; with_reducible rfl
            try simp only [Act.put, List.setIfInBounds_toArray, List.set_cons_zero, List.set_cons_succ]
            refine wpAnyH_take (i := 6) (oi := ⟨some 54, _, _, _, _, _⟩) (v := ?_) rfl (by kernel_rfl) (by kernel_rfl) (by kernel_rfl) (fun _ _ _ h => h) (Or.inl ⟨by rfl, ?_⟩) hS ?_
            rotate_left
            · intro W hW; go_simp; with_reducible rfl
            try simp only [Act.put, List.setIfInBounds_toArray, List.set_cons_zero, List.set_cons_succ]
            refine wpAnyH_take (i := 7) (oi := ⟨some 55, _, _, _, _, _⟩) (v := ?_) rfl (by kernel_rfl) (by kernel_rfl) (by kernel_rfl) (fun _ _ _ h => h) (Or.inl ⟨by rfl, ?_⟩) hS ?_
            rotate_left
            · intro W hW; go_simp; with_reducible rfl
            try simp only [Act.put, List.setIfInBounds_toArray, List.set_cons_zero, List.set_cons_succ]
            refine wpAnyH_take (i := 8) (oi := ⟨some 56, _, _, _, _, _⟩) (v := ?_) rfl (by kernel_rfl) (by kernel_rfl) (by kernel_rfl) (fun _ _ _ h => h) (Or.inl ⟨by rfl, ?_⟩) hS ?_
            rotate_left
            · intro W hW; go_simp; with_reducible rfl
            try simp only [Act.put, List.setIfInBounds_toArray, List.set_cons_zero, List.set_cons_succ]
            -- operation 9: a step
            refine wpAnyH_ready (rs := [9]) (by kernel_rfl) (by simp) ?_
            refine AllReadyH.cons (o := ⟨none, _, _, _, _, _⟩) rfl (fun Kr hKr => ?_) AllReadyH.nil
            go_simp
            show Kr _ _
            refine hKr.out _ _ ?_ (fun _ => ?_)
            · exact Turn.trans hS ((Turn.refl (· = b) wx.drew).setCell ⟨b, i, none⟩ (.string ⟨#[]⟩) (.inl rfl))
            clear hKr Kr
            refine wpAnyH_turn (Turn.trans hS ((Turn.refl (· = b) wx.drew).setCell ⟨b, i, none⟩ (.string ⟨#[]⟩) (.inl rfl))) ?_
            clear hS
            have hS : Turn (· = b) (wx.drew.setCell ⟨b, i, none⟩ (.string ⟨#[]⟩)) (wx.drew.setCell ⟨b, i, none⟩ (.string ⟨#[]⟩)) := Turn.refl _ _
            try simp only [Act.put]
            refine wpAnyH_done (by kernel_rfl) ?_ _
            go_wp2_with fail
            refine ⟨⟨m + 1, by go_num, hmm, hNX⟩, by simp [intOf]; omega⟩
      · subst hall
        have HNX := Lib.hid (HM.out.lost HNE.out.2.2 HML.out HI.out hkm)
        clear hkm
        rcases hway with hdk | ⟨hdk, b', o', rfl, hkc⟩
        all_goals
          go_wp2_with fail
        iterate 2
          · skip
            have e1 : ∀ V, Turn (· = b) wr V → V.cell? ⟨q, 1, none⟩ = some (.slice (some ⟨b, 0, none⟩) D.n D.n) := fun V hV => HC1.out V (hV.mono fun _ e => .inr e)
            have e2 : ∀ V, Turn (· = b) wr V → V.cell? ⟨g, m, none⟩ = some (.int .i64 (i : Int)) := fun V hV => HTW.out V (hV.mono fun _ e => .inr e)
            have e3 := HLB.out
            have e5 := HFR.out.2
            refine wp_region_turn (X := (· = b)) (by kernel_rfl) ?_
            have hS : Turn (· = b) wr (World.drew wr) := (Turn.refl _ _).drew
            refine wpAnyH_take (i := 0) (oi := ⟨some 48, _, _, _, _, _⟩) (v := ?_) rfl (by kernel_rfl) (by kernel_rfl) (by kernel_rfl) (fun _ _ _ h => h) (Or.inl ⟨by rfl, ?_⟩) hS ?_
            rotate_left
            · intro W hW; go_simp; with_reducible rfl
            try simp only [Act.put, List.setIfInBounds_toArray, List.set_cons_zero, List.set_cons_succ]
            refine wpAnyH_take (i := 1) (oi := ⟨some 49, _, _, _, _, _⟩) (v := ?_) rfl (by kernel_rfl) (by kernel_rfl) (by kernel_rfl) (fun _ _ _ h => h) (Or.inl ⟨by rfl, ?_⟩) hS ?_
            rotate_left
            · intro W hW; go_simp; with_reducible rfl
            try simp only [Act.put, List.setIfInBounds_toArray, List.set_cons_zero, List.set_cons_succ]
            refine wpAnyH_take (i := 2) (oi := ⟨some 50, _, _, _, _, _⟩) (v := ?_) rfl (by kernel_rfl) (by kernel_rfl) (by kernel_rfl) (fun _ _ _ h => h) (Or.inl ⟨by rfl, ?_⟩) hS ?_
            rotate_left
            · intro W hW; go_simp; with_reducible rfl
            try simp only [Act.put, List.setIfInBounds_toArray, List.set_cons_zero, List.set_cons_succ]
            refine wpAnyH_take (i := 3) (oi := ⟨some 51, _, _, _, _, _⟩) (v := ?_) rfl (by kernel_rfl) (by kernel_rfl) (by kernel_rfl) (fun _ _ _ h => h) (Or.inl ⟨by rfl, ?_⟩) hS ?_
            rotate_left
            · intro W hW; go_simp; with_reducible rfl
            try simp only [Act.put, List.setIfInBounds_toArray, List.set_cons_zero, List.set_cons_succ]
            refine wpAnyH_take (i := 4) (oi := ⟨some 52, _, _, _, _, _⟩) (v := ?_) rfl (by kernel_rfl) (by kernel_rfl) (by kernel_rfl) (fun _ _ _ h => h) (Or.inl ⟨by rfl, ?_⟩) hS ?_
            rotate_left
            · intro W hW; go_simp; with_reducible rfl
            try simp only [Act.put, List.setIfInBounds_toArray, List.set_cons_zero, List.set_cons_succ]
            refine wpAnyH_take (i := 5) (oi := ⟨some 53, _, _, _, _, _⟩) (v := ?_) rfl (by kernel_rfl) (by kernel_rfl) (by kernel_rfl) (fun _ _ _ h => h) (Or.inl ⟨by rfl, ?_⟩) hS ?_
            rotate_left
            · intro W hW; go_simp; with_reducible rfl
            try simp only [Act.put, List.setIfInBounds_toArray, List.set_cons_zero, List.set_cons_succ]
            refine wpAnyH_take (i := 6) (oi := ⟨some 54, _, _, _, _, _⟩) (v := ?_) rfl (by kernel_rfl) (by kernel_rfl) (by kernel_rfl) (fun _ _ _ h => h) (Or.inl ⟨by rfl, ?_⟩) hS ?_
            rotate_left
            · intro W hW; go_simp; with_reducible rfl
            try simp only [Act.put, List.setIfInBounds_toArray, List.set_cons_zero, List.set_cons_succ]
            refine wpAnyH_take (i := 7) (oi := ⟨some 55, _, _, _, _, _⟩) (v := ?_) rfl (by kernel_rfl) (by kernel_rfl) (by kernel_rfl) (fun _ _ _ h => h) (Or.inl ⟨by rfl, ?_⟩) hS ?_
            rotate_left
            · intro W hW; go_simp; with_reducible rfl
            try simp only [Act.put, List.setIfInBounds_toArray, List.set_cons_zero, List.set_cons_succ]
            refine wpAnyH_take (i := 8) (oi := ⟨some 56, _, _, _, _, _⟩) (v := ?_) rfl (by kernel_rfl) (by kernel_rfl) (by kernel_rfl) (fun _ _ _ h => h) (Or.inl ⟨by rfl, ?_⟩) hS ?_
            rotate_left
            · intro W hW; go_simp; with_reducible rfl
            try simp only [Act.put, List.setIfInBounds_toArray, List.set_cons_zero, List.set_cons_succ]
            -- operation 9: a step
            refine wpAnyH_ready (rs := [9]) (by kernel_rfl) (by simp) ?_
            refine AllReadyH.cons (o := ⟨none, _, _, _, _, _⟩) rfl (fun Kr hKr => ?_) AllReadyH.nil
            go_simp
            show Kr _ _
            refine hKr.out _ _ ?_ (fun _ => ?_)
            · exact Turn.trans hS ((Turn.refl (· = b) wr.drew).setCell ⟨b, i, none⟩ (.string ⟨#[]⟩) (.inl rfl))
            clear hKr Kr
            refine wpAnyH_turn (Turn.trans hS ((Turn.refl (· = b) wr.drew).setCell ⟨b, i, none⟩ (.string ⟨#[]⟩) (.inl rfl))) ?_
            clear hS
            have hS : Turn (· = b) (wr.drew.setCell ⟨b, i, none⟩ (.string ⟨#[]⟩)) (wr.drew.setCell ⟨b, i, none⟩ (.string ⟨#[]⟩)) := Turn.refl _ _
            try simp only [Act.put]
            refine wpAnyH_done (by kernel_rfl) ?_ _
            go_wp2_with fail
            refine ⟨⟨m + 1, by go_num, hmm, HNX⟩, by simp [intOf]; omega⟩
    · obtain rfl : m = N := by omega
      have HE := Lib.hid (RMid.done HD1.out (by rw [← HN.out]; exact HM.out))
      have HTM := Lib.hid HM.out.turn
      have hdm : decide (m < m) = false := decide_eq_false (by omega)
      clear HM hlt hm
      go_wp2_with fail
      go_end0
      exact ⟨rfl, HE.out, (HT1.out.mono fun _ h => h.elim).trans (HTM.out.mono fun _ e => by rcases e with e | e; exact .inr (.inl e); exact .inr (.inr e))⟩

end Go.Proofs.Ytaidjnpbjoncoaa
