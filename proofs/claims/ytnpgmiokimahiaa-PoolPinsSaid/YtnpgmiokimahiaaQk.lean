/-
  New, Safe, Unpin, Get and Pin, in the words' form.
-/
import Derived.Test.YtnpgmiokimahiaaQj
namespace Go.Proofs.Ytnpgmiokimahiaa
set_option maxRecDepth 100000
set_option linter.unusedVariables false
set_option linter.unusedSimpArgs false
open Go.RowKit Pl

section
variable {w W : World} {p n v L M : Nat} {m m' : Pm} {l l' : List Fq} {A : Option Addr} {N c h h' : Nat} {x y : Fq} {j : Nat} {D D' : Dv}

theorem lay_turn {w V : World} {p n v : Nat} {m : Pm} {T S : Nat → Prop} (h : lay w p n v m T) (ht : Turn S w V) (hS : ∀ k, T k → ¬ S k) : lay V p n v m T := by
  obtain ⟨l, A, N, c, h, q, rfl⟩ := h
  exact ⟨l, A, N, c, h, q.turn ht hS, rfl⟩
theorem lay_lt {w : World} {p n v : Nat} {m : Pm} {T : Nat → Prop} (h : lay w p n v m T) : ∀ k, T k → k < w.heap.size := by
  obtain ⟨l, A, N, c, h, q, rfl⟩ := h
  exact q.lt
theorem lay_ok {w : World} {p n v : Nat} {m : Pm} {T : Nat → Prop} (h : lay w p n v m T) : m.Ok n := by
  obtain ⟨l, A, N, c, h, q, rfl⟩ := h
  exact q.ring.ok

/-- what is left behind a call -/
theorem PoolAt.nx {w' : World} {A' : Option Addr} {N' c' h' : Nat} (q : PoolAt w' p D'.n v m' l' A' N' c' h') (hv : IsDev w' p L M D') (hn : ∀ k, Tq v A' (l'.map Fq.g) k → Tq v A (l.map Fq.g) k ∨ w.heap.size ≤ k) (ht : Turn (PX v A (l.map Fq.g) p L M) w w') :
    Nx lay w w' p L M v (Tq v A (l.map Fq.g)) D' m' (Tq v A' (l'.map Fq.g)) := ⟨hv, ⟨l', A', N', c', h', q, rfl⟩, hn, ht⟩

theorem new_any : NewOk lay := by
  intro w p L M D room hd hr
  have HG := Lib.hid (gone_any hd)
  have HD := Lib.hid hd
  have HR := Lib.hid hr
  clear hd hr
  by_cases h1 : room < 1
  · have d1 : decide (room < 1) = true := decide_eq_true h1
    have H1 := Lib.hid h1
    clear h1
    go_enter Try.func11, Try.ntmps11
    go_wp2_with fail
    go_ret2
    exact ⟨Below.refl _ _, .inl (.inl ⟨.inl H1.out, rfl⟩)⟩
  · have d1 : decide (room < 1) = false := decide_eq_false h1
    by_cases h2 : 64 < room
    · have d2 : decide (64 < room) = true := decide_eq_true h2
      have H2 := Lib.hid h2
      clear h1 h2
      go_enter Try.func11, Try.ntmps11
      go_wp2_with fail
      go_ret2
      exact ⟨Below.refl _ _, .inl (.inl ⟨.inr H2.out, rfl⟩)⟩
    · have d2 : decide (64 < room) = false := decide_eq_false h2
      have H1 := Lib.hid (show 1 ≤ room ∧ room ≤ 64 by omega)
      clear h1 h2
      cases hg : D.gone with
      | true =>
        have HGG := Lib.hid hg
        rw [hg] at HG
        clear hg
        go_enter Try.func11, Try.ntmps11
        go_wp2_with fail
        refine HG.out.mono ?_
        rintro e w1 ⟨rfl, hw⟩
        replace hw := hw.symm
        subst hw
        go_wp2_with fail
        go_ret2
        exact ⟨Below.refl _ _,   .inl (.inr ⟨H1.out.1, H1.out.2, by trivial, rfl⟩)⟩
      | false =>
        have HGG := Lib.hid hg
        rw [hg] at HG
        clear hg
        go_enter Try.func11, Try.ntmps11
        go_wp2_with fail
        refine HG.out.mono ?_
        rintro e w1 ⟨rfl, hw⟩
        replace hw := hw.symm
        subst hw
        go_wp2_with fail
        go_ret2
        refine ⟨below_new w _, .inr ⟨H1.out.1, H1.out.2, by trivial, w.heap.size, _, rfl, ⟨[], none, 0, 0, 0, ?_, rfl⟩, ?_⟩⟩
        · refine ⟨?_, Rk.Own.nil _ _ _, rfl, fun x hx => (by cases hx), ring_new (by have := H1.out; omega), .inl rfl⟩
          have hb := Bk.new w #[ptr p, .int .i64 room, .slice none 0 0, .int .i64 0, .int .i64 0, .int .i64 0] PT
          have e : (((new_ room.toNat).room : Nat) : Int) = room := by show ((room.toNat : Nat) : Int) = room; have := H1.out; omega
          unfold poC
          rw [e]
          exact hb
        · rintro k (rfl | ⟨o, e⟩ | hk)
          · exact Nat.le_refl _
          · cases e
          · cases hk

theorem safe_any : SafeOk lay := by
  intro w p L M v D m T lsn hp hl
  obtain ⟨l, A, N, c, h, q, rfl⟩ := hp.pat
  have HV := Lib.hid hp.dev
  have HL := Lib.hid hl
  have c4 := q.c4
  have fr4 : w.frozen? ⟨v, 4, none⟩ = false := q.bk.fr 4
  have HQ := Lib.hid q
  have HS := Lib.hid q.ring.ok.safe
  obtain ⟨s, hs⟩ : ∃ s, s = m.safe := ⟨_, rfl⟩
  rw [← hs] at c4 HS
  have HSS := Lib.hid hs
  clear hp hl q hs
  go_enter Try.func13, Try.ntmps13
  go_wp2_with fail
  refine bodyPost_end (results_none rfl _ _ _) rfl ?_
  have hT : Turn (· = v) w (w.setCell ⟨v, 4, none⟩ (.int .i64 (max s lsn))) := (Turn.refl (· = v) w).setCell ⟨v, 4, none⟩ _ (.inl rfl)
  have hq := HQ.out
  refine ⟨_, rfl, PoolAt.nx (l := l) (A := A) (A' := A) (l' := l) (N' := N) (c' := c) (h' := h) ?_ ?_ (fun k hk => .inl hk) (hT.mono (fun _ e => .inl (.inl e)))⟩
  · refine hq.struct (m' := m.tell lsn) hT ?_ ?_ hq.hand
    · have h1 := heap_setCell_same w v 4 _ _ (.int .i64 (max s lsn)) hq.bk
      rw [HSS.out] at h1 ⊢
      exact h1
    · have h1 := HS.out
      have h2 := HL.out
      unfold okI at h2
      refine hq.ring.safe (s := max m.safe lsn) ?_
      rw [← HSS.out]
      omega
  · exact HV.out.turn hT (fun e => hq.off HV.out v (.inl rfl) (.inl e.symm)) (fun e => hq.off HV.out v (.inl rfl) (.inr (.inl e.symm))) (fun e => hq.off HV.out v (.inl rfl) (.inr (.inr e.symm)))

/-- a frame's pins -/
theorem FAt.pinned (f : FAt w x) (k : Nat) : FAt (w.setCell ⟨x.g, 67, none⟩ (.int .i64 (k : Int))) { x with pins := k } := ⟨by
  have := heap_setCell_same w x.g 67 _ _ (.int .i64 (k : Int)) f.bk
  rw [fq_pins f.l64] at this
  exact this, f.l64⟩
theorem pin_ring {f : Fr} (h : Ring n m l) (hx : l[j]? = some x) (hf : m.F x.at_ = some f) (k : Nat) : Ring n (m.set x.at_ { f with pins := k }) (l.set j { x with pins := k }) := by
  have ha := h.frame (List.mem_of_getElem? hx) hf
  obtain ⟨_, b, c, d⟩ := h.ok.fr _ _ hf
  exact h.put hx rfl rfl ⟨ha.b, ha.dirty, rfl, ha.lsn⟩ (set_ok h.ok hf b c d)

theorem unpin_any : UnpinOk lay := by
  intro w p L M v D m T a hp hl hpins
  obtain ⟨l, A, N, c, h, q, rfl⟩ := hp.pat
  have HV := Lib.hid hp.dev
  have HF := Lib.hid (find_any q a)
  have HQ := Lib.hid q
  have HPI := Lib.hid hpins
  clear hp hl q hpins
  go_enter Try.func20, Try.ntmps20
  go_wp2_with fail
  refine HF.out.mono ?_
  rintro e w1 ⟨hw, hfo⟩
  replace hw := hw.symm
  subst hw
  rcases hfo with ⟨j, x, hx, hax, rfl⟩ | ⟨hn, rfl⟩
  · have hxm := List.mem_of_getElem? hx
    obtain ⟨f, hf, hag⟩ := HQ.out.ring.has x hxm
    have hfa := HQ.out.f hxm
    have f67 := hfa.c67
    have fr67 : w.frozen? ⟨x.g, 67, none⟩ = false := hfa.bk.fr 67
    have hpb : x.pins ≤ 1000000 := by rw [← hag.pins]; exact HPI.out _ _ hf
    have ha0 : ¬ a < 0 := by omega
    have hat : a.toNat = x.at_ := by omega
    have HE : Hid (unpinE m a = if x.pins = 0 then 7 else 0) := Lib.hid (by
      unfold unpinE
      rw [if_neg ha0, hat, hf]
      simp only [hag.pins])
    have HU : Hid (m.unpin a = m.set x.at_ { f with pins := x.pins - 1 }) := Lib.hid (by
      unfold Pm.unpin
      rw [if_neg ha0, hat, hf]
      simp only [hag.pins])
    have HX := Lib.hid hx
    have HFF := Lib.hid hf
    have HFA := Lib.hid hfa
    have HAG := Lib.hid hag
    obtain ⟨z, hz⟩ : ∃ z : Int, z = (x.pins : Int) := ⟨_, rfl⟩
    rw [← hz] at f67
    obtain ⟨g, hg⟩ : ∃ g, g = x.g := ⟨_, rfl⟩
    rw [← hg] at f67 fr67 ⊢
    have HG := Lib.hid hg
    have HZ := Lib.hid hz
    have hzb : z ≤ 1000000 := by omega
    have hz0 : 0 ≤ z := by omega
    clear hx hax hxm hf hag hfa hpb ha0 hat hz hg
    by_cases h0 : z = 0
    · have hb : (z == 0) = true := by simpa using h0
      have H0 := Lib.hid h0
      clear h0
      go_wp2_with fail
      go_ret
      have hp0 : x.pins = 0 := by have := HZ.out; have := H0.out; omega
      refine ⟨_, by rw [HE.out, if_pos hp0]; rfl, PoolAt.nx (l := l) (A := A) (l' := l) (A' := A) (N' := N) (c' := c) (h' := h) ?_ HV.out (fun k hk => .inl hk) (Turn.refl _ _)⟩
      have e : m.unpin a = m := by
        rw [HU.out]
        unfold Pm.set
        have : upd m.F x.at_ (some { f with pins := x.pins - 1 }) = m.F := by
          funext k
          by_cases e : k = x.at_
          · subst e
            rw [upd_same, HFF.out, hp0]
            have h1 := HAG.out.pins
            rw [hp0] at h1
            rw [show (0 - 1 : Nat) = f.pins by omega]
          · rw [upd_ne _ _ e]
        rw [this]
      rw [e]
      exact HQ.out
    · have hb : (z == 0) = false := by simpa using h0
      have H0 := Lib.hid h0
      clear h0
      go_wp2_with fail
      go_ret
      have hg := HG.out
      subst hg
      have hp0 : ¬ x.pins = 0 := by have := HZ.out; have := H0.out; omega
      have hT : Turn (· = x.g) w (w.setCell ⟨x.g, 67, none⟩ (.int .i64 (z - 1))) := (Turn.refl (· = x.g) w).setCell ⟨x.g, 67, none⟩ _ (.inl rfl)
      have hxm := List.mem_of_getElem? HX.out
      have hTx : Tq v A (l.map Fq.g) x.g := .inr (.inr (List.mem_map.2 ⟨x, hxm, rfl⟩))
      have hnd := HQ.out.off HV.out x.g hTx
      have hgs : (l.set j { x with pins := x.pins - 1 }).map Fq.g = l.map Fq.g := upd_gs HX.out rfl
      have hzz : z - 1 = ((x.pins - 1 : Nat) : Int) := by have := HZ.out; omega
      refine ⟨_, by rw [HE.out, if_neg hp0]; rfl, PoolAt.nx (l := l) (A := A) (l' := l.set j { x with pins := x.pins - 1 }) (A' := A) (N' := N) (c' := c) (h' := h) ?_ ?_ (fun k hk => .inl (by rw [hgs] at hk; exact hk)) (hT.mono (fun k e => .inl (by rw [e]; exact hTx)))⟩
      · rw [HU.out]
        refine HQ.out.upd HX.out rfl hT ?_ (pin_ring HQ.out.ring HX.out HFF.out _) rfl rfl rfl
        rw [hzz]
        exact (HFA.out.pinned (x.pins - 1)).bk
      · exact HV.out.turn hT (fun e => hnd (.inl e.symm)) (fun e => hnd (.inr (.inl e.symm))) (fun e => hnd (.inr (.inr e.symm)))
  · have HN := Lib.hid hn
    clear hn
    go_wp2_with fail
    go_ret
    have hnone : ¬ a < 0 → m.F a.toNat = none := fun h0 => by
      cases hf : m.F a.toNat with
      | none => rfl
      | some f =>
        obtain ⟨x, hx, e⟩ := HQ.out.ring.of _ f hf
        exact absurd (by omega) (HN.out x hx)
    have e1 : unpinE m a = 7 := by
      unfold unpinE
      by_cases h0 : a < 0
      · rw [if_pos h0]
      · rw [if_neg h0, hnone h0]
    have e2 : m.unpin a = m := by
      unfold Pm.unpin
      by_cases h0 : a < 0
      · rw [if_pos h0]
      · rw [if_neg h0, hnone h0]
    refine ⟨_, by rw [e1]; rfl, PoolAt.nx (l := l) (A := A) (l' := l) (A' := A) (N' := N) (c' := c) (h' := h) (by rw [e2]; exact HQ.out) HV.out (fun k hk => .inl hk) (Turn.refl _ _)⟩

/-- a block of the pool's, turned behind a use, may be turned -/
theorem use_turn {w1 w2 : World} {A' : Option Addr} {N' c' h' g : Nat} {n' : Nat} (q : PoolAt w1 p n' v m' l' A' N' c' h') (hn : ∀ k, Tq v A' (l'.map Fq.g) k → Tq v A (l.map Fq.g) k ∨ w.heap.size ≤ k) (ht : Turn (PX v A (l.map Fq.g) p L M) w w1) (h2 : Turn (· = g) w1 w2) (hg : Tq v A' (l'.map Fq.g) g) :
    Turn (PX v A (l.map Fq.g) p L M) w w2 := by
  refine ⟨h2.os.trans ht.os, h2.tape.trans ht.tape, h2.output.trans ht.output, Nat.le_trans ht.size h2.size, fun k hk hs => ?_⟩
  have hne : ¬ k = g := fun e => by
    subst e
    rcases hn _ hg with e | e
    · exact hs (.inl e)
    · omega
  exact (h2.block k (Nat.lt_of_lt_of_le hk ht.size) hne).trans (ht.block k hk hs)
/-- no pin is new -/
theorem hold_pins {D D' : Dv} {m m' : Pm} {a E : Int} {i K : Nat} {f : Fr} (hh : Hold D m a E D' m') (hp : ∀ i f, m.F i = some f → f.pins ≤ K) (hf : m'.F i = some f) : f.pins ≤ K := by
  have key : ∀ (m0 : Pm) (D0 : Dv) (k : Nat), (∀ i f, m0.F i = some f → f.pins ≤ K) → (m0.take D0 k).F i = some f → f.pins ≤ K := by
    intro m0 D0 k h0 h1
    by_cases e : i = k
    · subst e
      rw [take_same] at h1
      injection h1 with h1
      subst h1
      exact Nat.zero_le _
    · rw [take_ne _ _ e] at h1
      exact h0 i f h1
  have kd : ∀ j, ∀ i f, (m.drop j).F i = some f → f.pins ≤ K := by
    intro j i f h1
    by_cases e : i = j
    · subst e; rw [drop_same] at h1; cases h1
    · rw [drop_ne _ e] at h1; exact hp i f h1
  cases hh with
  | gone h => exact hp i f hf
  | held h k hk g hg => exact hp i f hf
  | bad h hr => exact hp i f hf
  | room h k hk hr hg hc => exact key m _ k hp hf
  | full h k hk hr hg hc hn => exact hp i f hf
  | clean h k hk hr hg hc j g hj hgo hd => exact key (m.drop j) _ k (kd j) hf
  | wrote h k hk hr hg hc j g hj hgo hd hw => exact key (m.drop j) _ k (kd j) hf
  | fails h k hk hr hg hc j g hj hgo hd hw => exact hp i f hf

theorem byt_at {f : Fr} {a : Int} (ha : a = (x.at_ : Int)) (hf : m.F x.at_ = some f) (hag : Ag f x) : byt m a = x.b := by
  unfold byt
  rw [show a.toNat = x.at_ by omega, hf]
  exact hag.b

theorem get_any : GetOk lay := by
  intro w p L M v D m T a hp ha
  obtain ⟨l, A, N, c, h, q, rfl⟩ := hp.pat
  have HU := Lib.hid (use_any q hp.dev hp.spent hp.reads a ha)
  clear hp ha q
  go_enter Try.func15, Try.ntmps15
  go_wp2_with fail
  refine HU.out.mono ?_
  rintro e w1 ⟨E, D', m', l', A', N', c', h', hh, hq, hv, hn, ht, hend⟩
  have HH := Lib.hid hh
  have HQ := Lib.hid hq
  have HV := Lib.hid hv
  have HN := Lib.hid hn
  have HT := Lib.hid ht
  clear hh hq hv hn ht HU
  rcases hend with ⟨rfl, j, x, hx, hax, rfl⟩ | ⟨hE, rfl⟩
  · have HX := Lib.hid hx
    have HAX := Lib.hid hax
    have hf := HQ.out.f (List.mem_of_getElem? hx)
    have HC := Lib.hid (clone8_any w1 ⟨x.g, 1, none⟩ 64 64 x.b hf.rd hf.l64 (by omega))
    clear hx hax hf
    generalize hg : x.g = g at *
    have HG := Lib.hid hg
    clear hg
    go_wp2_with fail
    refine HC.out.mono ?_
    rintro e w2 ⟨A2, c2, rfl, ho, hb⟩
    have HO := Lib.hid ho
    have HB := Lib.hid hb
    clear ho hb
    go_wp2_with fail
    go_ret2
    obtain ⟨f, hf, hag⟩ := HQ.out.ring.has x (List.mem_of_getElem? HX.out)
    have ht2 : Turn (fun _ => False) w1 w2 := Turn.ofBelow HB.out
    refine ⟨0, D', m', Tq v A' (l'.map Fq.g), A2, 64, c2, HH.out, rfl, ?_, fun a e hk => ?_, PoolAt.nx (HQ.out.keep ht2) (HV.out.turn ht2 (fun h => h) (fun h => h) (fun h => h)) HN.out (HT.out.trans (ht2.mono (fun _ h => absurd h (fun h => h))))⟩
    · rw [if_pos rfl, byt_at HAX.out hf hag]
      exact HO.out.base_le HT.out.size
    · have h1 := (HO.out.block a e).1
      have h2 := HQ.out.lt _ hk
      omega
  · have HE := Lib.hid hE
    have e1 : (E == 0) = false := by simpa using hE
    have e2 : (E != 0) = true := by simpa using hE
    clear hE
    go_wp2_with fail
    go_ret2
    refine ⟨E, D', m', Tq v A' (l'.map Fq.g), none, 0, 0, HH.out, rfl, ?_, fun a e => (by cases e), PoolAt.nx HQ.out HV.out HN.out HT.out⟩
    rw [if_neg HE.out]
    exact ⟨rfl, rfl, rfl⟩

theorem pin_any : PinOk lay := by
  intro w p L M v D m T a hp ha hpins
  obtain ⟨l, A, N, c, h, q, rfl⟩ := hp.pat
  have HU := Lib.hid (use_any q hp.dev hp.spent hp.reads a ha)
  have HPI := Lib.hid hpins
  clear hp ha q hpins
  go_enter Try.func19, Try.ntmps19
  go_wp2_with fail
  refine HU.out.mono ?_
  rintro e w1 ⟨E, D', m', l', A', N', c', h', hh, hq, hv, hn, ht, hend⟩
  have HH := Lib.hid hh
  have HQ := Lib.hid hq
  have HV := Lib.hid hv
  have HN := Lib.hid hn
  have HT := Lib.hid ht
  clear hh hq hv hn ht HU
  rcases hend with ⟨rfl, j, x, hx, hax, rfl⟩ | ⟨hE, rfl⟩
  · have hxm := List.mem_of_getElem? hx
    obtain ⟨f, hf, hag⟩ := HQ.out.ring.has x hxm
    have hfa := HQ.out.f hxm
    have f67 := hfa.c67
    have fr67 : w1.frozen? ⟨x.g, 67, none⟩ = false := hfa.bk.fr 67
    have hpb : x.pins ≤ 100000 := by rw [← hag.pins]; exact hold_pins HH.out HPI.out hf
    have hat : a.toNat = x.at_ := by omega
    have HX := Lib.hid hx
    have HFF := Lib.hid hf
    have HFA := Lib.hid hfa
    have HPE : Hid (m'.pin a.toNat = m'.set x.at_ { f with pins := x.pins + 1 }) := Lib.hid (by
      unfold Pm.pin
      rw [hat, hf]
      simp only [hag.pins])
    obtain ⟨z, hz⟩ : ∃ z : Int, z = (x.pins : Int) := ⟨_, rfl⟩
    rw [← hz] at f67
    obtain ⟨g, hg⟩ : ∃ g, g = x.g := ⟨_, rfl⟩
    rw [← hg] at f67 fr67 ⊢
    have HG := Lib.hid hg
    have HZ := Lib.hid hz
    have hzb : z ≤ 100000 := by omega
    have hz0 : 0 ≤ z := by omega
    clear hx hax hxm hf hag hfa hpb hat hz hg
    go_wp2_with fail
    go_ret
    have hg := HG.out
    subst hg
    have hT : Turn (· = x.g) w1 (w1.setCell ⟨x.g, 67, none⟩ (.int .i64 (z + 1))) := (Turn.refl (· = x.g) w1).setCell ⟨x.g, 67, none⟩ _ (.inl rfl)
    have hxm := List.mem_of_getElem? HX.out
    have hTx : Tq v A' (l'.map Fq.g) x.g := .inr (.inr (List.mem_map.2 ⟨x, hxm, rfl⟩))
    have hnd := HQ.out.off HV.out x.g hTx
    have hgs : (l'.set j { x with pins := x.pins + 1 }).map Fq.g = l'.map Fq.g := upd_gs HX.out rfl
    have hzz : z + 1 = ((x.pins + 1 : Nat) : Int) := by have := HZ.out; omega
    refine ⟨0, D', m'.pin a.toNat, Tq v A' ((l'.set j { x with pins := x.pins + 1 }).map Fq.g), .yes HH.out, rfl, PoolAt.nx (N' := N') (c' := c') (h' := h') ?_ ?_ (fun k hk => by rw [hgs] at hk; exact HN.out k hk) ?_⟩
    · rw [HPE.out]
      refine HQ.out.upd HX.out rfl hT ?_ (pin_ring HQ.out.ring HX.out HFF.out _) rfl rfl rfl
      rw [hzz]
      exact (HFA.out.pinned (x.pins + 1)).bk
    · exact HV.out.turn hT (fun e => hnd (.inl e.symm)) (fun e => hnd (.inr (.inl e.symm))) (fun e => hnd (.inr (.inr e.symm)))
    · exact use_turn HQ.out HN.out HT.out hT hTx
  · have HE := Lib.hid hE
    have e1 : (E == 0) = false := by simpa using hE
    have e2 : (E != 0) = true := by simpa using hE
    clear hE
    go_wp2_with fail
    go_ret
    exact ⟨E, D', m', Tq v A' (l'.map Fq.g), .no HH.out HE.out, rfl, PoolAt.nx HQ.out HV.out HN.out HT.out⟩
end
end Go.Proofs.Ytnpgmiokimahiaa
