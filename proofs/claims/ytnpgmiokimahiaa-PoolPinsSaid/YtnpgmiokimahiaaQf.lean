/-
  A frame written, if it is dirty; where one more frame may stand.
-/
import Derived.Test.YtnpgmiokimahiaaQe
namespace Go.Proofs.Ytnpgmiokimahiaa
set_option maxRecDepth 100000
set_option linter.unusedVariables false
set_option linter.unusedSimpArgs false
open Go.RowKit Pl

section
variable {w W : World} {p n v L M : Nat} {m m' : Pm} {l l' : List Fq} {A : Option Addr} {N c h h' : Nat} {x y : Fq} {j : Nat} {D : Dv}

/-- a frame laid down -/
inductive LayOut (w : World) (p L M : Nat) (D : Dv) (x : Fq) (e : Ending) (w' : World) : Prop
  | clean (hd : x.dirty = false) (he : e = .returned (.int .i64 0)) (ht : Turn (fun _ => False) w w')
  | wrote (hd : x.dirty = true) (hE : D.writeE (x.at_ : Int) x.b = 0) (he : e = .returned (.int .i64 0)) (hv : IsDev w' p L M (D.write (x.at_ : Int) x.b)) (hf : FAt w' { x with dirty := false, lsn := 0 }) (ht : Turn (fun k => k = x.g ∨ DS p L M k) w w')
  | fails (hd : x.dirty = true) (hE : D.writeE (x.at_ : Int) x.b ≠ 0) (he : e = .returned (.int .i64 (D.writeE (x.at_ : Int) x.b))) (hv : IsDev w' p L M (D.write (x.at_ : Int) x.b)) (ht : Turn (DS p L M) w w')

theorem FAt.dirt {x : Fq} {w : World} (f : FAt w x) (d : Bool) (z : Int) : FAt ((w.setCell ⟨x.g, 65, none⟩ (.bool d)).setCell ⟨x.g, 66, none⟩ (.int .i64 z)) { x with dirty := d, lsn := z } := ⟨by
  have h1 := heap_setCell_same w x.g 65 _ _ (.bool d) f.bk
  have h2 := heap_setCell_same _ x.g 66 _ _ (.int .i64 z) h1
  rw [fq_dirt f.l64] at h2
  exact h2, f.l64⟩

set_option maxHeartbeats 4000000 in
theorem lay_any (q : PoolAt w p D.n v m l A N c h) (hv : IsDev w p L M D) (hs : D.spent ≤ 1000000) (hx : x ∈ l) : Calls Try.prog 27 #[ptr v, ptr x.g] w (LayOut w p L M D x) := by
  have hf := q.f hx
  have f65 := hf.c65
  cases hd : x.dirty with
  | false =>
    have HD := Lib.hid hd
    rw [hd] at f65
    clear hd q hv hs hx hf
    generalize x.g = g at *
    go_enter Try.func27, Try.ntmps27
    go_wp2_with fail
    go_ret
    exact .clean HD.out rfl (Turn.refl _ _)
  | true =>
    have HD := Lib.hid hd
    rw [hd] at f65
    have hbd := q.ring.bd hx
    have hoff := q.off hv
    have hgx : ¬ DS p L M x.g := hoff x.g (.inr (.inr (List.mem_map.2 ⟨x, hx, rfl⟩)))
    have hgv : ¬ DS p L M v := hoff v (.inl rfl)
    have c0 := q.c0
    have k0 : ∀ V, Turn (DS p L M) w V → V.cell? ⟨v, 0, none⟩ = some (ptr p) := fun V hV => hV.cell c0 hgv
    have f0 := hf.c0
    have k1 : ∀ V, Turn (DS p L M) w V → V.cell? ⟨x.g, 0, none⟩ = some (.int .i64 (x.at_ : Int)) := fun V hV => hV.cell f0 hgx
    have HW := Lib.hid (dwrite_any (w := World.drew w) (hv.turn (S := fun _ => False) (Turn.refl _ _).drew (fun h => h) (fun h => h) (fun h => h)) hs (x.at_ : Int) (l := x.b) (fun V hV => hf.firm hgx V ((Turn.refl _ w).drew.trans hV)) 64 64 hbd.2.1)
    have HF := Lib.hid hf
    have HGX := Lib.hid hgx
    obtain ⟨E, hE⟩ : ∃ E, E = D.writeE (x.at_ : Int) x.b := ⟨_, rfl⟩
    obtain ⟨D', hD'⟩ : ∃ D', D' = D.write (x.at_ : Int) x.b := ⟨_, rfl⟩
    rw [← hE, ← hD'] at HW
    have HE := Lib.hid hE
    have HD' := Lib.hid hD'
    obtain ⟨a, ha⟩ : ∃ a, a = (x.at_ : Int) := ⟨_, rfl⟩
    rw [← ha] at HW k1
    have HA := Lib.hid ha
    obtain ⟨g, hg⟩ : ∃ g, g = x.g := ⟨_, rfl⟩
    rw [← hg] at HW k1 f65 ⊢
    have HG := Lib.hid hg
    clear hE hD' ha hg hd q hv hs hx hf hbd hoff hgx hgv c0 f0
    go_enter Try.func27, Try.ntmps27
    go_upto_region 3 with fail
    clear f65
    refine wp_region_turn (X := (DS p L M)) (by kernel_rfl) ?_
    have hS : Turn (DS p L M) w (World.drew w) := (Turn.refl _ _).drew
    refine wpAnyH_take (i := 0) (oi := ⟨some 11, _, _, _, _, _⟩) (v := ?_) rfl (by kernel_rfl) (by kernel_rfl) (by kernel_rfl) (fun _ _ _ h => h) (Or.inl ⟨by rfl, ?_⟩) hS ?_
    rotate_left
    · intro W hW; go_simp; with_reducible rfl
    try simp only [Act.put, List.setIfInBounds_toArray, List.set_cons_zero, List.set_cons_succ]
    refine wpAnyH_take (i := 1) (oi := ⟨some 12, _, _, _, _, _⟩) (v := ?_) rfl (by kernel_rfl) (by kernel_rfl) (by kernel_rfl) (fun _ _ _ h => h) (Or.inl ⟨by rfl, ?_⟩) hS ?_
    rotate_left
    · intro W hW; go_simp; with_reducible rfl
    try simp only [Act.put, List.setIfInBounds_toArray, List.set_cons_zero, List.set_cons_succ]
    refine wpAnyH_take (i := 2) (oi := ⟨some 13, _, _, _, _, _⟩) (v := ?_) rfl (by kernel_rfl) (by kernel_rfl) (by kernel_rfl) (fun _ _ _ h => h) (Or.inl ⟨by rfl, ?_⟩) hS ?_
    rotate_left
    · intro W hW; go_simp; with_reducible rfl
    try simp only [Act.put, List.setIfInBounds_toArray, List.set_cons_zero, List.set_cons_succ]
    refine wpAnyH_take (i := 3) (oi := ⟨some 14, _, _, _, _, _⟩) (v := ?_) rfl (by kernel_rfl) (by kernel_rfl) (by kernel_rfl) (fun _ _ _ h => h) (Or.inl ⟨by rfl, ?_⟩) hS ?_
    rotate_left
    · intro W hW; go_simp; with_reducible rfl
    try simp only [Act.put, List.setIfInBounds_toArray, List.set_cons_zero, List.set_cons_succ]
    refine wpAnyH_take (i := 4) (oi := ⟨some 15, _, _, _, _, _⟩) (v := ?_) rfl (by kernel_rfl) (by kernel_rfl) (by kernel_rfl) (fun _ _ _ h => h) (Or.inl ⟨by rfl, ?_⟩) hS ?_
    rotate_left
    · intro W hW; go_simp; with_reducible rfl
    try simp only [Act.put, List.setIfInBounds_toArray, List.set_cons_zero, List.set_cons_succ]
    refine wpAnyH_take (i := 5) (oi := ⟨some 16, _, _, _, _, _⟩) (v := ?_) rfl (by kernel_rfl) (by kernel_rfl) (by kernel_rfl) (fun _ _ _ h => h) (Or.inl ⟨by rfl, ?_⟩) hS ?_
    rotate_left
    · intro W hW; go_simp; with_reducible rfl
    try simp only [Act.put, List.setIfInBounds_toArray, List.set_cons_zero, List.set_cons_succ]
    refine wpAnyH_take (i := 6) (oi := ⟨some 17, _, _, _, _, _⟩) (v := ?_) rfl (by kernel_rfl) (by kernel_rfl) (by kernel_rfl) (fun _ _ _ h => h) (Or.inl ⟨by rfl, ?_⟩) hS ?_
    rotate_left
    · intro W hW; go_simp; with_reducible rfl
    try simp only [Act.put, List.setIfInBounds_toArray, List.set_cons_zero, List.set_cons_succ]
    refine wpAnyH_take (i := 7) (oi := ⟨some 18, _, _, _, _, _⟩) (v := ?_) rfl (by kernel_rfl) (by kernel_rfl) (by kernel_rfl) (fun _ _ _ h => h) (Or.inl ⟨by rfl, ?_⟩) hS ?_
    rotate_left
    · intro W hW; go_simp; with_reducible rfl
    try simp only [Act.put, List.setIfInBounds_toArray, List.set_cons_zero, List.set_cons_succ]
    refine wpAnyH_take (i := 8) (oi := ⟨some 19, _, _, _, _, _⟩) (v := ?_) rfl (by kernel_rfl) (by kernel_rfl) (by kernel_rfl) (fun _ _ _ h => h) (Or.inl ⟨by rfl, ?_⟩) hS ?_
    rotate_left
    · intro W hW; go_simp; with_reducible rfl
    try simp only [Act.put, List.setIfInBounds_toArray, List.set_cons_zero, List.set_cons_succ]
    refine wpAnyH_take (i := 9) (oi := ⟨some 20, _, _, _, _, _⟩) (v := ?_) rfl (by kernel_rfl) (by kernel_rfl) (by kernel_rfl) (fun _ _ _ h => h) (Or.inl ⟨by rfl, ?_⟩) hS ?_
    rotate_left
    · intro W hW; go_simp; with_reducible rfl
    try simp only [Act.put, List.setIfInBounds_toArray, List.set_cons_zero, List.set_cons_succ]
    refine wpAnyH_take (i := 10) (oi := ⟨some 21, _, _, _, _, _⟩) (v := ?_) rfl (by kernel_rfl) (by kernel_rfl) (by kernel_rfl) (fun _ _ _ h => h) (Or.inl ⟨by rfl, ?_⟩) hS ?_
    rotate_left
    · intro W hW; go_simp; with_reducible rfl
    try simp only [Act.put, List.setIfInBounds_toArray, List.set_cons_zero, List.set_cons_succ]
    refine wpAnyH_take (i := 11) (oi := ⟨some 22, _, _, _, _, _⟩) (v := ?_) rfl (by kernel_rfl) (by kernel_rfl) (by kernel_rfl) (fun _ _ _ h => h) (Or.inl ⟨by rfl, ?_⟩) hS ?_
    rotate_left
    · intro W hW; go_simp; with_reducible rfl
    try simp only [Act.put, List.setIfInBounds_toArray, List.set_cons_zero, List.set_cons_succ]
    refine wpAnyH_ready (rs := [12]) (by kernel_rfl) (by simp) ?_
    refine AllReadyH.cons (o := ⟨some 23, _, _, _, _, _⟩) rfl (fun Kr hKr => ?_) AllReadyH.nil
    -- operation 12: a call
    go_simp
    refine HW.out.mono ?_
    rintro e w1 ⟨rfl, hd1, ht1⟩
    have HV1 := Lib.hid hd1
    have HT1 := Lib.hid ht1
    clear hd1
    show Kr _ _
    refine hKr.out _ _ ?_ (fun _ => ?_)
    · exact Turn.trans hS ht1
    clear hKr Kr
    refine wpAnyH_turn (Turn.trans hS ht1) ?_
    clear hS
    have hS : Turn (DS p L M) w1 w1 := Turn.refl _ _
    try simp only [Act.put, List.setIfInBounds_toArray, List.set_cons_zero, List.set_cons_succ]
    refine wpAnyH_take (i := 13) (oi := ⟨some 5, _, _, _, _, _⟩) (v := ?_) rfl (by kernel_rfl) (by kernel_rfl) (by kernel_rfl) (fun _ _ _ h => h) (Or.inl ⟨by rfl, ?_⟩) hS ?_
    rotate_left
    · intro W hW; go_simp; with_reducible rfl
    try simp only [Act.put, List.setIfInBounds_toArray, List.set_cons_zero, List.set_cons_succ]
    refine wpAnyH_done (by kernel_rfl) ?_ _
    clear hS ht1 k0 k1
    have HT2 : Hid (Turn (DS p L M) w w1) := Lib.hid ((Turn.refl _ w).drew.trans HT1.out)
    clear HT1
    by_cases h0 : E = 0
    · have e1 : (E == 0) = true := by simpa using h0
      have e2 : (E != 0) = false := by simpa using h0
      have HE0 := Lib.hid h0
      have HF1 := Lib.hid (HF.out.turn HT2.out HGX.out)
      have fr65 : w1.frozen? ⟨g, 65, none⟩ = false := by rw [HG.out]; exact HF1.out.bk.fr 65
      have fr66 : w1.frozen? ⟨g, 66, none⟩ = false := by rw [HG.out]; exact HF1.out.bk.fr 66
      have c65 : w1.cell? ⟨g, 65, none⟩ = some (.bool true) := by rw [HG.out]; have := HF1.out.c65; rwa [HD.out] at this
      have c66 : w1.cell? ⟨g, 66, none⟩ = some (.int .i64 x.lsn) := by rw [HG.out]; exact HF1.out.c66
      clear h0
      generalize x.lsn = u at c66
      go_wp2_with fail
      go_ret
      have hg := HG.out
      subst hg
      have hT3 : Turn (· = x.g) w1 ((w1.setCell ⟨x.g, 65, none⟩ (.bool false)).setCell ⟨x.g, 66, none⟩ (.int .i64 0)) := ((Turn.refl (· = x.g) w1).setCell ⟨x.g, 65, none⟩ _ (.inl rfl)).setCell ⟨x.g, 66, none⟩ _ (.inl rfl)
      refine .wrote HD.out (HE.out.symm.trans HE0.out) rfl ?_ (HF1.out.dirt false 0) ((HT2.out.mono (fun _ h => .inr h)).trans (hT3.mono (fun _ h => .inl h)))
      rw [← HD'.out]
      exact HV1.out.turn hT3 (fun e => HGX.out (.inl e.symm)) (fun e => HGX.out (.inr (.inl e.symm))) (fun e => HGX.out (.inr (.inr e.symm)))
    · have e1 : (E == 0) = false := by simpa using h0
      have e2 : (E != 0) = true := by simpa using h0
      have HE0 := Lib.hid h0
      clear h0
      go_wp2_with fail
      go_ret
      refine .fails HD.out (fun e => HE0.out (HE.out.trans e)) (by rw [← HE.out]; rfl) ?_ HT2.out
      rw [← HD'.out]; exact HV1.out

def layE (D : Dv) (x : Fq) : Int := if x.dirty = true then D.writeE (x.at_ : Int) x.b else 0
theorem LayOut.ends {e : Ending} (o : LayOut w p L M D x e W) : e = .returned (.int .i64 (layE D x)) ∧ Turn (fun k => k = x.g ∨ DS p L M k) w W := by
  unfold layE
  rcases o with ⟨hd, he, ht⟩ | ⟨hd, hE, he, hv, hf, ht⟩ | ⟨hd, hE, he, hv, ht⟩
  · exact ⟨by rw [he, hd]; rfl, ht.mono (fun _ h => absurd h (fun h => h))⟩
  · exact ⟨by rw [he, if_pos hd, hE], ht⟩
  · exact ⟨by rw [he, if_pos hd], ht.mono (fun _ h => .inr h)⟩

def washF (x : Fq) (f : Fr) : Fr := { f with dirty := false }
def washQ (x : Fq) : Fq := { x with dirty := false, lsn := 0 }
/-- a frame that is written is not dirty -/
theorem Pl.Ring.wash {n : Nat} {m : Pm} {l : List Fq} {j : Nat} {x : Fq} {f : Fr} (h : Ring n m l) (hx : l[j]? = some x) (hf : m.F x.at_ = some f) : Ring n (m.set x.at_ { f with dirty := false }) (l.set j (washQ x)) := by
  have ha := h.frame (List.mem_of_getElem? hx) hf
  obtain ⟨_, b, c, d⟩ := h.ok.fr _ _ hf
  exact h.put hx rfl rfl ⟨ha.b, rfl, ha.pins, rfl⟩ (set_ok h.ok hf b c d)

/-- where one more may stand -/
inductive PlaceOut (w : World) (p v L M : Nat) (D : Dv) (m : Pm) (l : List Fq) (A : Option Addr) (N c : Nat) (e : Ending) (w' : World) : Prop
  | room (hc : N < m.room) (h' : Nat) (he : e = .returned (.tuple #[.int .i64 (N : Int), .int .i64 0])) (hp : PoolAt w' p D.n v m l A N c h') (hv : IsDev w' p L M D)
  | full (hc : m.room ≤ N) (hn : ∀ x ∈ l, mayF m.safe x = false) (l' : List Fq) (h' : Nat) (hs : Sm l l') (he : e = .returned (.tuple #[.int .i64 0, .int .i64 5])) (hp : PoolAt w' p D.n v m l' A N c h') (hv : IsDev w' p L M D)
  | clean (hc : m.room ≤ N) (l' : List Fq) (h' j : Nat) (x : Fq) (hs : Sm l l') (hx : l'[j]? = some x) (hm : mayF m.safe x = true) (hd : x.dirty = false) (he : e = .returned (.tuple #[.int .i64 (j : Int), .int .i64 0])) (hp : PoolAt w' p D.n v m l' A N c h') (hv : IsDev w' p L M D)
  | wrote (hc : m.room ≤ N) (l' : List Fq) (h' j : Nat) (x : Fq) (hs : Sm l l') (hx : l'[j]? = some x) (hm : mayF m.safe x = true) (hd : x.dirty = true) (hE : D.writeE (x.at_ : Int) x.b = 0) (f : Fr) (hf : m.F x.at_ = some f) (he : e = .returned (.tuple #[.int .i64 (j : Int), .int .i64 0]))
      (hp : PoolAt w' p D.n v (m.set x.at_ { f with dirty := false }) (l'.set j (washQ x)) A N c h') (hv : IsDev w' p L M (D.write (x.at_ : Int) x.b))
  | fails (hc : m.room ≤ N) (l' : List Fq) (h' j : Nat) (x : Fq) (hs : Sm l l') (hx : l'[j]? = some x) (hm : mayF m.safe x = true) (hd : x.dirty = true) (hE : D.writeE (x.at_ : Int) x.b ≠ 0) (he : e = .returned (.tuple #[.int .i64 (j : Int), .int .i64 (D.writeE (x.at_ : Int) x.b)])) (hp : PoolAt w' p D.n v m l' A N c h') (hv : IsDev w' p L M (D.write (x.at_ : Int) x.b))

/-- what 'place' may turn -/
abbrev PX (v : Nat) (A : Option Addr) (gs : List Nat) (p L M : Nat) (k : Nat) : Prop := Tq v A gs k ∨ DS p L M k

set_option maxHeartbeats 4000000 in
theorem place_any (q : PoolAt w p D.n v m l A N c h) (hv : IsDev w p L M D) (hs : D.spent ≤ 1000000) : Calls Try.prog 34 #[ptr v] w fun e w' => PlaceOut w p v L M D m l A N c e w' ∧ Turn (PX v A (l.map Fq.g) p L M) w w' := by
  have hle := q.le.1
  have hr64 := q.ring.ok.room
  have HL := Lib.hid q.len
  obtain ⟨w0, hw0⟩ : ∃ w0, w0 = w.alloc (.cells #[ptr v] 29) := ⟨_, rfl⟩
  have ht0 : Turn (fun _ => False) w w0 := by rw [hw0]; exact (Turn.refl _ _).alloc _
  have cb : w0.cell? ⟨w.heap.size, 0, none⟩ = some (ptr v) := by rw [hw0]; exact (Bk.new w #[ptr v] 29).c 0 _ rfl
  have HBT : Hid (¬ PX v A (l.map Fq.g) p L M w.heap.size) := Lib.hid (fun hk => by
    rcases hk with hk | hk
    · have := q.lt _ hk; omega
    · have h1 := hv.lt
      rcases hk with e | e | e <;> omega)
  have HQ := Lib.hid (q.keep ht0)
  have HV := Lib.hid (hv.turn ht0 (fun h => h) (fun h => h) (fun h => h))
  have HT := Lib.hid ht0
  have HS := Lib.hid hs
  clear q hv ht0 hs
  have c1 := HQ.out.c1
  have c2 := HQ.out.c2
  obtain ⟨rm, hrm⟩ : ∃ rm, rm = m.room := ⟨_, rfl⟩
  rw [← hrm] at c1 hr64
  have HRM := Lib.hid hrm
  clear hrm
  by_cases hc : N < rm
  · have hd1 : decide (N < rm) = true := decide_eq_true hc
    have hd2 : decide ((N : Int) < (rm : Int)) = true := decide_eq_true (by omega)
    have HC := Lib.hid hc
    clear hc
    go_enter Try.func34, Try.ntmps34
    go_upto_region 1 with fail
    rw [← hw0]
    clear hw0
    generalize w.heap.size = b at *
    go_quiet (fail)
    go_wp2_with fail
    go_ret2
    exact ⟨.room (by rw [← HRM.out]; exact HC.out) h rfl (HQ.out.keep (turn_drewN _ _ _)) (HV.out.turn (turn_drewN (fun _ => False) _ _) (fun h => h) (fun h => h) (fun h => h)), (HT.out.trans (turn_drewN _ _ _)).mono (fun _ h => absurd h (fun h => h))⟩
  · have hd1 : decide (N < rm) = false := decide_eq_false hc
    have hd2 : decide ((N : Int) < (rm : Int)) = false := decide_eq_false (by omega)
    have HC := Lib.hid hc
    clear hc
    go_enter Try.func34, Try.ntmps34
    go_upto_region 1 with fail
    rw [← hw0]
    clear hw0
    generalize w.heap.size = b at *
    go_quiet (fail)
    clear c1 c2 hd1 hd2
    have HQ1 := Lib.hid (HQ.out.keep (turn_drewN (fun _ => False) w0 nq))
    have HV1 := Lib.hid (HV.out.turn (turn_drewN (fun _ => False) w0 nq) (fun h => h) (fun h => h) (fun h => h))
    have HT1 := Lib.hid (HT.out.trans (turn_drewN (fun _ => False) w0 nq))
    have HCB := Lib.hid ((turn_drewN (fun _ => False) w0 nq).cell cb (fun h => h))
    clear HQ HV HT cb
    generalize World.drewN w0 nq = w1 at *
    have HA := Lib.hid (turn_any HQ1.out HCB.out (fun h => HBT.out (.inl h)))
    have cb1 := HCB.out
    go_wp2_with fail
    clear cb1
    refine HA.out.mono ?_
    rintro e w2 ⟨ho, ht2⟩
    have HV2 := Lib.hid (HV1.out.turn ht2 (fun h => HQ1.out.off HV1.out p h (.inl rfl)) (fun h => HQ1.out.off HV1.out L h (.inr (.inl rfl))) (fun h => HQ1.out.off HV1.out M h (.inr (.inr rfl))))
    have HCB2 := Lib.hid (ht2.cell HCB.out (fun h => HBT.out (.inl h)))
    have HT2 : Hid (Turn (PX v A (l.map Fq.g) p L M) w w2) := Lib.hid ((HT1.out.mono (fun _ h => absurd h (fun h => h))).trans (ht2.mono (fun _ h => .inl h)))
    have HO := Lib.hid ho
    clear ho ht2 HA HQ1 HV1 HT1 HCB
    rcases HO.out with ⟨l', h', j, x, rfl, hs, hx, hm, hp⟩ | ⟨l', h', rfl, hs, hn, hp⟩
    · have hj : j < N := by have := (List.getElem?_eq_some_iff.1 hx).1; have := hp.len; omega
      have hdj : decide ((j : Int) < 0) = false := decide_eq_false (by omega)
      have hdi : (j : Int) < (N : Int) := by omega
      obtain ⟨g0, hA, _, cg⟩ := hp.at_ hx
      have hxm := List.mem_of_getElem? hx
      have hTx : Tq v A (l.map Fq.g) x.g := .inr (.inr (by rw [← hs.gs]; exact List.mem_map.2 ⟨x, hxm, rfl⟩))
      have hnx : ∀ k, (k = x.g ∨ DS p L M k) → PX v A (l.map Fq.g) p L M k := fun k hk => by
        rcases hk with e | e
        · rw [e]; exact .inl hTx
        · exact .inr e
      have kb : ∀ V, Turn (fun k => k = x.g ∨ DS p L M k) w2 V → V.cell? ⟨b, 0, none⟩ = some (ptr v) := fun V hV => hV.cell HCB2.out (fun h => HBT.out (hnx _ h))
      have hnv : ¬ (v = x.g ∨ DS p L M v) := fun h => by
        rcases h with e | e
        · exact hp.nv hxm e.symm
        · exact hp.off HV2.out v (.inl rfl) e
      have hng : ¬ (g0 = x.g ∨ DS p L M g0) := fun h => by
        rcases h with e | e
        · exact (hp.nr hA).2 x hxm e.symm
        · exact hp.off HV2.out g0 (.inr (.inl ⟨0, hA⟩)) e
      have c2 := hp.c2
      rw [hA] at c2
      have k2 : ∀ V, Turn (fun k => k = x.g ∨ DS p L M k) w2 V → V.cell? ⟨v, 2, none⟩ = some (.slice (some ⟨g0, 0, none⟩) N c) := fun V hV => hV.cell c2 hnv
      have kg : ∀ V, Turn (fun k => k = x.g ∨ DS p L M k) w2 V → V.cell? ⟨g0, j, none⟩ = some (ptr x.g) := fun V hV => hV.cell cg hng
      have HLY := Lib.hid ((lay_any (hp.keep (Turn.refl _ w2).drew) (HV2.out.turn (S := fun _ => False) (Turn.refl _ w2).drew (fun h => h) (fun h => h) (fun h => h)) HS.out hxm).mono (R' := fun e w' => (e = .returned (.int .i64 (layE D x)) ∧ Turn (fun k => k = x.g ∨ DS p L M k) (World.drew w2) w') ∧ LayOut (World.drew w2) p L M D x e w') (fun e w' o => ⟨o.ends, o⟩))
      obtain ⟨E, hE⟩ : ∃ E, E = layE D x := ⟨_, rfl⟩
      rw [← hE] at HLY
      have HE := Lib.hid hE
      have HP := Lib.hid hp
      have HX := Lib.hid hx
      have HM := Lib.hid hm
      have HSM := Lib.hid hs
      have HXG := Lib.hid hnx
      obtain ⟨g, hg⟩ : ∃ g, g = x.g := ⟨_, rfl⟩
      rw [← hg] at HLY kb k2 kg
      have HG := Lib.hid hg
      clear hE hp hx hm hs hnx hg hTx hxm hA cg c2 hnv hng HO
      go_upto_region 6 with fail
      refine wp_region_turn (X := (fun k => k = g ∨ DS p L M k)) (by kernel_rfl) ?_
      have hS : Turn (fun k => k = g ∨ DS p L M k) w2 (World.drew w2) := (Turn.refl _ _).drew
      refine wpAnyH_take (i := 0) (oi := ⟨some 25, _, _, _, _, _⟩) (v := ?_) rfl (by kernel_rfl) (by kernel_rfl) (by kernel_rfl) (fun _ _ _ h => h) (Or.inl ⟨by rfl, ?_⟩) hS ?_
      rotate_left
      · intro W hW; go_simp; with_reducible rfl
      try simp only [Act.put, List.setIfInBounds_toArray, List.set_cons_zero, List.set_cons_succ]
      refine wpAnyH_take (i := 1) (oi := ⟨some 26, _, _, _, _, _⟩) (v := ?_) rfl (by kernel_rfl) (by kernel_rfl) (by kernel_rfl) (fun _ _ _ h => h) (Or.inl ⟨by rfl, ?_⟩) hS ?_
      rotate_left
      · intro W hW; go_simp; with_reducible rfl
      try simp only [Act.put, List.setIfInBounds_toArray, List.set_cons_zero, List.set_cons_succ]
      refine wpAnyH_take (i := 2) (oi := ⟨some 27, _, _, _, _, _⟩) (v := ?_) rfl (by kernel_rfl) (by kernel_rfl) (by kernel_rfl) (fun _ _ _ h => h) (Or.inl ⟨by rfl, ?_⟩) hS ?_
      rotate_left
      · intro W hW; go_simp; with_reducible rfl
      try simp only [Act.put, List.setIfInBounds_toArray, List.set_cons_zero, List.set_cons_succ]
      refine wpAnyH_take (i := 3) (oi := ⟨some 28, _, _, _, _, _⟩) (v := ?_) rfl (by kernel_rfl) (by kernel_rfl) (by kernel_rfl) (fun _ _ _ h => h) (Or.inl ⟨by rfl, ?_⟩) hS ?_
      rotate_left
      · intro W hW; go_simp; with_reducible rfl
      try simp only [Act.put, List.setIfInBounds_toArray, List.set_cons_zero, List.set_cons_succ]
      refine wpAnyH_take (i := 4) (oi := ⟨some 29, _, _, _, _, _⟩) (v := ?_) rfl (by kernel_rfl) (by kernel_rfl) (by kernel_rfl) (fun _ _ _ h => h) (Or.inl ⟨by rfl, ?_⟩) hS ?_
      rotate_left
      · intro W hW; go_simp; with_reducible rfl
      try simp only [Act.put, List.setIfInBounds_toArray, List.set_cons_zero, List.set_cons_succ]
      refine wpAnyH_take (i := 5) (oi := ⟨some 30, _, _, _, _, _⟩) (v := ?_) rfl (by kernel_rfl) (by kernel_rfl) (by kernel_rfl) (fun _ _ _ h => h) (Or.inl ⟨by rfl, ?_⟩) hS ?_
      rotate_left
      · intro W hW; go_simp; with_reducible rfl
      try simp only [Act.put, List.setIfInBounds_toArray, List.set_cons_zero, List.set_cons_succ]
      refine wpAnyH_take (i := 6) (oi := ⟨some 31, _, _, _, _, _⟩) (v := ?_) rfl (by kernel_rfl) (by kernel_rfl) (by kernel_rfl) (fun _ _ _ h => h) (Or.inl ⟨by rfl, ?_⟩) hS ?_
      rotate_left
      · intro W hW; go_simp; with_reducible rfl
      try simp only [Act.put, List.setIfInBounds_toArray, List.set_cons_zero, List.set_cons_succ]
      refine wpAnyH_take (i := 7) (oi := ⟨some 32, _, _, _, _, _⟩) (v := ?_) rfl (by kernel_rfl) (by kernel_rfl) (by kernel_rfl) (fun _ _ _ h => h) (Or.inl ⟨by rfl, ?_⟩) hS ?_
      rotate_left
      · intro W hW; go_simp; with_reducible rfl
      try simp only [Act.put, List.setIfInBounds_toArray, List.set_cons_zero, List.set_cons_succ]
      refine wpAnyH_take (i := 8) (oi := ⟨some 33, _, _, _, _, _⟩) (v := ?_) rfl (by kernel_rfl) (by kernel_rfl) (by kernel_rfl) (fun _ _ _ h => h) (Or.inl ⟨by rfl, ?_⟩) hS ?_
      rotate_left
      · intro W hW; go_simp; with_reducible rfl
      try simp only [Act.put, List.setIfInBounds_toArray, List.set_cons_zero, List.set_cons_succ]
      refine wpAnyH_ready (rs := [9]) (by kernel_rfl) (by simp) ?_
      refine AllReadyH.cons (o := ⟨some 34, _, _, _, _, _⟩) rfl (fun Kr hKr => ?_) AllReadyH.nil
      -- operation 9: a call
      go_simp
      refine HLY.out.mono ?_
      rintro e w3 ⟨⟨rfl, ht3⟩, ho⟩
      have HO := Lib.hid ho
      have HT3 := Lib.hid ht3
      clear ho
      show Kr _ _
      refine hKr.out _ _ ?_ (fun _ => ?_)
      · exact Turn.trans hS ht3
      clear hKr Kr
      refine wpAnyH_turn (Turn.trans hS ht3) ?_
      clear hS
      have hS : Turn (fun k => k = g ∨ DS p L M k) w3 w3 := Turn.refl _ _
      try simp only [Act.put, List.setIfInBounds_toArray, List.set_cons_zero, List.set_cons_succ]
      refine wpAnyH_take (i := 10) (oi := ⟨some 2, _, _, _, _, _⟩) (v := ?_) rfl (by kernel_rfl) (by kernel_rfl) (by kernel_rfl) (fun _ _ _ h => h) (Or.inl ⟨by rfl, ?_⟩) hS ?_
      rotate_left
      · intro W hW; go_simp; with_reducible rfl
      try simp only [Act.put, List.setIfInBounds_toArray, List.set_cons_zero, List.set_cons_succ]
      refine wpAnyH_take (i := 11) (oi := ⟨some 3, _, _, _, _, _⟩) (v := ?_) rfl (by kernel_rfl) (by kernel_rfl) (by kernel_rfl) (fun _ _ _ h => h) (Or.inl ⟨by rfl, ?_⟩) hS ?_
      rotate_left
      · intro W hW; go_simp; with_reducible rfl
      try simp only [Act.put, List.setIfInBounds_toArray, List.set_cons_zero, List.set_cons_succ]
      refine wpAnyH_done (by kernel_rfl) ?_ _
      go_wp2_with fail
      go_ret2
      clear hS ht3 k2 kb kg
      have hg := HG.out
      subst hg
      have hxm := List.mem_of_getElem? HX.out
      have hT3 : Turn (fun k => k = x.g ∨ DS p L M k) w2 w3 := (Turn.refl _ w2).drew.trans HT3.out
      refine ⟨?_, HT2.out.trans (hT3.mono HXG.out)⟩
      have hcc : m.room ≤ N := by rw [← HRM.out]; have := HC.out; omega
      rcases HO.out with ⟨hd, he, ht⟩ | ⟨hd, hE, he, hv, hf, ht⟩ | ⟨hd, hE, he, hv, ht⟩
      · have e0 : E = 0 := by injection he with he; injection he
        subst e0
        exact .clean hcc l' h' j x HSM.out HX.out HM.out hd rfl ((HP.out.keep (Turn.refl _ _).drew).keep ht) ((HV2.out.turn (S := fun _ => False) (Turn.refl _ w2).drew (fun h => h) (fun h => h) (fun h => h)).turn ht (fun h => h) (fun h => h) (fun h => h))
      · have e0 : E = 0 := by injection he with he; injection he
        subst e0
        obtain ⟨f, hfm, _⟩ := HP.out.ring.has x hxm
        refine .wrote hcc l' h' j x HSM.out HX.out HM.out hd hE f hfm rfl ?_ hv
        exact HP.out.updS HX.out rfl hT3 (fun k hk hne hS => by
          rcases hS with e | e
          · exact hne e
          · exact HP.out.off HV2.out k hk e) hf.bk (HP.out.ring.wash HX.out hfm) rfl rfl rfl
      · have e0 : E = D.writeE (x.at_ : Int) x.b := by injection he with he; injection he
        subst e0
        exact .fails hcc l' h' j x HSM.out HX.out HM.out hd hE rfl ((HP.out.keep (Turn.refl _ _).drew).turn ht (fun k hk e => HP.out.off HV2.out k hk e)) hv
    · have HP := Lib.hid hp
      have HSM := Lib.hid hs
      have HN := Lib.hid hn
      clear hp hs hn HO
      go_wp2_with fail
      go_ret2
      exact ⟨.full (by rw [← HRM.out]; have := HC.out; omega) HN.out l' h' HSM.out rfl HP.out HV2.out, HT2.out⟩
end
end Go.Proofs.Ytnpgmiokimahiaa
