/-
  The hand: what its closure asks of a frame, and its way, twice round at most.
-/
import Derived.Test.YtnpgmiokimahiaaQd
namespace Go.Proofs.Ytnpgmiokimahiaa
set_option maxRecDepth 100000
set_option linter.unusedVariables false
set_option linter.unusedSimpArgs false
open Go.RowKit Pl

section
variable {w W : World} {p n v : Nat} {m m' : Pm} {l l' : List Fq} {A : Option Addr} {N c h h' : Nat} {x y : Fq} {j : Nat}

/-- what the closure answers, and does -/
inductive AskOut (w : World) (p n v : Nat) (m : Pm) (l : List Fq) (A : Option Addr) (N c h j : Nat) (x : Fq) (e : Ending) (w' : World) : Prop
  | stays (hm : mayF m.safe x = false) (he : e = .returned (.bool false)) (hp : PoolAt w' p n v m l A N c h) (ht : Turn (fun _ => False) w w')
  | may (hm : mayF m.safe x = true) (he : e = .returned (.bool (!x.used))) (hp : PoolAt w' p n v m (l.set j (wipe x)) A N c h) (ht : Turn (· = x.g) w w')

theorem ask_any (q : PoolAt w p n v m l A N c h) (hx : l[j]? = some x) {b : Nat} (hb : w.cell? ⟨b, 0, none⟩ = some (ptr v)) :
    Calls Try.prog 41 #[ptr x.g, .pointer (some ⟨b, 0, none⟩)] w (AskOut w p n v m l A N c h j x) := by
  have hxm := List.mem_of_getElem? hx
  have HM := Lib.hid (mayGo_any q hxm)
  have HX := Lib.hid hx
  have HF := Lib.hid (q.f hxm)
  have HQ := Lib.hid q
  clear hx hxm q
  cases hr : mayF m.safe x with
  | false =>
    have HR := Lib.hid hr
    rw [hr] at HM
    clear hr
    go_enter Try.func41, Try.ntmps41
    go_wp2_with fail
    refine HM.out.mono ?_
    rintro e w1 ⟨rfl, ht⟩
    have HT := Lib.hid ht
    clear ht hb
    go_wp2_with fail
    go_ret
    exact .stays HR.out rfl (HQ.out.keep HT.out) HT.out
  | true =>
    have HR := Lib.hid hr
    rw [hr] at HM
    clear hr
    go_enter Try.func41, Try.ntmps41
    go_wp2_with fail
    refine HM.out.mono ?_
    rintro e w1 ⟨rfl, ht⟩
    have HF1 := Lib.hid (HF.out.turn ht (fun h => h))
    have HQ1 := Lib.hid (HQ.out.keep ht)
    have HT := Lib.hid ht
    clear ht hb HF HQ
    have f68 := HF1.out.c68
    have fr68 : w1.frozen? ⟨x.g, 68, none⟩ = false := HF1.out.bk.fr 68
    have HU : Hid (FAt (w1.setCell ⟨x.g, 68, none⟩ (.bool false)) (wipe x)) := Lib.hid (HF1.out.used false)
    have HTU : Hid (Turn (· = x.g) w1 (w1.setCell ⟨x.g, 68, none⟩ (.bool false))) := Lib.hid ((Turn.refl (· = x.g) w1).setCell ⟨x.g, 68, none⟩ _ (.inl rfl))
    generalize hg : x.g = g at *
    generalize hu : x.used = u at *
    have HG := Lib.hid hg
    have HUU := Lib.hid hu
    clear hg hu
    go_wp2_with fail
    go_ret
    refine .may HR.out (by rw [HUU.out]; rfl) ?_ ((HT.out.mono (fun _ h => absurd h (fun h => h))).trans (by rw [HG.out]; exact HTU.out))
    have hg := HG.out
    subst hg
    exact HQ1.out.upd HX.out rfl HTU.out HU.out.bk (HQ1.out.ring.same (Sm.set HX.out rfl)) rfl rfl rfl

/-- what the hand's way answers: where a frame goes, or that none may -/
inductive HandOut (w : World) (p n v : Nat) (m : Pm) (l : List Fq) (A : Option Addr) (N c : Nat) (e : Ending) (w' : World) : Prop
  | goes (l' : List Fq) (h' j : Nat) (x : Fq) (he : e = .returned (.int .i64 (j : Int))) (hs : Sm l l') (hx : l'[j]? = some x) (hm : mayF m.safe x = true) (hp : PoolAt w' p n v m l' A N c h')
  | none (l' : List Fq) (h' : Nat) (he : e = .returned (.int .i64 (-1))) (hs : Sm l l') (hn : ∀ x ∈ l, mayF m.safe x = false) (hp : PoolAt w' p n v m l' A N c h')

theorem hand_step (q : PoolAt w p n v m l A N c h) (k : Nat) (hk : k < N) : PoolAt (w.setCell ⟨v, 3, none⟩ (.int .i64 (k : Int))) p n v m l A N c k :=
  q.struct ((Turn.refl (· = v) w).setCell ⟨v, 3, none⟩ _ (.inl rfl)) (by
    have := heap_setCell_same w v 3 _ _ (.int .i64 (k : Int)) q.bk
    exact this) q.ring (.inr hk)

set_option maxHeartbeats 4000000 in
theorem turn_any (q : PoolAt w p n v m l A N c h) {b : Nat} (hb : w.cell? ⟨b, 0, none⟩ = some (ptr v)) (hbT : ¬ Tq v A (l.map Fq.g) b) :
    Calls Try.prog 40 #[ptr v, .func (.func 41) #[] #[.pointer (some ⟨b, 0, none⟩)]] w fun e w' => HandOut w p n v m l A N c e w' ∧ Turn (Tq v A (l.map Fq.g)) w w' := by
  have c2 := q.c2
  have hle := q.le.1
  have hl := q.len
  have hh := q.hand
  have HB := Lib.hid hb
  have HBT := Lib.hid hbT
  have HMOD : Hid (PoolAt w p n v m l A N c ((h + 0) % N)) := Lib.hid (by
    rcases hh with e | e
    · subst e; rw [Nat.zero_add, Nat.zero_mod]; exact q
    · rw [Nat.add_zero, Nat.mod_eq_of_lt e]; exact q)
  have HH := Lib.hid hh
  have HL := Lib.hid hl
  clear q hb hbT hh hl
  obtain ⟨N2, hN2⟩ : ∃ N2, N2 = 2 * N := ⟨_, rfl⟩
  have hw2 : IntKind.i64.wrap (2 * (N : Int)) = (N2 : Int) := by rw [IntKind.wrap_i64]; omega
  have hw3 : 2 * (N : Int) = (N2 : Int) := by omega
  have HN2 := Lib.hid hN2
  have hle2 : N2 ≤ 128 := by omega
  clear hN2
  go_enter Try.func40, Try.ntmps40
  go_wp2_with fail
  clear hw2 c2 hw3
  go_loopg [5, 12] N2 (fun gn _ i wr => ∃ (k hd : Nat) (l' : List Fq), i = .int .i64 (k : Int) ∧ k + gn = N2 ∧ Hid (hd = (h + k) % N) ∧ Hid (PoolAt wr p n v m l' A N c hd) ∧ Hid (Round m.safe l h k l') ∧ Hid (Turn (Tq v A (l.map Fq.g)) w wr))
  case atStart => exact ⟨0, _, l, rfl, by omega, Lib.hid rfl, HMOD, Lib.hid Round.zero, Lib.hid (Turn.refl _ _)⟩
  case round =>
    clear HMOD
    obtain ⟨k, hd, l', rfl, hog, HHD, HQ, HR, HT⟩ := hrel
    rcases Nat.lt_or_ge k N2 with hlt | hge
    · have hd1 : decide (k < N2) = true := decide_eq_true hlt
      have hd2 : decide ((k : Int) < (N2 : Int)) = true := decide_eq_true (by omega)
      have hN0 : 0 < N := by have := HN2.out; omega
      have hjN : hd < N := by rw [HHD.out]; exact Nat.mod_lt _ hN0
      have hn1 : ¬ N = 0 := by omega
      have hn2 : ¬ (N : Int) = 0 := by omega
      have hn3 : ((N : Int) == 0) = false := by simpa using hn2
      obtain ⟨hx1, hxe⟩ : ∃ hx1, hx1 = (hd + 1) % N := ⟨_, rfl⟩
      have hrm : ((hd : Int) + 1) % (N : Int) = (hx1 : Int) := by rw [hxe]; push_cast; rfl
      have HNX : Hid (hx1 = (h + (k + 1)) % N) := Lib.hid (by rw [hxe, HHD.out, Nat.mod_add_mod, Nat.add_assoc])
      have hx1N : hx1 < N := by rw [hxe]; exact Nat.mod_lt _ hN0
      clear hxe
      have c2 := HQ.out.c2
      have c3 := HQ.out.c3
      have fr3 : wr.frozen? ⟨v, 3, none⟩ = false := HQ.out.bk.fr 3
      go_upto_region 4 with fail
      go_region
      clear c2 c3 fr3 hrm hn1 hn2 hn3
      have HQ1 : Hid (PoolAt (wr.setCell ⟨v, 3, none⟩ (.int .i64 (hx1 : Int))).drew p n v m l' A N c hx1) := Lib.hid ((hand_step HQ.out hx1 hx1N).keep (Turn.refl _ _).drew)
      have HT1 : Hid (Turn (Tq v A (l.map Fq.g)) w (wr.setCell ⟨v, 3, none⟩ (.int .i64 (hx1 : Int))).drew) := Lib.hid (HT.out.setCell ⟨v, 3, none⟩ _ (.inl (.inl rfl))).drew
      clear HQ HT
      generalize (wr.setCell ⟨v, 3, none⟩ (.int .i64 (hx1 : Int))).drew = w1 at *
      have hlen := HL.out
      have hlen2 := HQ1.out.len
      obtain ⟨x, hx⟩ : ∃ x, l'[hd]? = some x := ⟨_, List.getElem?_eq_getElem (by omega)⟩
      obtain ⟨g, hA, _, cg⟩ := HQ1.out.at_ hx
      subst hA
      have HA := Lib.hid (ask_any HQ1.out hx (HT1.out.cell HB.out HBT.out))
      have HX := Lib.hid hx
      have c2 := HQ1.out.c2
      have hdi : (hd : Int) < (N : Int) := by omega
      clear hx hlen hlen2
      go_wp2_with fail
      clear c2 cg
      refine HA.out.mono ?_
      rintro e w2 ho
      have HO := Lib.hid ho
      clear ho HA
      rcases HO.out with ⟨hm, rfl, hp, ht⟩ | ⟨hm, rfl, hp, ht⟩
      · have HM := Lib.hid hm
        have HP := Lib.hid hp
        have HT2 := Lib.hid ht
        clear hm hp ht HO
        go_wp2_with fail
        go_roundg (gk - 1)
        case measure => omega
        case rel =>
          exact ⟨k + 1, hx1, l', by go_num, by omega, HNX, HP, Lib.hid (HR.out.pass (by rw [HL.out, ← HHD.out]; exact HX.out) HM.out), Lib.hid (HT1.out.trans (HT2.out.mono (fun _ h => absurd h (fun h => h))))⟩
      · have HM := Lib.hid hm
        have HP := Lib.hid hp
        have hTq : Tq v (some ⟨g, 0, none⟩) (l.map Fq.g) x.g := .inr (.inr (by rw [← HR.out.sm.gs]; exact List.mem_map.2 ⟨x, List.mem_of_getElem? HX.out, rfl⟩))
        have HT2 := Lib.hid (HT1.out.trans (ht.mono (fun q e => by rw [e]; exact hTq)))
        clear hm hp ht HO hTq
        cases hu : x.used with
        | true =>
          have HU := Lib.hid hu
          clear hu
          go_wp2_with fail
          go_roundg (gk - 1)
          case measure => omega
          case rel =>
            refine ⟨k + 1, hx1, _, by go_num, by omega, HNX, HP, Lib.hid ?_, HT2⟩
            have h1 := HR.out.spare (by rw [HL.out]; exact hN0) (by rw [HL.out, ← HHD.out]; exact HX.out) HM.out HU.out
            rw [HL.out, ← HHD.out] at h1
            exact h1
        | false =>
          have HU := Lib.hid hu
          clear hu
          go_wp2_with fail
          go_ret
          refine ⟨.goes (l'.set hd (wipe x)) hx1 hd (wipe x) rfl (HR.out.sm.trans (Sm.set HX.out rfl)) ?_ HM.out HP.out, HT2.out⟩
          rw [List.getElem?_set, if_pos rfl, if_pos (List.getElem?_eq_some_iff.1 HX.out).1]
    · obtain rfl : k = N2 := by omega
      have hd1 : decide (k < k) = false := decide_eq_false (by omega)
      have hd2 : decide ((k : Int) < (k : Int)) = false := decide_eq_false (by omega)
      clear hge hog
      go_wp2_with fail
      go_ret
      refine ⟨.none l' hd rfl HR.out.sm ?_ HQ.out, HT.out⟩
      have hr := HR.out
      rw [HN2.out, ← HL.out] at hr
      exact hr.twice (by rw [HL.out]; exact HH.out)
end
end Go.Proofs.Ytnpgmiokimahiaa
