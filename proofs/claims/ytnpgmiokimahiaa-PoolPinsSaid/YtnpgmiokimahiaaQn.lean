/-
  Clean, over what 'rising' answers.
-/
import Derived.Test.YtnpgmiokimahiaaQm
namespace Go.Proofs.Ytnpgmiokimahiaa
set_option maxRecDepth 100000
set_option linter.unusedVariables false
set_option linter.unusedSimpArgs false
open Go.RowKit Pl

section
variable {w W : World} {p n v L M : Nat} {m m' : Pm} {l l' : List Fq} {A : Option Addr} {N c h h' : Nat} {x y : Fq} {j : Nat} {D D' : Dv}

/-- each frame still stands where it stood, for the same sector -/
def Stay (l l' : List Fq) : Prop := ∀ x ∈ l, ∃ (j : Nat) (y : Fq), l'[j]? = some y ∧ y.g = x.g ∧ y.at_ = x.at_
theorem Stay.set (s : Stay l l') (hx : l'[j]? = some x) (hg : y.g = x.g) (ha : y.at_ = x.at_) : Stay l (l'.set j y) := by
  intro z hz
  obtain ⟨k, u, h1, h2, h3⟩ := s z hz
  by_cases e : j = k
  · subst e
    rw [hx] at h1
    injection h1 with h1
    subst h1
    exact ⟨j, y, set_getElem_mem _ hx, hg.trans h2, ha.trans h3⟩
  · exact ⟨k, u, by rw [List.getElem?_set, if_neg e]; exact h1, h2, h3⟩

/-- a sector that is not written -/
theorem clean_skip {s : Int} {i : Nat} {r : List Nat} {F : Nat → Option Fr} {f : Fr} (hf : F i = some f) (hn : ¬ (f.dirty = true ∧ f.lsn ≤ s)) : cleanTo s (i :: r) D F = cleanTo s r D F := by
  simp only [cleanTo, hf]
  rw [if_neg hn]
theorem clean_write {s : Int} {i : Nat} {r : List Nat} {F : Nat → Option Fr} {f : Fr} (hf : F i = some f) (hn : f.dirty = true ∧ f.lsn ≤ s) (hE : D.writeE i f.b = 0) : cleanTo s (i :: r) D F = cleanTo s r (D.write i f.b) (upd F i (some { f with dirty := false })) := by
  simp only [cleanTo, hf]
  rw [if_pos hn, if_pos hE]
theorem clean_fail {s : Int} {i : Nat} {r : List Nat} {F : Nat → Option Fr} {f : Fr} (hf : F i = some f) (hn : f.dirty = true ∧ f.lsn ≤ s) (hE : D.writeE i f.b ≠ 0) : cleanTo s (i :: r) D F = (D.writeE i f.b, D.write i f.b, F) := by
  simp only [cleanTo, hf]
  rw [if_pos hn, if_neg hE]

theorem drop_cons_at {l : List Fq} {k : Nat} {x : Fq} (hx : l[k]? = some x) : (l.drop k).map Fq.at_ = x.at_ :: (l.drop (k + 1)).map Fq.at_ := by
  obtain ⟨hk, e⟩ := List.getElem?_eq_some_iff.1 hx
  rw [List.drop_eq_getElem_cons hk, e]
  rfl

set_option maxHeartbeats 4000000 in
theorem clean_any (HRI : RisingOk) : CleanOk lay := by
  intro w p L M v D m T hp
  obtain ⟨l, A, N, c, h, q, rfl⟩ := hp.pat
  have HR := Lib.hid (HRI w p D.n v m l A N c h q)
  have HQ := Lib.hid q
  have HV := Lib.hid hp.dev
  have HS := Lib.hid hp.spent
  have hle := q.le.1
  have HSF := Lib.hid q.ring.ok.safe
  have HCK := Lib.hid (clean_keys D m)
  obtain ⟨s, hs⟩ : ∃ s, s = m.safe := ⟨_, rfl⟩
  rw [← hs] at HSF HCK
  have HSS := Lib.hid hs
  obtain ⟨res, hres⟩ : ∃ res, res = clean D m := ⟨_, rfl⟩
  rw [← hres] at HCK ⊢
  clear hp q HRI hs hres
  go_enter Try.func14, Try.ntmps14
  go_wp2_with fail
  refine HR.out.mono ?_
  rintro e w1 ⟨l2, A2, c2, rfl, hro⟩
  have HRO := Lib.hid hro
  have HL2 : Hid (l2.length = N) := Lib.hid (by rw [hro.perm.length_eq]; exact HQ.out.len)
  have hkp := HQ.out.keep (Turn.ofBelow hro.new)
  have HV1 := Lib.hid (HV.out.turn (S := fun _ => False) (Turn.ofBelow hro.new) (fun h => h) (fun h => h) (fun h => h))
  have HQ1 := Lib.hid hkp
  have HC0 : Hid (res = cleanTo s (l2.map Fq.at_) D m.F) := Lib.hid (by rw [HQ.out.ring.sorted hro.perm hro.up]; exact HCK.out)
  have HT1 : Hid (Turn (PX v A (l.map Fq.g) p L M) w w1) := Lib.hid (Turn.ofBelow hro.new)
  clear hro HR hkp HCK
  go_wp2_with fail
  go_loopg [4, 5, 11] N (fun gn _ _ i wr => ∃ (k : Nat) (Dk : Dv) (Fk : Nat → Option Fr) (lk : List Fq), i = .int .i64 (k : Int) ∧ k + gn = N ∧ Hid (PoolAt wr p Dk.n v { m with F := Fk } lk A N c h) ∧ Hid (IsDev wr p L M Dk) ∧ Hid (Dk.spent ≤ D.spent + k) ∧ Hid (Dk.n = D.n) ∧ Hid (lk.map Fq.g = l.map Fq.g) ∧ Hid (Stay l lk) ∧
    Hid (res = cleanTo s ((l2.drop k).map Fq.at_) Dk Fk) ∧ Hid (Turn (PX v A (l.map Fq.g) p L M) w1 wr))
  case atStart => exact ⟨0, D, m.F, l, rfl, by omega, HQ1, HV1, Lib.hid (by omega), Lib.hid rfl, Lib.hid rfl, Lib.hid (fun x hx => by obtain ⟨j, hj⟩ := List.mem_iff_getElem?.1 hx; exact ⟨j, x, hj, rfl, rfl⟩), HC0, Lib.hid (Turn.refl _ _)⟩
  case round =>
    clear HQ1 HV1 HC0
    obtain ⟨k, Dk, Fk, lk, rfl, hog, HQk, HVk, HSk, HNk, HGk, HYk, HCk, HTk⟩ := hrel
    rcases Nat.lt_or_ge k N with hlt | hge
    · have hd1 : decide (k < N) = true := decide_eq_true hlt
      have hd2 : decide ((k : Int) < (N : Int)) = true := decide_eq_true (by omega)
      have hki : (k : Int) < (N : Int) := by omega
      obtain ⟨x, hx⟩ : ∃ x, l2[k]? = some x := ⟨_, List.getElem?_eq_getElem (by have := HL2.out; omega)⟩
      have hxm : x ∈ l := HRO.out.perm.mem_iff.1 (List.mem_of_getElem? hx)
      obtain ⟨j, y, hy, hyg, hya⟩ := HYk.out x hxm
      obtain ⟨g, o, hA, hgw, hgl, hcg⟩ := HRO.out.row k x hx
      subst hA
      have hgn : ¬ PX v A (l.map Fq.g) p L M g := fun hk => by
        rcases hk with hk | hk
        · have := HQ.out.lt g hk; omega
        · have h1 := HV.out.lt
          rcases hk with e | e | e <;> omega
      have cg := HTk.out.cell hcg hgn
      rw [← hyg] at cg
      have hym := List.mem_of_getElem? hy
      obtain ⟨f, hf, hag⟩ := HQk.out.ring.has y hym
      have hfa := HQk.out.f hym
      have f66 := hfa.c66
      have c40 := HQk.out.c4
      have hce := HCk.out
      rw [drop_cons_at hx, ← hya] at hce
      have HCE := Lib.hid hce
      have HY := Lib.hid hy
      have HF := Lib.hid hf
      have HAG := Lib.hid hag
      have HSM := Lib.hid hfa
      have c4 : wr.cell? ⟨v, 4, none⟩ = some (.int .i64 s) := by rw [HSS.out]; exact c40
      obtain ⟨u, hu⟩ : ∃ u, u = y.lsn := ⟨_, rfl⟩
      rw [← hu] at f66
      have HU := Lib.hid hu
      obtain ⟨yg, hyg2⟩ : ∃ yg, yg = y.g := ⟨_, rfl⟩
      rw [← hyg2] at cg f66
      have HYG := Lib.hid hyg2
      clear hx hxm hy hyg hya hgw hgl hcg hgn hym hf hag hfa hce hu HCk hyg2 c40
      by_cases hsl : s < u
      · have hdg : decide (s < u) = true := decide_eq_true hsl
        have HSL := Lib.hid hsl
        clear hsl
        go_upto_region 6 with fail
        go_quiet (fail)
        go_wp2_with fail
        go_roundg (gk - 1)
        case measure => omega
        case rel =>
          have ht := turn_drewN (fun _ => False) wr nq
          refine ⟨k + 1, Dk, Fk, lk, by go_num, by omega, Lib.hid (HQk.out.keep ht), Lib.hid (HVk.out.turn ht (fun h => h) (fun h => h) (fun h => h)), Lib.hid (by have := HSk.out; omega), HNk, HGk, HYk, Lib.hid ?_, Lib.hid (HTk.out.trans (turn_drewN _ _ _))⟩
          have hc := HCE.out
          rw [clean_skip HF.out (fun hn => by
            have h1 := HAG.out.lsn
            rw [← HAG.out.dirty, if_pos hn.1, ← HU.out] at h1
            have := HSL.out
            omega)] at hc
          exact hc
      · have hdg : decide (s < u) = false := decide_eq_false hsl
        have HSL : Hid (u ≤ s) := Lib.hid (by omega)
        clear hsl
        go_upto_region 6 with fail
        go_quiet (fail)
        clear f66 c4
        have ht0 := turn_drewN (fun _ => False) wr nq
        have HQ3 := Lib.hid (HQk.out.keep ht0)
        have HV3 := Lib.hid (HVk.out.turn ht0 (fun h => h) (fun h => h) (fun h => h))
        have HT3 : Hid (Turn (PX v A (l.map Fq.g) p L M) w1 (wr.drewN nq)) := Lib.hid (HTk.out.trans (turn_drewN _ _ _))
        clear ht0 HQk HVk HTk cg HSM
        generalize World.drewN wr nq = w3 at *
        have HLY := Lib.hid (lay_any HQ3.out HV3.out (by have := HSk.out; have := HS.out; omega) (List.mem_of_getElem? HY.out))
        have hyg := HYG.out
        subst hyg
        go_wp2_with fail
        refine HLY.out.mono ?_
        rintro e w4 ho
        have hgt : Tq v A (l.map Fq.g) y.g := .inr (.inr (by rw [← HGk.out]; exact List.mem_map.2 ⟨y, List.mem_of_getElem? HY.out, rfl⟩))
        have HGT := Lib.hid hgt
        clear hgt
        rcases ho with ⟨hd, rfl, ht⟩ | ⟨hd, hE, rfl, hv, hf, ht⟩ | ⟨hd, hE, rfl, hv, ht⟩
        · have HD := Lib.hid hd
          have HT := Lib.hid ht
          clear hd ht
          go_wp2_with fail
          go_roundg (gk - 1)
          case measure => omega
          case rel =>
            refine ⟨k + 1, Dk, Fk, lk, by go_num, by omega, Lib.hid (HQ3.out.keep HT.out), Lib.hid (HV3.out.turn HT.out (fun h => h) (fun h => h) (fun h => h)), Lib.hid (by have := HSk.out; omega), HNk, HGk, HYk, Lib.hid ?_, Lib.hid (HT3.out.trans (HT.out.mono (fun _ h => absurd h (fun h => h))))⟩
            have hc := HCE.out
            rw [clean_skip HF.out (fun hn => by
              have h1 := HAG.out.dirty
              rw [hn.1, HD.out] at h1
              cases h1)] at hc
            exact hc
        · have HD := Lib.hid hd
          have HT := Lib.hid ht
          have HE := Lib.hid hE
          have HV4 := Lib.hid hv
          have HF4 := Lib.hid hf
          clear hd ht hE hv hf
          go_wp2_with fail
          go_roundg (gk - 1)
          case measure => omega
          case rel =>
            have hdm : f.dirty = true ∧ f.lsn ≤ s := ⟨HAG.out.dirty.trans HD.out, by
              have h1 := HAG.out.lsn
              rw [if_pos HD.out, ← HU.out] at h1
              have := HSL.out
              omega⟩
            have hc := HCE.out
            rw [clean_write HF.out hdm (by rw [HAG.out.b]; exact HE.out), show Dk.write (y.at_ : Int) f.b = Dk.write (y.at_ : Int) y.b by rw [HAG.out.b]] at hc
            have hup := HQ3.out.updS (y := washQ y) (m' := { m with F := upd Fk y.at_ (some { f with dirty := false }) }) HY.out rfl HT.out (fun q hq hne hS => by
              rcases hS with e | e
              · exact hne e
              · exact HQ3.out.off HV3.out q hq e) HF4.out.bk (HQ3.out.ring.wash HY.out HF.out) rfl rfl rfl
            exact ⟨k + 1, Dk.write (y.at_ : Int) y.b, _, lk.set j (washQ y), by go_num, by omega, Lib.hid (hup.cast (Dv.write_n _ _)), HV4, Lib.hid (by have := HSk.out; have := Dv.write_spent (D := Dk) (y.at_ : Int) y.b; omega), Lib.hid ((Dv.write_n _ _).trans HNk.out),
              Lib.hid ((upd_gs (y := washQ y) HY.out rfl).trans HGk.out), Lib.hid (HYk.out.set (y := washQ y) HY.out rfl rfl), Lib.hid hc, Lib.hid (HT3.out.trans (HT.out.mono (fun q hq => by
                rcases hq with e | e
                · rw [e]; exact .inl HGT.out
                · exact .inr e)))⟩
        · have HD := Lib.hid hd
          have HT := Lib.hid ht
          have HV4 := Lib.hid hv
          have hdm : f.dirty = true ∧ f.lsn ≤ s := ⟨HAG.out.dirty.trans hd, by
            have h1 := HAG.out.lsn
            rw [if_pos hd, ← HU.out] at h1
            have := HSL.out
            omega⟩
          have hc := HCE.out
          rw [clean_fail HF.out hdm (by rw [HAG.out.b]; exact hE), HAG.out.b] at hc
          have HC := Lib.hid hc
          have e1 : (Dk.writeE (y.at_ : Int) y.b == 0) = false := by simpa using hE
          have e2 : (Dk.writeE (y.at_ : Int) y.b != 0) = true := by simpa using hE
          have HP4 := Lib.hid ((HQ3.out.turn ht (fun q hq e => HQ3.out.off HV3.out q hq e)).cast (Dv.write_n (y.at_ : Int) y.b))
          clear hd ht hv hdm hc hE
          generalize Dk.writeE (y.at_ : Int) y.b = E at *
          generalize Dk.write (y.at_ : Int) y.b = D4 at *
          go_wp2_with fail
          go_ret
          have hc := HC.out
          subst hc
          exact ⟨_, rfl, PoolAt.nx (l := l) (A := A) HP4.out HV4.out (fun q hq => .inl (by rw [HGk.out] at hq; exact hq)) (HT1.out.trans (HT3.out.trans (HT.out.mono (fun _ h => .inr h))))⟩
    · obtain rfl : k = N := by omega
      have hd1 : decide (k < k) = false := decide_eq_false (by omega)
      have hd2 : decide ((k : Int) < (k : Int)) = false := decide_eq_false (by omega)
      go_wp2_with fail
      go_ret
      have hc := HCk.out
      rw [show l2.drop k = [] from List.drop_eq_nil_of_le (by have := HL2.out; omega)] at hc
      have hc : res = (0, Dk, Fk) := hc
      subst hc
      exact ⟨_, rfl, PoolAt.nx (l := l) (A := A) HQk.out HVk.out (fun q hq => .inl (by rw [HGk.out] at hq; exact hq)) (HT1.out.trans HTk.out)⟩
end
end Go.Proofs.Ytnpgmiokimahiaa
