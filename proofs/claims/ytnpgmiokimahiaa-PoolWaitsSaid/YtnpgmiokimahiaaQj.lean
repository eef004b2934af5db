/-
  A sector is held: as it is, or read in place of one that goes.
-/
import Derived.Test.YtnpgmiokimahiaaQi
namespace Go.Proofs.Ytnpgmiokimahiaa
set_option maxRecDepth 100000
set_option linter.unusedVariables false
set_option linter.unusedSimpArgs false
open Go.RowKit Pl

section
variable {w W : World} {p n v L M : Nat} {m m' : Pm} {l l' : List Fq} {A : Option Addr} {N c h h' : Nat} {x y : Fq} {j : Nat} {D : Dv}

/-- what 'use' answers, and leaves -/
def UseOut (w : World) (p v L M : Nat) (D : Dv) (m : Pm) (l : List Fq) (A : Option Addr) (a : Int) (e : Ending) (w' : World) : Prop :=
  ∃ (E : Int) (D' : Dv) (m' : Pm) (l' : List Fq) (A' : Option Addr) (N' c' h' : Nat), Hold D m a E D' m' ∧ PoolAt w' p D'.n v m' l' A' N' c' h' ∧ IsDev w' p L M D' ∧ (∀ k, Tq v A' (l'.map Fq.g) k → Tq v A (l.map Fq.g) k ∨ w.heap.size ≤ k) ∧ Turn (PX v A (l.map Fq.g) p L M) w w' ∧
    ((E = 0 ∧ ∃ (j : Nat) (x : Fq), l'[j]? = some x ∧ a = (x.at_ : Int) ∧ e = .returned (.tuple #[ptr x.g, .int .i64 0])) ∨ (E ≠ 0 ∧ e = .returned (.tuple #[.pointer none, .int .i64 E])))

theorem wash_drop (m : Pm) (i : Nat) (f : Fr) : (m.set i f).drop i = m.drop i := by
  unfold Pm.set Pm.drop
  congr 1
  funext k
  by_cases e : k = i
  · subst e; rw [upd_same, upd_same]
  · rw [upd_ne _ _ e, upd_ne _ _ e]; exact upd_ne _ _ e

theorem set_getElem_mem {l : List Fq} {j : Nat} {x : Fq} (z : Fq) (hx : l[j]? = some x) : (l.set j z)[j]? = some z := by
  rw [List.getElem?_set, if_pos rfl, if_pos (List.getElem?_eq_some_iff.1 hx).1]

/-- what a place and a read come to -/
theorem use_end {w1 w2 : World} {e : Ending} {i : Nat} (q : PoolAt w p D.n v m l A N c h) (hgone : D.gone = false) (hi : i < D.n) (hf : m.F i = none) {l1 : List Fq} {m1 : Pm} {h1 pl : Nat} {D1 : Dv}
    (hs : (l1.map Fq.g) = l.map Fq.g) (q1 : PoolAt w1 p D1.n v m1 l1 A N c h1) (ht : Turn (PX v A (l.map Fq.g) p L M) w w1) (hg : GotOut w1 p v L M D1 m1 l1 A N c h1 i pl e w2) (ht2 : Turn (Tq v A (l1.map Fq.g)) w1 w2)
    (hadd : pl = N → Hold D m (i : Int) 0 D1 (m1.take D1 i)) (hover : ∀ x, l1[pl]? = some x → Hold D m (i : Int) 0 D1 ((m1.drop x.at_).take D1 i)) :
    UseOut w p v L M D m l A (i : Int) e w2 := by
  have ht3 : Turn (PX v A (l.map Fq.g) p L M) w w2 := ht.trans (ht2.mono (fun k hk => .inl (by rw [hs] at hk; exact hk)))
  rcases hg with ⟨hpl, g, c', A', he, hg, hp, hv, hA⟩ | ⟨x, hx, g, he, hg, hp, hv⟩
  · refine ⟨0, D1, _, _, A', N + 1, c', h1, hadd hpl, hp, hv, fun k hk => ?_, ht3, .inl ⟨rfl, l1.length, newQ D1 g i, by simp, rfl, he⟩⟩
    rcases hk with hk | hk | hk
    · exact .inl (.inl hk)
    · rcases hA k hk with h2 | h2
      · exact .inl (.inr (.inl h2))
      · exact .inr (Nat.le_trans ht.size h2)
    · rw [List.map_append] at hk
      rcases List.mem_append.1 hk with hk | hk
      · rw [hs] at hk; exact .inl (.inr (.inr hk))
      · have e : k = g := by simpa [newQ] using hk
        right
        rw [e]
        exact Nat.le_trans ht.size hg
  · refine ⟨0, D1, _, _, A, N, c, h1, hover x hx, hp, hv, fun k hk => ?_, ht3, .inl ⟨rfl, pl, newQ D1 g i, set_getElem_mem _ hx, rfl, he⟩⟩
    rcases hk with hk | hk | hk
    · exact .inl (.inl hk)
    · exact .inl (.inr (.inl hk))
    · obtain ⟨z, hz, rfl⟩ := List.mem_map.1 hk
      rcases List.mem_or_eq_of_mem_set hz with hz | rfl
      · exact .inl (.inr (.inr (by rw [← hs]; exact List.mem_map.2 ⟨z, hz, rfl⟩)))
      · exact .inr (Nat.le_trans ht.size hg)

theorem GotOut.ends {w w' : World} {i pl : Nat} {e : Ending} (o : GotOut w p v L M D m l A N c h i pl e w') : ∃ g, e = .returned (.tuple #[ptr g, .int .i64 0]) := by
  rcases o with ⟨_, g, _, _, he, _⟩ | ⟨_, _, g, he, _⟩
  · exact ⟨g, he⟩
  · exact ⟨g, he⟩
theorem write_gone {D : Dv} (hg : D.gone = false) {a : Int} {b : List UInt8} (hE : D.writeE a b = 0) : (D.write a b).gone = false := by
  unfold Dv.writeE at hE
  unfold Dv.write
  rw [hg, if_neg Bool.false_ne_true] at hE
  rw [if_neg (by rw [hg]; exact Bool.false_ne_true)]
  split at hE
  · next hc =>
    rw [if_pos hc]
    split at hE
    · cases hE
    · next h0 => rw [if_neg h0]; exact hg
  · cases hE
theorem PoolAt.cast {n n' : Nat} (q : PoolAt w p n v m l A N c h) (e : n' = n) : PoolAt w p n' v m l A N c h := by rw [e]; exact q
theorem PoolAt.keys_len (q : PoolAt w p D.n v m l A N c h) : (keys D.n m.F).length = N := q.ring.len.trans q.len
theorem none_goes (q : PoolAt w p D.n v m l A N c h) (hn : ∀ x ∈ l, mayF m.safe x = false) : ∀ j f, m.F j = some f → ¬ goes m.safe f := by
  intro j f hf hg
  obtain ⟨x, hx, rfl⟩ := q.ring.of j f hf
  rw [q.ring.goes hx hf, hn x hx] at hg
  cases hg

set_option maxHeartbeats 4000000 in
theorem use_any (q : PoolAt w p D.n v m l A N c h) (hv : IsDev w p L M D) (hs : D.spent ≤ 100000) (hr : m.reads ≤ 100000) (a : Int) (ha : okI a) :
    Calls Try.prog 25 #[ptr v, .int .i64 a] w (UseOut w p v L M D m l A a) := by
  have HGN := Lib.hid (gone_any hv)
  have HFI := Lib.hid (find_any q a)
  have HSZ := Lib.hid (size_any hv)
  have HQ := Lib.hid q
  have HV := Lib.hid hv
  have HS := Lib.hid hs
  have HR := Lib.hid hr
  have htop := hv.ok.top
  have c0 := q.c0
  clear q hv hs hr
  cases hgn : D.gone with
  | true =>
    rw [hgn] at HGN
    have HGG := Lib.hid hgn
    clear hgn
    go_enter Try.func25, Try.ntmps25
    go_wp2_with fail
    refine HGN.out.mono ?_
    rintro e w1 ⟨rfl, hw⟩
    replace hw := hw.symm
    subst hw
    go_wp2_with fail
    go_ret2
    exact ⟨11, D, m, l, A, N, c, h, .gone HGG.out, HQ.out, HV.out, fun k hk => .inl hk, Turn.refl _ _, .inr ⟨by decide, rfl⟩⟩
  | false =>
    rw [hgn] at HGN
    have HGG := Lib.hid hgn
    clear hgn
    go_enter Try.func25, Try.ntmps25
    go_wp2_with fail
    refine HGN.out.mono ?_
    rintro e w1 ⟨rfl, hw⟩
    replace hw := hw.symm
    subst hw
    go_wp2_with fail
    refine HFI.out.mono ?_
    rintro e w1 ⟨hw, hfo⟩
    replace hw := hw.symm
    subst hw
    have HFO := Lib.hid hfo
    clear hfo
    rcases HFO.out with ⟨j, x, hx, hax, rfl⟩ | ⟨hn, rfl⟩
    · have HX := Lib.hid hx
      have HAX := Lib.hid hax
      have hf := HQ.out.f (List.mem_of_getElem? hx)
      have f68 := hf.c68
      have fr68 : w.frozen? ⟨x.g, 68, none⟩ = false := hf.bk.fr 68
      have HU := Lib.hid (hf.used true)
      clear hx hax hf HFO
      generalize hg : x.g = g at *
      generalize x.used = u at *
      have HG := Lib.hid hg
      clear hg
      go_wp2_with fail
      go_ret2
      have hg := HG.out
      subst hg
      have hT : Turn (· = x.g) w (w.setCell ⟨x.g, 68, none⟩ (.bool true)) := (Turn.refl (· = x.g) w).setCell ⟨x.g, 68, none⟩ _ (.inl rfl)
      have hxm := List.mem_of_getElem? HX.out
      have hTx : Tq v A (l.map Fq.g) x.g := .inr (.inr (List.mem_map.2 ⟨x, hxm, rfl⟩))
      have hnd := HQ.out.off HV.out x.g hTx
      obtain ⟨f, hf, _⟩ := HQ.out.ring.has x hxm
      have hgs : (l.set j { x with used := true }).map Fq.g = l.map Fq.g := upd_gs HX.out rfl
      refine ⟨0, D, m, l.set j { x with used := true }, A, N, c, h, .held HGG.out x.at_ HAX.out f hf, HQ.out.upd HX.out rfl hT HU.out.bk (HQ.out.ring.same (Sm.set HX.out rfl)) rfl rfl rfl,
        HV.out.turn hT (fun e => hnd (.inl e.symm)) (fun e => hnd (.inr (.inl e.symm))) (fun e => hnd (.inr (.inr e.symm))), fun k hk => .inl (by rw [hgs] at hk; exact hk), hT.mono (fun k e => .inl (by rw [e]; exact hTx)), .inl ⟨rfl, j, { x with used := true }, set_getElem_mem _ HX.out, HAX.out, rfl⟩⟩
    · have HN := Lib.hid hn
      clear hn HFO HFI HGN
      by_cases hh : D.has a = true
      · obtain ⟨h1, h2, h3⟩ := Dv.has_lt hh
        generalize a.toNat = i at *
        subst h3
        have hd0 : decide ((i : Int) < 0) = false := decide_eq_false (by omega)
        have hd1 : decide ((D.n : Int) ≤ (i : Int)) = false := decide_eq_false (by omega)
        have hd2 : decide (D.n ≤ i) = false := decide_eq_false (by omega)
        have HI := Lib.hid h1
        have HF : Hid (m.F i = none) := Lib.hid (by
          cases hf : m.F i with
          | none => rfl
          | some f =>
            obtain ⟨x, hx, e⟩ := HQ.out.ring.of i f hf
            exact absurd (by rw [e]) (HN.out x hx))
        clear h1 h2 hh HN
        have hi5 : (i : Int) < 5000 := by have := HI.out; omega
        obtain ⟨dn, hdn⟩ : ∃ dn, dn = D.n := ⟨_, rfl⟩
        rw [← hdn] at hd1 hd2 HSZ htop
        clear hdn
        go_wp2_with fail
        refine HSZ.out.mono ?_
        rintro e w1 ⟨rfl, hw⟩
        replace hw := hw.symm
        subst hw
        go_wp2_with fail
        clear c0 hd1 hd2 HSZ
        refine (place_any HQ.out HV.out (by have := HS.out; omega)).mono ?_
        rintro e w1 ⟨hpo, ht1⟩
        have HT1 := Lib.hid ht1
        have HPO := Lib.hid hpo
        clear hpo ht1
        rcases HPO.out with ⟨hc, h', rfl, hp, hv1⟩ | ⟨hc, hn, l', h', hs, rfl, hp, hv1⟩ | ⟨hc, l', h', j, x, hs, hx, hm, hd, rfl, hp, hv1⟩ | ⟨hc, l', h', j, x, hs, hx, hm, hd, hE, f, hf, rfl, hp, hv1⟩ | ⟨hc, l', h', j, x, hs, hx, hm, hd, hE, rfl, hp, hv1⟩
        · have HP := Lib.hid hp
          have HC := Lib.hid hc
          have HRD := Lib.hid (read_any hp hv1 HGG.out HI.out HF.out (by have := HR.out; omega) N (.inl ⟨rfl, hc⟩))
          clear hp hv1 hc HPO
          go_wp2_with fail
          refine HRD.out.mono ?_
          rintro e w2 ⟨hgo, ht2⟩
          obtain ⟨g, rfl⟩ := hgo.ends
          have HGO := Lib.hid hgo
          have HT2 := Lib.hid ht2
          clear hgo ht2 HRD
          go_wp2_with fail
          go_ret2
          exact use_end HQ.out HGG.out HI.out HF.out rfl HP.out HT1.out HGO.out HT2.out (fun _ => .room HGG.out i rfl HI.out HF.out (by rw [HQ.out.keys_len]; exact HC.out)) (fun x hx => absurd (List.getElem?_eq_some_iff.1 hx).1 (by have := HP.out.len; omega))
        · have HP := Lib.hid hp
          have HV1 := Lib.hid hv1
          have HC := Lib.hid hc
          have HN := Lib.hid hn
          have HSM := Lib.hid hs
          clear hp hv1 hc hn hs HPO
          go_wp2_with fail
          go_ret2
          exact ⟨5, D, m, l', A, N, c, h', .full HGG.out i rfl HI.out HF.out (by rw [HQ.out.keys_len]; exact HC.out) (none_goes HQ.out HN.out), HP.out, HV1.out, fun k hk => .inl (by rw [HSM.out.gs] at hk; exact hk), HT1.out, .inr ⟨by decide, rfl⟩⟩
        · have hjN : j ≠ N := by have := (List.getElem?_eq_some_iff.1 hx).1; have := hp.len; omega
          have hjb : (j : Int) < 5000 := by have := (List.getElem?_eq_some_iff.1 hx).1; have := hp.len; have := hp.le.1; omega
          have HRD := Lib.hid (read_any hp hv1 HGG.out HI.out HF.out (by have := HR.out; omega) j (.inr ⟨x, hx⟩))
          have HP := Lib.hid hp
          have HC := Lib.hid hc
          have HX := Lib.hid hx
          have HM := Lib.hid hm
          have HD := Lib.hid hd
          have HSM := Lib.hid hs
          have HJN := Lib.hid hjN
          clear hp hv1 hc hx hm hd hs hjN HPO
          go_wp2_with fail
          refine HRD.out.mono ?_
          rintro e w2 ⟨hgo, ht2⟩
          obtain ⟨g, rfl⟩ := hgo.ends
          have HGO := Lib.hid hgo
          have HT2 := Lib.hid ht2
          clear hgo ht2 HRD
          go_wp2_with fail
          go_ret2
          refine use_end HQ.out HGG.out HI.out HF.out HSM.out.gs HP.out HT1.out HGO.out HT2.out (fun e => absurd e HJN.out) (fun x' hx' => ?_)
          rw [HX.out] at hx'
          injection hx' with hx'
          subst hx'
          have hxm := List.mem_of_getElem? HX.out
          obtain ⟨f, hf, hag⟩ := HP.out.ring.has x hxm
          exact .clean HGG.out i rfl HI.out HF.out (by rw [HQ.out.keys_len]; exact HC.out) x.at_ f hf ((HP.out.ring.goes hxm hf).2 HM.out) (hag.dirty.trans HD.out)
        · have hjN : j ≠ N := by have := (List.getElem?_eq_some_iff.1 hx).1; have := hp.len; rw [List.length_set] at this; omega
          have hjb : (j : Int) < 5000 := by have := (List.getElem?_eq_some_iff.1 hx).1; have := hp.len; rw [List.length_set] at this; have := hp.le.1; omega
          have hxm := List.mem_of_getElem? hx
          have hag := (HQ.out.ring.same hs).frame hxm hf
          have hgo2 := ((HQ.out.ring.same hs).goes hxm hf).2 hm
          have hni : i ≠ x.at_ := fun e => by have := HF.out; rw [e, hf] at this; cases this
          have hf1 : (m.set x.at_ { f with dirty := false }).F i = none := by rw [set_ne _ _ hni]; exact HF.out
          have hw1 := set_getElem_mem (washQ x) hx
          have hp1 := hp.cast (Dv.write_n (x.at_ : Int) x.b)
          have HRD := Lib.hid (read_any hp1 hv1 (write_gone HGG.out hE) (by rw [Dv.write_n]; exact HI.out) hf1 (by have := HR.out; show m.reads ≤ _; omega) j (.inr ⟨_, hw1⟩))
          have HP := Lib.hid hp1
          have HC := Lib.hid hc
          have HW1 := Lib.hid hw1
          have HGS : Hid ((l'.set j (washQ x)).map Fq.g = l.map Fq.g) := Lib.hid ((upd_gs (y := washQ x) hx rfl).trans hs.gs)
          have HJN := Lib.hid hjN
          have HHO : Hid (Hold D m (i : Int) 0 (D.write (x.at_ : Int) x.b) (((m.set x.at_ { f with dirty := false }).drop x.at_).take (D.write (x.at_ : Int) x.b) i)) := Lib.hid (by
            rw [wash_drop, ← hag.b]
            exact .wrote HGG.out i rfl HI.out HF.out (by rw [HQ.out.keys_len]; exact hc) x.at_ f hf hgo2 (hag.dirty.trans hd) (by rw [hag.b]; exact hE))
          clear hp hp1 hv1 hc hx hm hd hs hjN HPO hxm hag hgo2 hni hf1 hw1 hE hf
          go_wp2_with fail
          refine HRD.out.mono ?_
          rintro e w2 ⟨hgo, ht2⟩
          obtain ⟨g, rfl⟩ := hgo.ends
          have HGO := Lib.hid hgo
          have HT2 := Lib.hid ht2
          clear hgo ht2 HRD
          go_wp2_with fail
          go_ret2
          refine use_end HQ.out HGG.out HI.out HF.out HGS.out HP.out HT1.out HGO.out HT2.out (fun e => absurd e HJN.out) (fun x' hx' => ?_)
          rw [HW1.out] at hx'
          injection hx' with hx'
          subst hx'
          exact HHO.out
        · have hxm := List.mem_of_getElem? hx
          obtain ⟨f, hf, hag⟩ := hp.ring.has x hxm
          have hgo2 := (hp.ring.goes hxm hf).2 hm
          have hjb : (j : Int) < 5000 := by have := (List.getElem?_eq_some_iff.1 hx).1; have := hp.len; have := hp.le.1; omega
          have HP := Lib.hid (hp.cast (Dv.write_n (x.at_ : Int) x.b))
          have HV1 := Lib.hid hv1
          have HSM := Lib.hid hs
          have HE := Lib.hid hE
          have HHO : Hid (Hold D m (i : Int) (D.writeE (x.at_ : Int) x.b) (D.write (x.at_ : Int) x.b) m) := Lib.hid (by
            rw [← hag.b]
            exact .fails HGG.out i rfl HI.out HF.out (by rw [HQ.out.keys_len]; exact hc) x.at_ f hf hgo2 (hag.dirty.trans hd) (by rw [hag.b]; exact hE))
          have e1 : (D.writeE (x.at_ : Int) x.b == 0) = false := by simpa using hE
          have e2 : (D.writeE (x.at_ : Int) x.b != 0) = true := by simpa using hE
          clear hp hv1 hc hx hm hd hs HPO hxm hag hgo2 hE hf
          generalize D.writeE (x.at_ : Int) x.b = E at *
          generalize D.write (x.at_ : Int) x.b = D1 at *
          go_wp2_with fail
          go_ret2
          exact ⟨E, D1, m, l', A, N, c, h', HHO.out, HP.out, HV1.out, fun k hk => .inl (by rw [HSM.out.gs] at hk; exact hk), HT1.out, .inr ⟨HE.out, rfl⟩⟩
      · have hhf : D.has a = false := by cases hq : D.has a <;> simp_all
        have HH := Lib.hid hhf
        unfold Dv.has at hhf
        by_cases h0 : a < 0
        · have hd0 : decide (a < 0) = true := decide_eq_true h0
          clear hhf hh h0
          go_wp2_with fail
          go_ret2
          exact ⟨1, D, m, l, A, N, c, h, .bad HGG.out HH.out, HQ.out, HV.out, fun k hk => .inl hk, Turn.refl _ _, .inr ⟨by decide, rfl⟩⟩
        · have hd0 : decide (a < 0) = false := decide_eq_false h0
          have hd1 : decide ((D.n : Int) ≤ a) = true := decide_eq_true (by
            rw [decide_eq_true (show 0 ≤ a by omega)] at hhf
            have := of_decide_eq_false (by simpa using hhf : decide (a < (D.n : Int)) = false)
            omega)
          clear hhf hh h0
          obtain ⟨dn, hdn⟩ : ∃ dn, dn = D.n := ⟨_, rfl⟩
          rw [← hdn] at hd1 HSZ htop
          clear hdn
          go_wp2_with fail
          refine HSZ.out.mono ?_
          rintro e w1 ⟨rfl, hw⟩
          replace hw := hw.symm
          subst hw
          go_wp2_with fail
          go_ret2
          exact ⟨1, D, m, l, A, N, c, h, .bad HGG.out HH.out, HQ.out, HV.out, fun k hk => .inl hk, Turn.refl _ _, .inr ⟨by decide, rfl⟩⟩
end
end Go.Proofs.Ytnpgmiokimahiaa
