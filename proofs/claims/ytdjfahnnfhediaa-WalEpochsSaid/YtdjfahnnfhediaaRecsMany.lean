/-
  An append of many records onto the call's own row; a row's first records.
-/
import Derived.Test.YtdjfahnnfhediaaTheirs
namespace Go.Proofs.Ytdjfahnnfhediaa
set_option maxRecDepth 100000
open Go.RowKit

theorem recC_inv : ∀ (l : List Pl) (j : Nat) (u : Value), (recC l)[j]? = some u → ∃ i p, l[i]? = some p ∧ ((j = i * 2 ∧ u = .int .i64 p.at_) ∨ (j = i * 2 + 1 ∧ u = .slice p.A p.n p.c))
  | [], j, u, h => by simp [recC] at h
  | p :: l, 0, u, h => by
    simp [recC] at h
    exact ⟨0, p, rfl, .inl ⟨rfl, h.symm⟩⟩
  | p :: l, 1, u, h => by
    simp [recC] at h
    exact ⟨0, p, rfl, .inr ⟨rfl, h.symm⟩⟩
  | p :: l, j + 2, u, h => by
    have h : (recC l)[j]? = some u := by simpa [recC] using h
    obtain ⟨i, q, h1, h2⟩ := recC_inv l j u h
    refine ⟨i + 1, q, by simpa using h1, ?_⟩
    rcases h2 with ⟨h2, h3⟩ | ⟨h2, h3⟩
    · exact .inl ⟨by omega, h3⟩
    · exact .inr ⟨by omega, h3⟩

/-- records as they lie -/
theorem RsN.places {w : World} {base b : Nat} {ss : List (Int × List UInt8)} (hp : ∀ (j : Nat) (r : Int × List UInt8), ss[j]? = some r → w.cell? ⟨b, j * 2, none⟩ = some (.int .i64 r.1) ∧ ∃ Ax n c, w.cell? ⟨b, j * 2 + 1, none⟩ = some (.slice Ax n c) ∧ Lies w Ax c n r.2 ∧ Up base Ax r.2) :
    ∃ ps : List Pl, ps.length = ss.length ∧ (∀ j u, (recC ps)[j]? = some u → w.cell? ((⟨b, 0, none⟩ : Addr).add j) = some u) ∧ (∀ u ∈ recC ps, u.oneCell' = true) ∧ ∀ (j : Nat) (r : Int × List UInt8), ss[j]? = some r → ∃ A n c, ps[j]? = some ⟨r.1, A, n, c⟩ ∧ Lies w A c n r.2 ∧ Up base A r.2 := by
  have each : ∀ j : Fin ss.length, ∃ p : Pl, p.at_ = (ss[j]).1 ∧ w.cell? ⟨b, j.val * 2, none⟩ = some (.int .i64 p.at_) ∧ w.cell? ⟨b, j.val * 2 + 1, none⟩ = some (.slice p.A p.n p.c) ∧ Lies w p.A p.c p.n (ss[j]).2 ∧ Up base p.A (ss[j]).2 := by
    intro j
    obtain ⟨h0, Ax, n, c, h1, h2, h3⟩ := hp j.val (ss[j]) (List.getElem?_eq_getElem j.isLt)
    exact ⟨⟨(ss[j]).1, Ax, n, c⟩, rfl, h0, h1, h2, h3⟩
  have hget : ∀ (i : Nat) (p : Pl), (List.ofFn fun j => (each j).choose)[i]? = some p → ∃ h : i < ss.length, p = (each ⟨i, h⟩).choose := by
    intro i p h
    rw [List.getElem?_ofFn] at h
    split at h
    · next hi => exact ⟨hi, (Option.some.inj h).symm⟩
    · cases h
  refine ⟨List.ofFn fun j => (each j).choose, by simp, fun j u hu => ?_, fun u hu => ?_, fun j r hr => ?_⟩
  · obtain ⟨i, p, h1, h2⟩ := recC_inv _ j u hu
    obtain ⟨hi, rfl⟩ := hget i p h1
    have hs := (each ⟨i, hi⟩).choose_spec
    rw [addr_add, Nat.zero_add]
    rcases h2 with ⟨h2, h3⟩ | ⟨h2, h3⟩
    · rw [h2, h3]; exact hs.2.1
    · rw [h2, h3]; exact hs.2.2.1
  · obtain ⟨j, hj, rfl⟩ := List.getElem_of_mem hu
    obtain ⟨i, p, _, h2⟩ := recC_inv _ j _ (List.getElem?_eq_getElem hj)
    rcases h2 with ⟨_, h3⟩ | ⟨_, h3⟩
    · rw [h3]; rfl
    · rw [h3]; rfl
  · have hj : j < ss.length := (List.getElem?_eq_some_iff.1 hr).1
    have e : ss[j] = r := (List.getElem?_eq_some_iff.1 hr).2
    have hs := (each ⟨j, hj⟩).choose_spec
    have e3 : (List.ofFn fun j => (each j).choose)[j]? = some (each ⟨j, hj⟩).choose := by rw [List.getElem?_ofFn, dif_pos hj]
    generalize (each ⟨j, hj⟩).choose = p at hs e3
    have e2 : ss[(⟨j, hj⟩ : Fin ss.length)] = r := e
    rw [e2] at hs
    obtain ⟨h1, _, _, h4, h5⟩ := hs
    exact ⟨p.A, p.n, p.c, by rw [e3, ← h1], h4, h5⟩

/-- 'append(l, m...)' of records -/
theorem wpList_append_recs {P : Program} {T : TypeId} {ops : Array Oper} {rest : List Oper} {o : Oper} {a : Act} {w : World} {Q : Exit → Act → World → Prop} (hgd : o.guard = none) (s x : Operand) (t : TypeId)
    (ho : o.op = .call { callee := .builtin .append, args := #[s, x], argTypes := #[t, t] })
    (base : Nat) (i : TypeInfo) (ht : P.underlying t = some (.slice T)) (hi : P.info? T = some i) (hz : i.zero = some (.agg #[.int .i64 0, .slice none 0 0])) (hsize : i.size = 2) (hby : i.bytes = 32)
    (v : Value) (rs : List (Int × List UInt8)) (hs : a.eval s = v) (hown : Rs T w base v rs) (w0 : World) (hb0 : Below w0.heap.size w0 w) (hnew : ∀ g, v.ownBlock = some g → w0.heap.size ≤ g)
    (A : Option Addr) (ss : List (Int × List UInt8)) (m c : Nat) (hx : a.eval x = .slice A m c) (hr : RsN w0 base A ss) (hm : ss.length = m) (hlen : rs.length + m ≤ 1000000) (hbase : base ≤ w.heap.size)
    (h : ∀ v' w', Rs T w' base v' (rs ++ ss) → w.grownBy w' v.ownBlock → (v'.ownBlock = v.ownBlock ∨ v'.ownBlock = some w.heap.size) → wpList P ops Q rest (a.put o.dst v') w') : wpList P ops Q (o :: rest) a w := by
  subst hm
  refine wpList_plain hgd fun K hK => ?_
  have key : ∃ v' w', (Builtin.append_ #[t, t] o.type #[v, .slice A ss.length c]).run P w = .ok v' w' ∧ Rs T w' base v' (rs ++ ss) ∧ w.grownBy w' v.ownBlock ∧ (v'.ownBlock = v.ownBlock ∨ v'.ownBlock = some w.heap.size) := by
    obtain ⟨ps, hp, hown, he⟩ := hown
    rcases A with _ | ad
    · have h0 : ss = [] := by
        rcases hr with h | ⟨b, e, _⟩
        · exact h
        · cases e
      subst h0
      have hrun : (Builtin.append_ #[t, t] o.type #[v, .slice none 0 c]).run P w = .ok v w := by
        rcases hown.2 with ⟨rfl, hn⟩ | ⟨g, cap, cur, rfl, _, _, hnc, _⟩
        · simp [Builtin.append_, run_underlying ht, sizeOf, typeInfo, hi, Builtin.lenOf, Builtin.firstCells]
        · simp [Builtin.append_, run_underlying ht, sizeOf, typeInfo, hi, Builtin.lenOf, Builtin.firstCells, hnc, storeCells]
      exact ⟨v, w, hrun, by rw [List.append_nil]; exact ⟨ps, hp, hown, he⟩, World.grownBy.refl w _, .inl rfl⟩
    · have hpl : ∃ qs : List Pl, qs.length = ss.length ∧ (∀ j u, (recC qs)[j]? = some u → w.cell? (ad.add j) = some u) ∧ (∀ u ∈ recC qs, u.oneCell' = true) ∧ ∀ (j : Nat) (r : Int × List UInt8), ss[j]? = some r → ∃ A n c, qs[j]? = some ⟨r.1, A, n, c⟩ ∧ Lies w A c n r.2 ∧ Far A r.2 v.ownBlock ∧ Up base A r.2 := by
        rcases hr with h | ⟨b, e, hb, hq⟩
        · subst h
          exact ⟨[], rfl, fun j u hu => by simp [recC] at hu, fun u hu => by simp [recC] at hu, fun j r hr => by simp at hr⟩
        · injection e with e
          subst e
          obtain ⟨qs, k1, k2, k3, k4⟩ := RsN.places hq
          refine ⟨qs, k1, fun j u hu => ?_, k3, fun j r hr => ?_⟩
          · rw [addr_add, Nat.zero_add]
            have := k2 j u hu
            rw [addr_add, Nat.zero_add] at this
            exact (hb0.cell (p := ⟨b, j, none⟩) hb.2).trans this
          · obtain ⟨A, n, c, g1, g2, g3⟩ := k4 j r hr
            refine ⟨A, n, c, g1, g2.up hb0, ?_, g3⟩
            rcases g2.lt with h | h
            · exact .inl h
            · exact .inr fun a ha e => by have h1 := h a ha; have h2 := hnew _ e.symm; omega
      obtain ⟨qs, k1, k2, k3, k4⟩ := hpl
      obtain ⟨v', w', hrun, h2, h3, _, h5⟩ := run_append_own_at (P := P) w base t o.type T i (.agg #[.int .i64 0, .slice none 0 0]) 2 32 ht hi hz hsize hby rfl (by decide) v rs.length (recC ps) hown ad ss.length c (recC qs) (by rw [length_recC, k1]) k2 k3 (by unfold maxLen; omega) (by omega) hbase
      refine ⟨v', w', hrun, ⟨ps ++ qs, by simp [hp, k1], by rw [List.length_append, recC_append]; exact h2, fun j r hr => ?_⟩, h3, h5⟩
      have lift : ∀ (A' : Option Addr) (n' c' : Nat) (l' : List UInt8), Lies w A' c' n' l' → Far A' l' v.ownBlock → Up base A' l' → Lies w' A' c' n' l' ∧ Far A' l' v'.ownBlock ∧ Up base A' l' := by
        intro A' n' c' l' h1 h2 h4
        refine ⟨h1.far h2 h3, ?_, h4⟩
        rcases h5 with h | h
        · rw [h]; exact h2
        · rw [h]; exact Far.new h1 (Nat.le_refl _)
      rcases Nat.lt_or_ge j rs.length with hj | hj
      · rw [List.getElem?_append_left hj] at hr
        obtain ⟨A', n', c', h1, h2, h3, h4⟩ := he j r hr
        exact ⟨A', n', c', by rw [List.getElem?_append_left (by omega)]; exact h1, lift _ _ _ _ h2 h3 h4⟩
      · rw [List.getElem?_append_right hj] at hr
        obtain ⟨A', n', c', h1, h2, h3, h4⟩ := k4 _ r hr
        exact ⟨A', n', c', by rw [List.getElem?_append_right (by omega), hp]; exact h1, lift _ _ _ _ h2 h3 h4⟩
  obtain ⟨v', w', hrun, h2, h3, h4⟩ := key
  unfold Oper.wp
  simp [execOp, ho, resolve, invoke, builtin, hs, hx, hrun, Result.andThen]
  exact hK _ _ (h v' w' h2 h3 h4)

theorem rs_lit (T : TypeId) (w : World) (base : Nat) (hb : base ≤ w.heap.size) : Rs T (w.alloc (.cells #[] T)) base (.slice (some ⟨w.heap.size, 0, none⟩) 0 0) [] := by
  refine ⟨[], rfl, ?_, fun j x hx => by simp at hx⟩
  have h := World.ownsRow_lit w #[] 0 (Nat.le_refl _) (by simp [maxLen]) rfl (e := T) (size := 2)
  refine ⟨h.1, ?_⟩
  rcases h.2 with h2 | ⟨g, c, cur, e, hg, rest⟩
  · exact .inl h2
  · exact .inr ⟨g, c, cur, e, Nat.le_trans hb hg, rest⟩

theorem RsN.take {w : World} {base : Nat} {A : Option Addr} {rs : List (Int × List UInt8)} (h : RsN w base A rs) (k : Nat) : RsN w base A (rs.take k) := by
  rcases h with h | ⟨b, e, hb, hp⟩
  · exact .inl (by rw [h]; simp)
  · refine .inr ⟨b, e, hb, fun j r hr => hp j r ?_⟩
    rw [List.getElem?_take] at hr
    split at hr
    · exact hr
    · cases hr

end Go.Proofs.Ytdjfahnnfhediaa
