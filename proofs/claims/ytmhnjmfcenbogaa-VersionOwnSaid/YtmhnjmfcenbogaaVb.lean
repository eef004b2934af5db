/-
  What a transaction reads: the nearest version above it. No program in it.
-/
import Derived.Test.YtmhnjmfcenbogaaVa
namespace Go.Proofs.Ytmhnjmfcenbogaa
set_option maxRecDepth 100000
set_option linter.unusedVariables false
set_option linter.unusedSimpArgs false

/-- the nearest one's of some -/
def nearV (L : List Vn) (b : Int) : List Nat → Option (List UInt8)
  | [] => none
  | w :: ws => (hasV L (w : Int) b).or (nearV L b ws)
theorem nearV_cons (L : List Vn) (b : Int) (w : Nat) (ws : List Nat) : nearV L b (w :: ws) = (hasV L (w : Int) b).or (nearV L b ws) := rfl
theorem nearV_same {L M : List Vn} {b : Int} : ∀ {ws : List Nat}, (∀ w ∈ ws, hasV L (w : Int) b = hasV M (w : Int) b) → nearV L b ws = nearV M b ws
  | [], _ => rfl
  | w :: ws, h => by rw [nearV_cons, nearV_cons, h w (by simp), nearV_same fun y hy => h y (by simp [hy])]
theorem nearV_put {L : List Vn} {v : Vn} (hr : RiseV L) {ws : List Nat} : nearV (putV v L) v.b ws = nearV L v.b ws ∨ (nearV (putV v L) v.b ws = some v.d ∧ ∃ w ∈ ws, (w : Int) = v.x) := by
  induction ws with
  | nil => exact .inl rfl
  | cons w ws ih =>
    rw [nearV_cons, nearV_cons, putV_has hr]
    by_cases h : v.x = (w : Int)
    · rw [if_pos ⟨h, rfl⟩]
      exact .inr ⟨rfl, w, by simp, h.symm⟩
    · rw [if_neg (fun e => h e.1)]
      cases hasV L (w : Int) v.b with
      | some d => exact .inl rfl
      | none =>
        rcases ih with e | ⟨e, y, hy, he⟩
        · exact .inl (by rw [e])
        · exact .inr ⟨by rw [e]; rfl, y, by simp [hy], he⟩
def readD (t : Vt) (ws : List Nat) (b : Int) : List UInt8 := (nearV t.L b ws).getD (t.B.getD b.toNat [])
theorem readD_head {t : Vt} {b : Int} {w : Nat} {ws : List Nat} {d : List UInt8} (h : hasV t.L (w : Int) b = some d) : readD t (w :: ws) b = d := by
  unfold readD; rw [nearV_cons, h]; rfl
theorem readD_len {t : Vt} (h : SanV t) {b : Int} (hb : 0 ≤ b ∧ b < (t.B.length : Int)) (ws : List Nat) : (readD t ws b).length = 32 := by
  unfold readD
  induction ws with
  | nil =>
    show (t.B.getD b.toNat []).length = 32
    rw [List.getD_eq_getElem?_getD, List.getElem?_eq_getElem (by omega)]
    exact h.e _ (List.getElem_mem _)
  | cons w ws ih =>
    rw [nearV_cons]
    cases hh : hasV t.L (w : Int) b with
    | some d =>
      obtain ⟨v, hv, _, _, e⟩ := hasV_some hh
      show d.length = 32
      rw [← e]; exact (h.may v hv).2.2
    | none => exact ih

/-! ### what one writes it reads -/
section
variable {t : Vt} {v : Vn}
theorem own_self (h : SanV t) {i : Nat} {ws : List Nat} (hx : v.x = (i : Int)) : readD ⟨t.B, putV v t.L⟩ (i :: ws) v.b = v.d :=
  readD_head (by rw [putV_has h.up, if_pos ⟨hx, rfl⟩])
theorem own_off (h : SanV t) {ws : List Nat} (hn : ∀ w ∈ ws, (w : Int) ≠ v.x) : readD ⟨t.B, putV v t.L⟩ ws v.b = readD t ws v.b := by
  unfold readD
  rcases nearV_put (v := v) h.up (ws := ws) with e | ⟨_, w, hw, he⟩
  · rw [e]
  · exact absurd he (hn w hw)
theorem own_in (h : SanV t) (ws : List Nat) : readD ⟨t.B, putV v t.L⟩ ws v.b = readD t ws v.b ∨ readD ⟨t.B, putV v t.L⟩ ws v.b = v.d := by
  unfold readD
  rcases nearV_put (v := v) h.up (ws := ws) with e | ⟨e, _⟩
  · exact .inl (by rw [e])
  · exact .inr (by rw [e]; rfl)
theorem own_else (h : SanV t) (ws : List Nat) {b : Int} (hb : b ≠ v.b) : readD ⟨t.B, putV v t.L⟩ ws b = readD t ws b := by
  unfold readD
  rw [nearV_same (M := t.L) fun w _ => by rw [putV_has h.up, if_neg (fun e => hb e.2.symm)]]
end

/-! ### what is passed -/
theorem pass_reads {t : Vt} (h : SanV t) {x par : Nat} {b : Int} {d : List UInt8} (hd : hasV t.L (x : Int) b = some d) (ws : List Nat) : readD (t.pass (x : Int) (par : Int)) (par :: ws) b = d :=
  readD_head (by rw [(h.pass_par (x : Int) (par := (par : Int)) (by omega) (par : Int) b).2, if_pos rfl, hd]; rfl)
theorem pass_gone {t : Vt} (h : SanV t) {x par : Int} (hp : par ≤ 63) (hn : x ≠ par) : ofV (t.pass x par).L x = [] := by
  rw [List.eq_nil_iff_forall_not_mem]
  intro v hv
  obtain ⟨h1, h2⟩ := ofV_mem.1 hv
  by_cases h0 : par < 0
  · rw [(h.pass_none x h0 0).1] at h1
    exact (freeV_mem.1 h1).2 (by simp [h2])
  · have h3 := hasV_mem (h.pass x hp).1.up h1
    rw [h2, (h.pass_par x h0 x v.b).2, if_neg hn, if_pos rfl] at h3
    cases h3

/-! ### what a top one changed -/
def wantV (k : Int) (d : List UInt8) (Q : List Vn) : List UInt8 := Q.foldl (fun a v => if v.b = k then v.d else a) d
theorem wantV_find {k : Int} : ∀ (Q : List Vn) (d : List UInt8), (∀ v ∈ Q, ∀ w ∈ Q, v.b = w.b → v = w) → wantV k d Q = (match Q.find? (fun v => decide (v.b = k)) with | some v => v.d | none => d)
  | [], d, _ => rfl
  | v :: Q, d, hu => by
    have ih := wantV_find (k := k) Q (if v.b = k then v.d else d) (fun a ha b hb => hu a (by simp [ha]) b (by simp [hb]))
    unfold wantV at ih ⊢
    rw [List.foldl_cons, ih, List.find?_cons]
    by_cases hk : v.b = k
    · rw [if_pos hk, show decide (v.b = k) = true from decide_eq_true hk]
      cases hf : Q.find? (fun v => decide (v.b = k)) with
      | none => rfl
      | some w =>
        have hw := List.mem_of_find?_eq_some hf
        have hwk : w.b = k := by simpa using List.find?_some hf
        have := hu v (by simp) w (by simp [hw]) (by omega)
        simp only
        rw [this]
    · rw [if_neg hk, show decide (v.b = k) = false from decide_eq_false hk]
theorem top_want {t : Vt} (h : SanV t) (x : Int) {par : Int} (hp : par < 0) (k : Nat) : (t.pass x par).B.getD k [] = wantV (k : Int) (t.B.getD k []) (ofV t.L x) := by
  rw [(h.pass_none x hp k).2, wantV_find _ _ (ofV_uniq h.up), ← find_has]
  cases (ofV t.L x).find? (fun v => decide (v.b = (k : Int))) <;> rfl
theorem top_reads {t : Vt} (h : SanV t) {i : Nat} {v : Vn} (hv : v ∈ ofV t.L (i : Int)) (ws : List Nat) : readD t (i :: ws) v.b = v.d := by
  obtain ⟨h1, h2⟩ := ofV_mem.1 hv
  have h3 := hasV_mem h.up h1
  rw [h2] at h3
  exact readD_head h3
theorem top_len {t : Vt} (h : SanV t) (x : Int) {par : Int} (hp : par < 0) : (t.pass x par).L.length = t.L.length - (ofV t.L x).length := by
  rw [(h.pass_none x hp 0).1]
  have := free_of_len t.L x
  omega

/-! ### one in another one, down to the lowest -/
def down : Nat → List Nat
  | 0 => []
  | i + 1 => i :: down i
theorem down_lt {i w : Nat} (h : w ∈ down i) : w < i := by
  induction i with
  | zero => cases h
  | succ i ih =>
    rcases List.mem_cons.1 h with rfl | h
    · omega
    · have := ih h; omega
/-- so many have something, and this is what the lowest reads -/
structure DeepF (t : Vt) (i : Nat) (d : List UInt8) : Prop where
  s : SanV t
  n : t.B.length = 1
  x : ∀ v ∈ t.L, v.x < (i : Int)
  r : readD t (down i) 0 = d
theorem DeepF.none {t : Vt} {i : Nat} {d : List UInt8} (h : DeepF t i d) : hasV t.L (i : Int) 0 = Option.none := by
  rw [hasV_none]
  intro v hv e
  have := h.x v hv
  omega
theorem DeepF.stay {t : Vt} {i : Nat} {d : List UInt8} (h : DeepF t i d) : DeepF t (i + 1) d :=
  ⟨h.s, h.n, fun v hv => by have := h.x v hv; omega, by
    have := h.r
    unfold readD at this ⊢
    show (nearV t.L 0 (i :: down i)).getD _ = d
    rw [nearV_cons, h.none]; exact this⟩
theorem DeepF.write {t : Vt} {i : Nat} {d : List UInt8} (h : DeepF t i d) (hi : i ≤ 63) (e : List UInt8) (he : e.length = 32) : DeepF ⟨t.B, putV ⟨0, (i : Int), e⟩ t.L⟩ (i + 1) e :=
  ⟨h.s.put (v := ⟨0, (i : Int), e⟩) (by have := h.n; simp only; omega) (by simp only; omega) he, h.n, fun v hv => by
    rcases putV_mem hv with rfl | hv
    · simp only; omega
    · have := h.x v hv; omega, own_self (v := ⟨0, (i : Int), e⟩) h.s rfl⟩
theorem DeepF.pass {t : Vt} {i : Nat} {d : List UInt8} (h : DeepF t (i + 1) d) (hi : i ≤ 63) : DeepF (t.pass (i : Int) ((i : Int) - 1)) i d := by
  obtain ⟨s1, s2⟩ := h.s.pass (i : Int) (par := (i : Int) - 1) (by omega)
  have hr := h.r
  unfold readD at hr
  have hr2 : ((hasV t.L (i : Int) 0).or (nearV t.L 0 (down i))).getD (t.B.getD 0 []) = d := hr
  cases i with
  | zero =>
    obtain ⟨p1, p2⟩ := h.s.pass_none (((0 : Nat) : Int)) (par := ((0 : Nat) : Int) - 1) (by omega) 0
    refine ⟨s1, by rw [s2, h.n], fun v hv => ?_, ?_⟩
    · rw [p1] at hv
      obtain ⟨q1, q2⟩ := freeV_mem.1 hv
      have h1 := h.x v q1
      have h2 := (h.s.may v q1).2.1.1
      exact absurd (by simp; omega) q2
    · show (t.pass (((0 : Nat) : Int)) (((0 : Nat) : Int) - 1)).B.getD 0 [] = d
      rw [p2, ← hr2]
      show _ = ((hasV t.L (((0 : Nat) : Int)) 0).or Option.none).getD _
      rw [Option.or_none]; rfl
  | succ j =>
    have e1 : (((j + 1 : Nat) : Int) - 1) = (j : Int) := by omega
    rw [e1] at s1 s2 ⊢
    have hp := fun y b => h.s.pass_par (((j + 1 : Nat) : Int)) (par := (j : Int)) (by omega) y b
    refine ⟨s1, by rw [s2, h.n], fun v hv => ?_, ?_⟩
    · have h3 := hasV_mem s1.up hv
      have h4 := (s1.may v hv).2.1.1
      rw [(hp v.x v.b).2] at h3
      by_cases e : v.x = (j : Int)
      · omega
      · rw [if_neg e] at h3
        by_cases e2 : v.x = ((j + 1 : Nat) : Int)
        · rw [if_pos e2] at h3; cases h3
        · rw [if_neg e2] at h3
          obtain ⟨w, hw, hw1, _⟩ := hasV_some h3
          have := h.x w hw
          omega
    · unfold readD
      rw [(hp 0 0).1]
      show (nearV (t.pass (((j + 1 : Nat) : Int)) (j : Int)).L 0 (j :: down j)).getD (t.B.getD 0 []) = d
      rw [nearV_cons, (hp (j : Int) 0).2, if_pos rfl, if_neg (by omega), nearV_same (M := t.L) (fun w hw => by
        have := down_lt hw
        rw [(hp (w : Int) 0).2, if_neg (by omega), if_neg (by omega)])]
      rw [← hr2]
      show _ = ((hasV t.L (((j + 1 : Nat) : Int)) 0).or ((hasV t.L (j : Int) 0).or (nearV t.L 0 (down j)))).getD _
      rw [Option.or_assoc]
theorem DeepF.done {t : Vt} {d : List UInt8} (h : DeepF t 0 d) : t = ⟨[d], []⟩ := by
  have h1 : t.L = [] := by
    rw [List.eq_nil_iff_forall_not_mem]
    intro v hv
    have h1 := h.x v hv
    have h2 := (h.s.may v hv).2.1.1
    omega
  have h2 := h.n
  have h3 := h.r
  obtain ⟨B, L⟩ := t
  simp only at h1 h2
  subst h1
  match B, h2 with
  | [e], _ =>
    have : e = d := h3
    rw [this]
end Go.Proofs.Ytmhnjmfcenbogaa
