/-
  A map of the call's own whose keys are entries without Undo, and whose elements are rows: a stack for each kind.
-/
import Derived.Test.YtpphhhalmccnbaaUi
import Derived.Maps.OwnSet
import Derived.Maps.Ext
import Derived.WideKeyEntry
import Derived.DeepKeys4
namespace Go.Proofs.Ytpphhhalmccnbaa
set_option maxRecDepth 100000
set_option linter.unusedVariables false
set_option linter.unusedSimpArgs false
open Go.RowKit Go.Shelf Go.Maps
open Go.WideElems (entry_then_store)
open Go.ChangeMaps (setBlock)

/-- a value reads as itself -/
def Rv (v : Value) : Option (DataW Value × List MemPlace) := some (.held v, [])
abbrev nilI : Value := .slice none 0 0
/-- a kind, as a key -/
def kdC (k : Kd) : Array Value := #[.int .i64 k.t, .int .i64 k.c, .int .i64 k.b, .bool false]
abbrev kdV (k : Kd) : Value := .agg (kdC k)
structure Kd.Ok (k : Kd) : Prop where
  t : okI k.t
  c : okI k.c
  b : okI k.b
theorem En.Ok.kd {e : En} (h : e.Ok) : e.kd.Ok := ⟨h.t, h.c, h.b⟩
theorem En.Ok.kdU {e : En} (h : e.Ok) : e.kdU.Ok := ⟨h.t, h.c, wneg_ok h.b⟩
theorem kd_law : WideMaps.KeyLaw Try.prog 62 := deep_law_laid (by kernel_rfl) (m := 2) (by omega) (of_decide_eq_true (by kernel_rfl)) (by kernel_rfl) (by rw [Try.underlying62])
theorem kd_keyed : Keyed Try.prog 62 := Keyed.of_law kd_law
theorem kd_key {k : Kd} (h : k.Ok) : ∃ l, keyOf Try.prog 62 (kdV k) = some l := by
  have h1 : (Lit.int .i64 k.t).wf = true := by have := h.t; unfold okI at this; simp [Lit.wf, IntKind.bits, IntKind.signed, IntKind.min, IntKind.max]; omega
  have h2 : (Lit.int .i64 k.c).wf = true := by have := h.c; unfold okI at this; simp [Lit.wf, IntKind.bits, IntKind.signed, IntKind.min, IntKind.max]; omega
  have h3 : (Lit.int .i64 k.b).wf = true := by have := h.b; unfold okI at this; simp [Lit.wf, IntKind.bits, IntKind.signed, IntKind.min, IntKind.max]; omega
  have hk : Try.prog.keyType 62 = true := by kernel_rfl
  have hs : ∃ n, Try.prog.types.size + 1 = n + 2 := ⟨Try.prog.types.size - 1, by have : 0 < Try.prog.types.size := of_decide_eq_true (by kernel_rfl); omega⟩
  obtain ⟨n, hn⟩ := hs
  have hc : Try.prog.cellsOf 62 = 4 := by kernel_rfl
  have hc1 : Try.prog.cellsOf 3 = 1 := by kernel_rfl
  have hc2 : Try.prog.cellsOf 4 = 1 := by kernel_rfl
  have hf : (kdV k).formed Try.prog 62 = true := by simp [Value.formed, Try.underlying62, hc, kdC]
  have a1 : ∀ x : Int, (Lit.int .i64 x).wf = true → Try.prog.keyLits (n + 1) 3 [.int .i64 x] = some [.int .i64 x] := fun x hx => by
    rw [Program.keyLits.eq_3 _ _ _ .i64 .i64 x Try.underlying3, if_pos ⟨rfl, hx⟩]
  have a2 : ∀ x : Bool, Try.prog.keyLits (n + 1) 4 [.bool x] = some [.bool x] := fun x => by
    rw [Program.keyLits.eq_2 _ _ _ x Try.underlying4]
  obtain ⟨x, y, z⟩ := k
  have a3 : Try.prog.keyLits (n + 1 + 1) 62 [.int .i64 x, .int .i64 y, .int .i64 z, .bool false] = some [.int .i64 x, .int .i64 y, .int .i64 z, .bool false] := by
    rw [Program.keyLits.eq_6 _ _ _ _ _ Try.underlying62, if_pos ⟨hc.symm, by kernel_rfl⟩]
    simp only [List.mapM_cons, List.mapM_nil, hc1, hc2, List.drop_succ_cons, List.drop_zero, List.take_succ_cons, List.take_zero, a1 x h1, a1 y h2, a1 z h3, a2]
    rfl
  refine ⟨.string (keyBytes [.int .i64 x, .int .i64 y, .int .i64 z, .bool false]), ?_⟩
  unfold keyOf
  rw [Try.underlying62]
  simp only [hk, hf, Bool.and_self, if_true]
  rw [hn]
  show (Try.prog.keyLits (n + 1 + 1) 62 [.int .i64 x, .int .i64 y, .int .i64 z, .bool false]).map _ = _
  rw [a3]; rfl

/-- at k it holds V k; z where nothing was laid -/
def Km (W : World) (b n : Nat) (V : Kd → Value) : Prop :=
  ∃ D : DataW Value, W.ownsMap Try.prog 62 Rv b n D ∧ IsMap D ∧ ∀ k : Kd, k.Ok → ∀ l, keyOf Try.prog 62 (kdV k) = some l → D.atKey l (.held nilI) = .held (V k)
theorem Km.made (W : World) : Km (W.alloc (.map #[] 0)) W.heap.size 0 (fun _ => nilI) := ⟨.map [], World.ownsMap_made _ _ _ _, ⟨_, rfl⟩, fun k _ l _ => rfl⟩
theorem zero_ints (W : World) : (zeroValue 28).run Try.prog W = .ok nilI W := by kernel_rfl
theorem kdV_inj {k q : Kd} (h : kdV k = kdV q) : k = q := by
  obtain ⟨a, b, c⟩ := k
  obtain ⟨x, y, z⟩ := q
  simp [kdV, kdC] at h
  obtain ⟨h1, h2, h3⟩ := h
  subst h1; subst h2; subst h3; rfl
section
variable {W W' : World} {b n : Nat} {V : Kd → Value}
theorem Km.lt (h : Km W b n V) : b < W.heap.size := by
  obtain ⟨D, ho, _⟩ := h
  exact ho.lt
theorem Km.turn {S : Nat → Prop} (h : Km W b n V) (ht : Turn S W W') (hS : ¬ S b) : Km W' b n V := by
  obtain ⟨D, ho, hm, ha⟩ := h
  have hlt := ho.lt
  obtain ⟨es, clock, hb, F, hs, hD⟩ := ho
  exact ⟨D, ⟨es, clock, (ht.block b hlt hS).trans hb, F, hs, hD⟩, hm, ha⟩
theorem Km.below (h : Km W b n V) (hb : Below W.heap.size W W') : Km W' b n V := h.turn (S := fun _ => False) (Turn.ofBelow hb) (fun h => h)
theorem Km.mono (h : Km W b n V) {m : Nat} (hm : n ≤ m) : Km W b m V := by
  obtain ⟨D, ho, h2⟩ := h
  exact ⟨D, ho.mono hm, h2⟩
theorem Km.look (h : Km W b n V) {k : Kd} (hk : k.Ok) : (Instr.lookup 114 (.map (some b)) (kdV k) false).run Try.prog W = .ok (V k) W := by
  obtain ⟨D, ho, hm, ha⟩ := h
  obtain ⟨l, hl⟩ := kd_key hk
  obtain ⟨v, ps, hrun, hv⟩ := ho.lookup (t := 114) (e := 28) kd_keyed Try.underlying114 (z := nilI) (zero_ints W) (zd := .held nilI) (zp := []) rfl hl
  rw [ha k hk l hl] at hv
  unfold Rv at hv
  injection hv with hv
  injection hv with hv _
  injection hv with hv
  rw [hrun, hv]
theorem Km.upd (h : Km W b n V) (hn : n < 100000000) {k : Kd} (hk : k.Ok) (val : Value) :
    ∃ W', (Instr.mapUpdate 114 (.map (some b)) (kdV k) val).run Try.prog W = .ok () W' ∧ Km W' b (n + 1) (fun q => if q = k then val else V q) ∧ W.grownBy W' (some b) ∧ W'.heap.size = W.heap.size := by
  obtain ⟨D, ho, hm, ha⟩ := h
  obtain ⟨l, hl⟩ := kd_key hk
  obtain ⟨W', hrun, ho', hg⟩ := ho.update (t := 114) (e := 28) kd_keyed Try.underlying114 (Nat.lt_of_lt_of_le hn (by decide)) hl (val := val) (d := .held val) (ps := []) rfl
  refine ⟨W', hrun, ⟨_, ho', ?_, fun q hq r hr => ?_⟩, hg, ?_⟩
  · obtain ⟨es, rfl⟩ := hm
    exact ⟨_, rfl⟩
  · by_cases e : q = k
    · subst e
      rw [hl] at hr; injection hr with hr; subst hr
      rw [atKey_put_same hm (kd_keyed.key hl)]
      simp
    · rw [atKey_put_other (fun h => e (kdV_inj (kd_keyed.inj hr (by rw [h]; exact hl)))), ha q hq r hr]; simp [e]
  · obtain ⟨es, clock, hb, F, hs, _⟩ := ho
    obtain ⟨_, _, hr2, _⟩ := Maps.fit_store (R' := Rv) kd_keyed (t := 114) (e := 28) Try.underlying114 hb F (Nat.lt_of_le_of_lt hs (Nat.lt_of_lt_of_le hn (by decide))) (fun _ _ _ _ hz => hz) hl (val := val) (yv := (.held val, [])) rfl
    rw [hrun] at hr2
    injection hr2 with _ hr2
    rw [hr2]; simp [setBlock]
/-- 'm[k] = f(m[k])': the entry's place, and what is laid there -/
theorem Km.entry (h : Km W b n V) (hn : n < 100000000) {k : Kd} (hk : k.Ok) :
    ∃ (st : Nat) (W1 : World), (Instr.mapEntry 114 (.map (some b)) (kdV k)).run Try.prog W = .ok (.tuple #[V k, .int .i64 (st : Int)]) W1 ∧ W.grownBy W1 (some b) ∧ W1.heap.size = W.heap.size ∧
      ∀ (W2 : World) (val : Value), W2.heap[b]? = W1.heap[b]? → ∃ W3, (Instr.entryStore 114 (.map (some b)) (.int .i64 (st : Int)) val).run Try.prog W2 = .ok () W3 ∧ Km W3 b (n + 1) (fun q => if q = k then val else V q) ∧ W2.grownBy W3 (some b) ∧ W3.heap.size = W2.heap.size := by
  obtain ⟨l, hl⟩ := kd_key hk
  have hup := fun val => h.upd hn hk val
  obtain ⟨D, ho, hm, ha⟩ := h
  have hv := ha k hk l hl
  obtain ⟨es, clock, hb, F, hs, rfl⟩ := ho
  obtain ⟨v0, st, es1, clock1, hE, hcase, hS⟩ := entry_then_store (z := nilI) kd_law Try.underlying114 zero_ints hb F hl
  have hv0 : v0 = V k := by
    rcases hcase with ⟨e0, hm0, hk0, rfl⟩ | ⟨hno, rfl⟩
    · rw [Go.WideElems.atKey_some kd_law F hl hm0 hk0 (z := (.held e0.val, [])) rfl] at hv
      injection hv
    · rw [Go.WideElems.atKey_none kd_law F hl hno] at hv
      injection hv
  subst hv0
  refine ⟨st, _, hE, ⟨rfl, rfl, rfl, by simp [setBlock], fun i _ hi => ChangeMaps.heap_setBlock_other hb _ (fun e => hi (by rw [e]))⟩, by simp [setBlock], fun W2 val h2 => ?_⟩
  have h3 : W2.heap[b]? = some (.map es1 clock1) := h2.trans (ChangeMaps.heap_setBlock_same hb _)
  obtain ⟨es', clock', hr1, hr2⟩ := hS W2 val h3
  obtain ⟨W', hru, hK, _, _⟩ := hup val
  rw [hr2] at hru
  injection hru with _ hru
  refine ⟨_, hr1, ?_, ⟨rfl, rfl, rfl, by simp [setBlock], fun i _ hi => ChangeMaps.heap_setBlock_other h3 _ (fun e => hi (by rw [e]))⟩, by simp [setBlock]⟩
  obtain ⟨D2, ⟨es2, clock2, hb2, F2, hs2, hD2⟩, hm2, ha2⟩ := hK
  rw [← hru] at hb2
  have hb3 := (ChangeMaps.heap_setBlock_same hb (.map es' clock')).symm.trans hb2
  injection hb3 with hb3
  injection hb3 with e1 e2
  subst e1; subst e2
  exact ⟨D2, ⟨_, _, ChangeMaps.heap_setBlock_same h3 _, F2, hs2, hD2⟩, hm2, ha2⟩
end
end Go.Proofs.Ytpphhhalmccnbaa
