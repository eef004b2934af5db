/-
  The document's Do.
-/
import Derived.Test.YtpphhhalmccnbaaUd
namespace Go.Proofs.Ytpphhhalmccnbaa
set_option maxRecDepth 100000
set_option linter.unusedVariables false
set_option linter.unusedSimpArgs false
open Go.RowKit

theorem own_litE (w : World) (base : Nat) (h : base ≤ w.heap.size) : REr.Own (w.alloc (.cells #[] 73)) base (.slice (some ⟨w.heap.size, 0, none⟩) 0 0) [] :=
  World.ownsRow_lit w #[] 0 h (by simp [maxLen]) rfl
theorem en_at (w : World) (e : En) : REr.At (w.alloc (.cells (etC e) 73)) (some ⟨w.heap.size, 0, none⟩) [e] := Rk.At.new re_okr w e 73
theorem own_slice {α : Type} {R : Rk α} (hR : R.Ok) {w : World} {B : Nat} {v : Value} {l : List α} {n : Nat} (h : R.Own w B v l) (hn : l.length = n) : ∃ A c, v = .slice A n c := by
  obtain ⟨A, c, e, _⟩ := h.form hR
  exact ⟨A, c, by rw [e, hn]⟩
theorem own_es {R : Rk En} (hR : R.Ok) {w : World} {B : Nat} {A : Option Addr} {n c : Nat} {l : List En} (h : R.Own w B (.slice A n c) l) (hk : ∀ e ∈ l, e.Ok) : EsAt R w A n l := by
  obtain ⟨A2, c2, e, _, hat, _⟩ := h.form hR
  injection e with e1 e2 e3
  subst e1
  exact ⟨e2.symm, hk, hat⟩

set_option maxHeartbeats 4000000 in
theorem refdo_any (A : Option Addr) (n a : Nat) (l : List En) (t c b : Int) (ht : okI t) (hc : okI c) (hb : okI b) (hn : n ≤ 900) (hsp : l = [] ∨ Sp A) (w : World) (hl : EsAt REr w A n l) :
    Calls Try.prog 11 #[liV A n a, .int .i64 t, .int .i64 c, .int .i64 b] w fun r w' => Below w.heap.size w w' ∧ ∃ A' n' a', r = .returned (.tuple #[liV A' n' a', .int .i64 (doE l (newE t c b)).2]) ∧ EsAt REr w' A' n' (doE l (newE t c b)).1 := by
  have HL := Lib.hid hl
  have HOKE := Lib.hid (show (newE t c b).Ok from ⟨ht, hc, hb⟩)
  have HSP := Lib.hid hsp
  have HX := Lib.hid (((Bk.new w (liC A n a) 24).al (.cells (liC none 0 0) 24)).al (.cells (etC (newE t c b)) 73))
  have HZ := Bk.new (w.alloc (.cells (liC A n a) 24)) (liC none 0 0) 24
  rw [size_al] at HZ
  have HZ := Lib.hid (HZ.al (.cells (etC (newE t c b)) 73))
  have hs := fun V hV => refsane_any A n a l (by omega) V (HL.out.below hV)
  have hone := fun V => refone_any (newE t c b) V
  have HD : Hid (doE l (newE t c b) = if saneE l && (newE t c b).may then (if saneE (l ++ [newE t c b]) then (l ++ [newE t c b], 0) else ([], 13)) else ([], 1)) := rfl
  clear hl ht hc hb hsp
  have HE := Bk.new ((w.alloc (.cells (liC A n a) 24)).alloc (.cells (liC none 0 0) 24)) (etC (newE t c b)) 73
  rw [size_al, size_al] at HE
  have HE := Lib.hid HE
  have HB := Lib.hid (below_two (below_two (below_new w (.cells (liC A n a) 24)) (below_new _ (.cells (liC none 0 0) 24))) (below_new _ (.cells (etC (newE t c b)) 73)))
  have x0 := HX.out.c 0 _ rfl
  have HF := Lib.hid (fun (V : World) (h : Below w.heap.size w V) (k : Bk V (w.heap.size + 1) (liC none 0 0) 24) (v : Value) => h.setCell (show w.heap.size ≤ (⟨w.heap.size + 1, 0, none⟩ : Addr).block from by show _ ≤ w.heap.size + 1; omega) v)
  go_enter Try.func11, Try.ntmps11
  go_wp2_with fail
  refine (hs _ HB.out).mono ?_
  rintro r w1 ⟨rfl, hb⟩
  replace HX := Lib.hid (HX.out.below hb)
  replace HZ := Lib.hid (HZ.out.below hb)
  replace HE := Lib.hid (HE.out.below hb)
  replace HB := Lib.hid (HB.out.trans (hb.mono HB.out.size))
  clear hb hs x0
  cases hsa : saneE l with
  | false =>
    rw [hsa] at HD
    have HD2 := Lib.hid (show doE l (newE t c b) = ([], 1) from by rw [HD.out]; rfl)
    clear hsa
    have z0 : w1.cell? ⟨w.heap.size + 1, 0, none⟩ = some (.slice none 0 0) := HZ.out.c 0 _ rfl
    have f0 := HZ.out.fr 0
    go_wp2_with fail
    refine bodyPost_ret (v := .tuple #[liV none 0 0, .int .i64 1]) (by rw [results_cell_tmp rfl]; go_simp) rfl ⟨HF.out _ HB.out HZ.out _, none, 0, 0, by rw [HD2.out], by rw [HD2.out]; exact ⟨rfl, by simp, .inl rfl⟩⟩
  | true =>
    rw [hsa] at HD
    have e0 : w1.cell? ⟨w.heap.size + 1 + 1, 0, none⟩ = some (.int .i64 t) := HE.out.c 0 _ rfl
    have e1 : w1.cell? ⟨w.heap.size + 1 + 1, 1, none⟩ = some (.int .i64 c) := HE.out.c 1 _ rfl
    have e2 : w1.cell? ⟨w.heap.size + 1 + 1, 2, none⟩ = some (.int .i64 b) := HE.out.c 2 _ rfl
    have e3 : w1.cell? ⟨w.heap.size + 1 + 1, 3, none⟩ = some (.bool false) := HE.out.c 3 _ rfl
    clear hsa
    go_wp2_with fail
    refine (hone _).mono ?_
    rintro r w2 ⟨rfl, hb⟩
    replace HX := Lib.hid (HX.out.below hb)
    replace HZ := Lib.hid (HZ.out.below hb)
    replace HE := Lib.hid (HE.out.below hb)
    replace HB := Lib.hid (HB.out.trans (hb.mono HB.out.size))
    clear hb hone e0 e1 e2 e3
    cases hm : (newE t c b).may with
    | false =>
      rw [hm] at HD
      have HD2 := Lib.hid (show doE l (newE t c b) = ([], 1) from by rw [HD.out]; rfl)
      clear hm
      have z0 : w2.cell? ⟨w.heap.size + 1, 0, none⟩ = some (.slice none 0 0) := HZ.out.c 0 _ rfl
      have f0 := HZ.out.fr 0
      go_wp2_with fail
      refine bodyPost_ret (v := .tuple #[liV none 0 0, .int .i64 1]) (by rw [results_cell_tmp rfl]; go_simp) rfl ⟨HF.out _ HB.out HZ.out _, none, 0, 0, by rw [HD2.out], by rw [HD2.out]; exact ⟨rfl, by simp, .inl rfl⟩⟩
    | true =>
      rw [hm] at HD
      have HD2 := Lib.hid (show doE l (newE t c b) = if saneE (l ++ [newE t c b]) then (l ++ [newE t c b], 0) else ([], 13) from by rw [HD.out]; rfl)
      clear hm HD
      have HL2 := Lib.hid (HL.out.below HB.out)
      have x0 := HX.out.c 0 _ rfl
      have x1 := (HX.out.al (.cells #[] 73)).c 0 _ rfl
      go_upto_region 4 with fail
      go_wp2_with (first
        | (at_builtin; refine Rk.wpList_append2 re_okr rfl (.tmp 25) (.tmp 27) rfl w2.heap.size (.slice (some ⟨w2.heap.size, 0, none⟩) 0 0) [] l rfl (own_litE w2 _ (Nat.le_refl _)) A n a rfl (HL2.out.at'.below (below_new w2 _)) HL2.out.len HSP.out (by rw [HL2.out.len, List.length_nil]; omega) (by simp) ?_; intro v5 w5 hx1 hg1 ha1; have HO5 := Lib.hid hx1; have HB5 := Lib.hid (show Below w2.heap.size w2 w5 from Below.grown (below_new w2 _) hg1 (by simp) (fun k e => by have e : some w2.heap.size = some k := e; injection e with e; omega)); have HE5 := Lib.hid (HE.out.below HB5.out); have HX5 := Lib.hid (HX.out.below HB5.out); have HZ5 := Lib.hid (HZ.out.below HB5.out); have HB6 := Lib.hid (HB.out.trans (HB5.out.mono HB.out.size)); have HS5 := Lib.hid HB5.out.size; have e0 : w5.cell? ⟨w.heap.size + 1 + 1, 0, none⟩ = some (.int .i64 t) := HE5.out.c 0 _ rfl; have e1 : w5.cell? ⟨w.heap.size + 1 + 1, 1, none⟩ = some (.int .i64 c) := HE5.out.c 1 _ rfl; have e2 : w5.cell? ⟨w.heap.size + 1 + 1, 2, none⟩ = some (.int .i64 b) := HE5.out.c 2 _ rfl; have e3 : w5.cell? ⟨w.heap.size + 1 + 1, 3, none⟩ = some (.bool false) := HE5.out.c 3 _ rfl; clear hx1 hg1 ha1)
        | (at_builtin; refine Rk.wpList_append re_okr rfl (.tmp 29) (.tmp 31) rfl w2.heap.size v5 ([] ++ l) [newE t c b] rfl (HO5.out.below (below_new w5 (.cells (etC (newE t c b)) 73))) _ 1 1 rfl (en_at w5 (newE t c b)) rfl (.inr ⟨_, _, rfl⟩) (by rw [List.nil_append, HL2.out.len, List.length_singleton]; omega) (Nat.le_trans HS5.out (below_new w5 _).size) ?_; intro v8 w8 hx1 hg1 ha1; obtain ⟨A8, c8, rfl⟩ := own_slice re_okr hx1 (n := n + 1) (by rw [List.length_append, List.nil_append, HL2.out.len, List.length_singleton]); have HO8 := Lib.hid hx1; have HG8 := Lib.hid hg1; clear hx1 hg1 ha1 e0 e1 e2 e3)
        | fail)
      have HZL := Lib.hid HZ.out.lt
      have HB8 := Lib.hid (show Below w.heap.size w w8 from Below.grown (HB6.out.trans ((below_new w5 _).mono HB6.out.size)) HG8.out (Nat.le_trans HB6.out.size (below_new w5 _).size) (fun k e => by have h := (HO5.out.lt k e).1; have := HB.out.size; omega))
      have HZ8 := Lib.hid (show Bk w8 (w.heap.size + 1) (liC none 0 0) 24 from (HZ5.out.al _).far HG8.out (fun e => by have h := (HO5.out.lt _ e.symm).1; have := HZL.out; omega))
      rw [List.nil_append] at HO8
      have hok8 : ∀ e ∈ l ++ [newE t c b], e.Ok := fun e he => by
        rcases List.mem_append.mp he with he | he
        · exact HL.out.ok e he
        · simp at he; rw [he]; exact HOKE.out
      have HE8 := Lib.hid (own_es re_okr HO8.out hok8)
      have HOF := Lib.hid (fun g o (e : A8 = some ⟨g, o, none⟩) => show w2.heap.size ≤ g from by have h := (HO8.out.lt g (by rw [e]; rfl)).1; exact h)
      clear hok8 HO5 HO8 HE5 HX5 HZ5 HE HX HZ x0 x1
      refine (refsane_any A8 (n + 1) c8 (l ++ [newE t c b]) (by omega) w8 HE8.out).mono ?_
      rintro r w9 ⟨rfl, hb⟩
      have HZ9 := Lib.hid (HZ8.out.below hb)
      have HB9 := Lib.hid (HB8.out.trans (hb.mono HB8.out.size))
      have HE9 := Lib.hid (HE8.out.below hb)
      clear hb
      have z0 : w9.cell? ⟨w.heap.size + 1, 0, none⟩ = some (.slice none 0 0) := HZ9.out.c 0 _ rfl
      have f0 := HZ9.out.fr 0
      have HEN := Lib.hid (fun v => show EsAt REr (w9.setCell ⟨w.heap.size + 1, 0, none⟩ v) A8 (n + 1) (l ++ [newE t c b]) from HE9.out.turn ((Turn.refl (fun q => q = w.heap.size + 1) w9).setCell _ _ (.inl rfl)) (fun g o e h => by have h1 := HOF.out g o e; have := HZL.out; omega))
      cases hsb : saneE (l ++ [newE t c b]) with
      | false =>
        rw [hsb] at HD2
        have HD3 := Lib.hid (show doE l (newE t c b) = ([], 13) from by rw [HD2.out]; rfl)
        clear hsb
        go_wp2_with fail
        refine bodyPost_ret (v := .tuple #[liV none 0 0, .int .i64 13]) (by rw [results_cell_tmp rfl]; go_simp) rfl ⟨HF.out _ HB9.out HZ9.out _, none, 0, 0, by rw [HD3.out], by rw [HD3.out]; exact ⟨rfl, by simp, .inl rfl⟩⟩
      | true =>
        rw [hsb] at HD2
        have HD3 := Lib.hid (show doE l (newE t c b) = (l ++ [newE t c b], 0) from by rw [HD2.out]; rfl)
        clear hsb
        go_wp2_with fail
        refine bodyPost_ret (v := .tuple #[liV A8 (n + 1) c8, .int .i64 0]) (by rw [results_cell_tmp rfl]; go_simp) rfl ⟨HF.out _ HB9.out HZ9.out _, A8, n + 1, c8, by rw [HD3.out], by rw [HD3.out]; exact HEN.out _⟩
end Go.Proofs.Ytpphhhalmccnbaa
