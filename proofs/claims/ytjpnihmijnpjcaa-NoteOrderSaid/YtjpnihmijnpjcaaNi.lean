/-
  What bytes tell, the document's way: the reader that stands over them, the note under way. No walk yet.
-/
import Derived.Test.YtjpnihmijnpjcaaNy
import Derived.Test.YtjpnihmijnpjcaaNq
namespace Go.Proofs.Ytjpnihmijnpjcaa
set_option maxRecDepth 100000
set_option linter.unusedVariables false
set_option linter.unusedSimpArgs false
open Go.RowKit Wm Nn

/-! what comes out, way by way -/
section
variable {b : List UInt8}
theorem decE_a (h : b.length < 9) : decE b = 2 := by unfold decE; rw [if_pos h]
theorem decE_b (h : ¬ b.length < 9) (h1 : 256 < mOf b) : decE b = 3 := by unfold decE; rw [if_neg h, if_pos h1]
theorem decE_c (h1 : ¬ 256 < mOf b) (h2 : b.length < 11 + 33 * mOf b) : decE b = 2 := by
  unfold decE
  by_cases h : b.length < 9
  · rw [if_pos h]
  · rw [if_neg h, if_neg h1, if_pos h2]
theorem decE_d (h1 : ¬ 256 < mOf b) (h2 : ¬ b.length < 11 + 33 * mOf b) (h3 : 256 < qOf b) : decE b = 3 := by unfold decE; rw [if_neg (by omega), if_neg h1, if_neg h2, if_pos h3]
theorem decE_e (h1 : ¬ 256 < mOf b) (h2 : ¬ b.length < 11 + 33 * mOf b) (h3 : ¬ 256 < qOf b) (h4 : b.length < 11 + 33 * mOf b + 9 * qOf b) : decE b = 2 := by unfold decE; rw [if_neg (by omega), if_neg h1, if_neg h2, if_neg h3, if_pos h4]
theorem decE_f (h1 : ¬ 256 < mOf b) (h3 : ¬ 256 < qOf b) (h4 : ¬ b.length < 11 + 33 * mOf b + 9 * qOf b) (h5 : 11 + 33 * mOf b + 9 * qOf b < b.length ∨ ¬ San (tell b)) : decE b = 3 := by unfold decE; rw [if_neg (by omega), if_neg h1, if_neg (by omega), if_neg h3, if_neg h4, if_pos h5]
theorem decE_g (h1 : ¬ 256 < mOf b) (h3 : ¬ 256 < qOf b) (h4 : b.length = 11 + 33 * mOf b + 9 * qOf b) (h5 : San (tell b)) : decE b = 0 := by
  unfold decE
  rw [if_neg (by omega), if_neg h1, if_neg (by omega), if_neg h3, if_neg (by omega), if_neg (fun h => by rcases h with h | h; omega; exact h h5)]
theorem decN_ok (h : decE b = 0) : decN b = tell b := by unfold decN; rw [if_pos h]
theorem num_one {k : Nat} (h : k < b.length) : num b k 1 = (b[k]'h).toNat := by
  unfold num
  rw [List.drop_eq_getElem_cons h]
  show valB [_] = _
  simp only [valB]
  omega
theorem sgnI_ok (v : Nat) : okI (sgnI (v : Int)) := by
  unfold okI sgnI wrap64
  omega
theorem num_okI (i : Nat) {n : Nat} (hn : n ≤ 7) : okI (num b i n : Nat) := by
  have h := num_lt b i n
  have h2 : 256 ^ n ≤ 256 ^ 7 := Nat.pow_le_pow_right (by omega) hn
  have h3 : (256 : Nat) ^ 7 = 72057594037927936 := by decide
  unfold okI
  omega
theorem tell_op (i : Nat) (y : Od) (h : (tell b).op[i]? = some y) : okI y.c ∧ okI y.b := by
  have h2 : (tOps b (11 + 33 * mOf b) (qOf b))[i]? = some y := h
  unfold tOps at h2
  rw [List.getElem?_map] at h2
  cases hr : (List.range (qOf b))[i]? with
  | none => rw [hr] at h2; cases h2
  | some j =>
    rw [hr] at h2
    injection h2 with h2
    subst h2
    exact ⟨num_okI _ (by omega), sgnI_ok _⟩
theorem tell_small (h1 : ¬ 256 < mOf b) (h3 : ¬ 256 < qOf b) : SmallN (tell b) := by
  refine ⟨?_, ?_, fun i y h => ?_⟩
  · show (tIms b (mOf b)).length ≤ 1000
    rw [tIms_len]; omega
  · show (tOps b _ (qOf b)).length ≤ 1000
    rw [tOps_len]; omega
  · have h2 : (tIms b (mOf b))[i]? = some y := h
    unfold tIms at h2
    rw [List.getElem?_map] at h2
    cases hr : (List.range (mOf b))[i]? with
    | none => rw [hr] at h2; cases h2
    | some j =>
      rw [hr] at h2
      injection h2 with h2
      subst h2
      show ((b.drop _).take 32).length ≤ 1000
      rw [List.length_take]
      omega
end

/-- the given reader over the bytes, in its block, ahead of it the answer's -/
structure Dec (w V : World) (z rr : Nat) (A : Option Addr) (c n k : Nat) (l : List UInt8) : Prop where
  zb : Bk V z (ntC .zero nr0) 25
  cu : Cur V rr 66 A c n k l
  be : Below w.heap.size w V
  zw : w.heap.size ≤ z
  zr : z < rr
section
variable {w V W : World} {z rr c n k j : Nat} {A : Option Addr} {l : List UInt8} {S : Nat → Prop}
theorem Dec.below (h : Dec w V z rr A c n k l) (hb : Below V.heap.size V W) : Dec w W z rr A c n k l := ⟨h.zb.below hb, h.cu.below hb, h.be.trans (hb.mono h.be.size), h.zw, h.zr⟩
theorem Dec.turn (h : Dec w V z rr A c n k l) (ht : Turn S V W) (hS : ∀ k, S k → rr < k) : Dec w W z rr A c n k l := by
  have hr := h.zr
  have hz := h.zw
  have hl := h.cu.lt
  refine ⟨h.zb.turn ht (fun h => by have := hS _ h; omega), ⟨(ht.block rr hl (fun h => by have := hS _ h; omega)).trans h.cu.blk, h.cu.le, h.cu.len, h.cu.cap_, h.cu.nm, h.cu.rd.below (ht.below (fun k hk => by have := hS k hk; omega) (by omega))⟩, h.be.trans (ht.below (fun k hk => by have := hS k hk; omega) h.be.size), hz, hr⟩
theorem Dec.move (h : Dec w V z rr A c n k l) (hc : Cur W rr 66 A c n j l) (hg : V.grownBy W (some rr)) : Dec w W z rr A c n j l :=
  ⟨h.zb.far hg (fun e => by have := h.zr; injection e with e; omega), hc, h.be.grown hg h.be.size (fun k hk => by have := h.zr; have := h.zw; injection hk with hk; omega), h.zw, h.zr⟩
theorem dget (h : Dec w V z rr A c n k l) (N : Int) (m j : Nat) (hN : N = (m : Int)) (h1 : 1 ≤ m) (h8 : m ≤ 8) (hj : k + m = j) (hle : j ≤ n) :
    Calls Try.prog 31 #[.pointer (some ⟨rr, 0, none⟩), .int .i64 N] V fun e W => e = .returned (.tuple #[.int .u64 (num l k m : Int), .int .i64 0]) ∧ Hid (Dec w W z rr A c n j l) ∧ Hid (V.grownBy W (some rr)) := by
  subst hN
  subst hj
  exact (refget_ok h.cu m h1 h8 (by omega)).mono fun e W ⟨e1, e2, e3⟩ => ⟨e1, Lib.hid (h.move e2 e3), Lib.hid e3⟩
theorem dshort (h : Dec w V z rr A c n k l) (N : Int) (h1 : 1 ≤ N) (h8 : N ≤ 8) (hle : (n : Int) - k < N) :
    Calls Try.prog 31 #[.pointer (some ⟨rr, 0, none⟩), .int .i64 N] V fun e W => e = .returned (.tuple #[.int .u64 0, .int .i64 2]) ∧ Hid (Dec w W z rr A c n k l) ∧ Hid (V.grownBy W (some rr)) :=
  (refget_short h.cu N h1 h8 hle).mono fun e W ⟨e1, q, e2⟩ => by
    subst e2
    exact ⟨e1, Lib.hid (h.move (h.cu.drewN q) (grown_of_drewN V q _)), Lib.hid (grown_of_drewN V q _)⟩
theorem dleft (h : Dec w V z rr A c n k l) :
    Calls Try.prog 32 #[.pointer (some ⟨rr, 0, none⟩)] V fun e W => e = .returned (.int .i64 ((n : Int) - (k : Int))) ∧ Hid (Dec w W z rr A c n k l) ∧ Hid (V.grownBy W (some rr)) :=
  (refleft_any h.cu).mono fun e W ⟨e1, q, e2⟩ => by
    subst e2
    exact ⟨e1, Lib.hid (h.move (h.cu.drewN q) (grown_of_drewN V q _)), Lib.hid (grown_of_drewN V q _)⟩
end
set_option maxHeartbeats 400000 in
theorem refsignedr_short {w : World} {r t cap n k : Nat} {A : Option Addr} {l : List UInt8} (h : Cur w r t A cap n k l) (hm : n - k < 8) :
    Calls Try.prog 33 #[.pointer (some ⟨r, 0, none⟩)] w fun e w' => e = .returned (.tuple #[.int .i64 0, .int .i64 2]) ∧ ∃ m, w' = w.drewN m := by
  have b1 := h.le
  go_enter Try.func33, Try.ntmps33
  go_wp2_with (go_at_call 31; refine (refget_short h 8 (by omega) (by omega) (by omega)).mono ?_; rintro e w2 ⟨rfl, q, rfl⟩)
  go_ret2
  exact ⟨rfl, _, rfl⟩
section
variable {w V W : World} {z rr c n k j : Nat} {A : Option Addr} {l : List UInt8} {S : Nat → Prop}
theorem dsigned (h : Dec w V z rr A c n k l) (j : Nat) (hj : k + 8 = j) (hle : j ≤ n) :
    Calls Try.prog 33 #[.pointer (some ⟨rr, 0, none⟩)] V fun e W => e = .returned (.tuple #[.int .i64 (sgnI (num l k 8 : Nat)), .int .i64 0]) ∧ Hid (Dec w W z rr A c n j l) ∧ Hid (V.grownBy W (some rr)) := by
  subst hj
  exact (refsignedr_ok h.cu (by omega)).mono fun e W ⟨e1, e2, e3⟩ => ⟨e1, Lib.hid (h.move e2 e3), Lib.hid e3⟩
theorem dsigned_short (h : Dec w V z rr A c n k l) (hm : n - k < 8) :
    Calls Try.prog 33 #[.pointer (some ⟨rr, 0, none⟩)] V fun e W => e = .returned (.tuple #[.int .i64 0, .int .i64 2]) ∧ Hid (Dec w W z rr A c n k l) ∧ Hid (V.grownBy W (some rr)) :=
  (refsignedr_short h.cu hm).mono fun e W ⟨e1, q, e2⟩ => by
    subst e2
    exact ⟨e1, Lib.hid (h.move (h.cu.drewN q) (grown_of_drewN V q _)), Lib.hid (grown_of_drewN V q _)⟩
/-- nothing is told -/
theorem Dec.no (h : Dec w V z rr A c n k l) (hg : V.grownBy W (some z)) {E : Int} (hE : decE l = E) (h0 : E ≠ 0) : DecodeOut w (decN l) (decE l) A n (.returned (.tuple #[.agg (ntC .zero nr0), .int .i64 E])) W := by
  rw [not_told (by rw [hE]; exact h0), hE]
  exact ⟨nr0, rfl, nt_zero _, h.be.grown hg h.be.size (fun k hk => by injection hk with hk; have := h.zw; omega), fun z _ _ => nr0_off z⟩
/-- the byte at the place -/
theorem Dec.byte (h : Dec w V z rr A c n k l) (hk : k < n) : ∃ (b o y : Nat), A = some ⟨b, o, none⟩ ∧ b < rr ∧ V.cell? ⟨b, o + k, none⟩ = some (.int .u8 (y : Int)) ∧ y ≤ 255 ∧ num l k 1 = y := by
  have hl := h.cu.len
  obtain ⟨b, o, e, hb, hc⟩ := h.cu.rd.cell (j := k) (by omega)
  exact ⟨b, o, (l[k]'(by omega)).toNat, e, hb, hc, by have := (l[k]'(by omega)).toNat_lt; omega, num_one (by omega)⟩
end

/-! the note under way -/
def outK (k s : Int) (V U : Value) : Array Value := #[.int .i64 k, .int .i64 s, V, U]
theorem Lies.turn {w W : World} {S : Nat → Prop} {A : Option Addr} {c n : Nat} {l : List UInt8} (h : Lies w A c n l) (ht : Turn S w W) (hA : ∀ b o, A = some ⟨b, o, none⟩ → ¬ S b) : Lies W A c n l := by
  refine ⟨?_, h.len, h.cap⟩
  rcases h.rd with e | ⟨b, o, e, hb, hc⟩
  · exact .inl e
  · exact .inr ⟨b, o, e, Nat.lt_of_lt_of_le hb ht.size, fun j x hx => ht.cell (hc j x hx) (hA b o e)⟩
/-- images under way: the row is the call's own, and so are their bytes, each in a block of its own, none of them the ops' -/
structure Imz (w : World) (g : Nat) (V U : Value) (rs : List Ir) (l : List Im) : Prop where
  own : RI.Own w (g + 1) V rs
  rl : rs.length = l.length
  vu : ∀ k, V.ownBlock = some k → U.ownBlock ≠ some k
  each : ∀ (i : Nat) (r : Ir) (x : Im), rs[i]? = some r → l[i]? = some x → r.k = x.k ∧ Lies w r.a r.c r.n x.d ∧ okI x.k ∧ ∃ b, r.a = some ⟨b, 0, none⟩ ∧ g < b ∧ b < w.heap.size ∧ V.ownBlock ≠ some b ∧ U.ownBlock ≠ some b
section
variable {w W V1 w8 : World} {g : Nat} {V U V' U' : Value} {rs : List Ir} {l : List Im} {S : Nat → Prop} {k s : Int} {t : TypeId}
theorem Imz.nil (w : World) (g : Nat) : Imz w g (.slice none 0 0) (.slice none 0 0) [] [] := ⟨Rk.Own.nil _ _ _, rfl, fun k hk => (by cases hk), fun i r x h => (by simp at h)⟩
theorem Imz.turn (h : Imz w g V U rs l) (ht : Turn S w W) (hS : ∀ k, S k → k ≤ g ∨ U.ownBlock = some k) : Imz W g V U rs l := by
  refine ⟨h.own.turn ht (fun k hk hs => ?_), h.rl, h.vu, fun i r x hr hx => ?_⟩
  · have h1 := h.own.lt k hk
    rcases hS k hs with h2 | h2
    · omega
    · exact h.vu k hk h2
  · obtain ⟨e1, e2, e3, b, e4, e5, e6, e7, e8⟩ := h.each i r x hr hx
    refine ⟨e1, e2.turn ht (fun q o e hs => ?_), e3, b, e4, e5, Nat.lt_of_lt_of_le e6 ht.size, e7, e8⟩
    rw [e4] at e
    injection e with e
    injection e with e _
    subst e
    rcases hS b hs with h2 | h2
    · omega
    · exact e8 h2
theorem Imz.below (h : Imz w g V U rs l) (hb : Below w.heap.size w W) : Imz W g V U rs l := h.turn (S := fun _ => False) (Turn.ofBelow hb) (fun _ h => h.elim)
/-- one image more, its bytes in a block that is new -/
theorem Imz.more (h : Imz w g V U rs l) (hU : U.ownBlock = none) (hB : Below w.heap.size w V1) {b' c' : Nat} {y : Int} {d : List UInt8} (hL : Lies V1 (some ⟨b', 0, none⟩) c' 32 d) (hb : w.heap.size ≤ b') (hbV : b' < V1.heap.size) (hy : okI y) (hO8 : RI.Own w8 (g + 1) V' (rs ++ [⟨y, some ⟨b', 0, none⟩, 32, c'⟩])) (hg8 : V1.grownBy w8 V.ownBlock) (ha8 : V'.ownBlock = V.ownBlock ∨ V'.ownBlock = some V1.heap.size) (hG : Bk w g (outK k s V U) t) :
    Imz (w8.setCell ⟨g, 2, none⟩ V') g V' U (rs ++ [⟨y, some ⟨b', 0, none⟩, 32, c'⟩]) (l ++ [⟨y, d⟩]) ∧ Bk (w8.setCell ⟨g, 2, none⟩ V') g (outK k s V' U) t ∧ Turn (fun q => q = g ∨ V.ownBlock = some q) w (w8.setCell ⟨g, 2, none⟩ V') := by
  have hgl := hG.lt
  have hs := setCell_grown w8 g 2 V'
  have hT8 : Turn (fun q => V.ownBlock = some q) V1 w8 := (Turn.refl _ _).grown hg8 (fun q e => .inl e)
  have hT9 : Turn (fun q => q = g ∨ V.ownBlock = some q) V1 (w8.setCell ⟨g, 2, none⟩ V') := (hT8.mono (fun q e => .inr e)).grown hs (fun q e => by injection e with e; exact .inl (.inl e.symm))
  have hTw : Turn (fun q => q = g ∨ V.ownBlock = some q) w (w8.setCell ⟨g, 2, none⟩ V') := (Turn.ofBelow hB).trans hT9
  have hG8 : Bk w8 g (outK k s V U) t := (hG.below hB).far hg8 (fun e => by have := h.own.lt g e.symm; omega)
  have hvb : ∀ q, V.ownBlock = some q → g < q ∧ q < w.heap.size := fun q e => by have := h.own.lt q e; omega
  have hB1 := hB.size
  have h8s := hT8.size
  have h9s := hT9.size
  refine ⟨⟨?_, by simp [h.rl], fun q hq => by rw [hU]; simp, fun i r x hr hx => ?_⟩, hG8.set 2 V', hTw⟩
  · refine hO8.turn (S := fun k => k = g) ⟨hs.os, hs.tape, hs.output, hs.size, fun k hk hn => hs.block k hk (fun e => hn (by injection e with e))⟩ (fun q hq e => by have := hO8.lt q hq; omega)
  · rcases Nat.lt_or_ge i rs.length with hi | hi
    · rw [List.getElem?_append_left hi] at hr
      rw [List.getElem?_append_left (by rw [← h.rl]; exact hi)] at hx
      obtain ⟨e1, e2, e3, b, e4, e5, e6, e7, e8⟩ := h.each i r x hr hx
      refine ⟨e1, e2.turn hTw (fun q o e hq => ?_), e3, b, e4, e5, by omega, fun e => ?_, e8⟩
      · rw [e4] at e
        injection e with e
        injection e with e _
        subst e
        rcases hq with hq | hq
        · omega
        · exact e7 hq
      · rcases ha8 with h1 | h1
        · rw [h1] at e; exact e7 e
        · rw [h1] at e; injection e with e; omega
    · rw [List.getElem?_append_right hi] at hr
      rw [List.getElem?_append_right (by rw [← h.rl]; exact hi), ← h.rl] at hx
      obtain ⟨q, hq⟩ : ∃ q, i - rs.length = q := ⟨_, rfl⟩
      rw [hq] at hr hx
      cases q with
      | succ q => simp at hr
      | zero =>
        simp at hr hx
        subst hr; subst hx
        refine ⟨rfl, hL.turn hT9 (fun q o e hq => ?_), hy, b', rfl, by omega, by omega, fun e => ?_, by rw [hU]; simp⟩
        · injection e with e
          injection e with e _
          subst e
          rcases hq with hq | hq
          · omega
          · have := hvb _ hq; omega
        · rcases ha8 with h1 | h1
          · rw [h1] at e; have := hvb _ e; omega
          · rw [h1] at e; injection e with e; omega
/-- one op more -/
theorem Imz.ops (h : Imz w g V U rs l) {os : List Od} {x : Od} (hO : RO.Own w (g + 1) U os) (hB : Below w.heap.size w V1) (hO8 : RO.Own w8 (g + 1) U' (os ++ [x])) (hg8 : V1.grownBy w8 U.ownBlock) (ha8 : U'.ownBlock = U.ownBlock ∨ U'.ownBlock = some V1.heap.size) (hG : Bk w g (outK k s V U) t) :
    Imz (w8.setCell ⟨g, 3, none⟩ U') g V U' rs l ∧ Bk (w8.setCell ⟨g, 3, none⟩ U') g (outK k s V U') t ∧ RO.Own (w8.setCell ⟨g, 3, none⟩ U') (g + 1) U' (os ++ [x]) ∧ Turn (fun q => q = g ∨ U.ownBlock = some q) w (w8.setCell ⟨g, 3, none⟩ U') := by
  have hgl := hG.lt
  have hs := setCell_grown w8 g 3 U'
  have hT8 : Turn (fun q => U.ownBlock = some q) V1 w8 := (Turn.refl _ _).grown hg8 (fun q e => .inl e)
  have hTw : Turn (fun q => q = g ∨ U.ownBlock = some q) w (w8.setCell ⟨g, 3, none⟩ U') := (Turn.ofBelow hB).trans ((hT8.mono (fun q e => .inr e)).grown hs (fun q e => by injection e with e; exact .inl (.inl e.symm)))
  have hG8 : Bk w8 g (outK k s V U) t := (hG.below hB).far hg8 (fun e => by have := hO.lt g e.symm; omega)
  have hB1 := hB.size
  have h2 := h.turn hTw (fun q hq => hq.imp (fun e => by omega) id)
  refine ⟨⟨h2.own, h2.rl, fun q hq e => ?_, fun i r x hr hx => ?_⟩, hG8.set 3 U', ?_, hTw⟩
  · rcases ha8 with h1 | h1
    · rw [h1] at e; exact h.vu q hq e
    · rw [h1] at e; injection e with e; have := h.own.lt q hq; omega
  · obtain ⟨e1, e2, e3, b, e4, e5, e6, e7, e8⟩ := h2.each i r x hr hx
    obtain ⟨_, _, _, b2, f4, _, f6, _, _⟩ := h.each i r x hr hx
    refine ⟨e1, e2, e3, b, e4, e5, e6, e7, fun e => ?_⟩
    rw [e4] at f4
    injection f4 with f4
    injection f4 with f4 _
    subst f4
    rcases ha8 with h1 | h1
    · rw [h1] at e; exact e8 e
    · rw [h1] at e; injection e with e; omega
  · refine hO8.turn (S := fun k => k = g) ⟨hs.os, hs.tape, hs.output, hs.size, fun k hk hn => hs.block k hk (fun e => hn (by injection e with e))⟩ (fun q hq e => by have := hO8.lt q hq; omega)
/-- the note that came of it -/
theorem Imz.note {x : Nt} {A B : Option Addr} {n c m d : Nat} (h : Imz w g (.slice A n c) (.slice B m d) rs x.im) (hO : RO.Own w (g + 1) (.slice B m d) x.op) (hk : okI x.kind) (hs : okI x.seq) (ho : ∀ (i : Nat) (y : Od), x.op[i]? = some y → okI y.c ∧ okI y.b) :
    NtAt w x ⟨A, n, c, B, m, d, rs⟩ ∧ ∀ z, z ≤ g → Nr.Off ⟨A, n, c, B, m, d, rs⟩ z := by
  obtain ⟨A', c', e, hc, ha, hf⟩ := h.own.form ri_ok
  injection e with e1 e2 e3
  obtain ⟨B', d', e', hc', ha', hf'⟩ := hO.form ro_ok
  injection e' with e1' e2' e3'
  subst e1 e2 e3 e1' e2' e3'
  refine ⟨⟨⟨ha, rfl, h.rl.symm, hc, ?_, fun i r x hr hx => ?_⟩, ⟨ha', rfl, hc', ?_, ho⟩, hk, hs⟩, fun z hz => ⟨off_own h.own (by omega), off_own hO (by omega), fun q hq b o e => ?_⟩⟩
  · rcases hf with h | ⟨g, h, _⟩
    · exact .inl h
    · exact .inr ⟨g, 0, h⟩
  · obtain ⟨e1, e2, e3, _⟩ := h.each i r x hr hx
    exact ⟨e1, e2, e3⟩
  · rcases hf' with h | ⟨g, h, _⟩
    · exact .inl h
    · exact .inr ⟨g, 0, h⟩
  · obtain ⟨i, hi⟩ := List.mem_iff_getElem?.1 hq
    replace hi : rs[i]? = some q := hi
    obtain ⟨y, hy⟩ : ∃ y, x.im[i]? = some y := ⟨_, List.getElem?_eq_getElem (by have := (List.getElem?_eq_some_iff.1 hi).1; have := h.rl; omega)⟩
    obtain ⟨_, _, _, b2, f4, f5, _⟩ := h.each i q y hi hy
    rw [e] at f4
    injection f4 with f4
    injection f4 with f4 _
    exact .inr (fun e2 => by omega)
end

/-! rows made in a region that draws -/
theorem wp_region_turn {P : Program} {ops : Array Oper} {Q : Exit → Act → World → Prop} {X : Nat → Prop} {id : Nat} {a : Act} {w : World} (hm : P.follows .mixedOrders = true)
    (h : wpAnyH P .any ops Q (Turn X w) ops.size (Array.replicate ops.size false) a w.drew) : (Code.region id ops true).wp P Q a w :=
  wp_region_held_drew hm ((Turn.refl _ _).drew) (fun _ => h)
theorem wp_build_none {W : World} {o : Oper} {a : Act} {K : Act → World → Prop} {Q : Exit → Act → World → Prop} (ho : o.op = .buildSlice 26 0 #[])
    (h : ∀ w' h', W.heap.size ≤ h' → Owns w' h' (some ⟨h', 0, none⟩) 0 0 [] → h' < w'.heap.size → Below W.heap.size W w' → K (a.put o.dst (.slice (some ⟨h', 0, none⟩) 0 0)) w') : o.wp Try.prog a W K Q := by
  have hown0 : (W.alloc (.cells #[] 5)).ownsRow W.heap.size 5 1 (.slice (some ⟨W.heap.size, 0, none⟩) 0 0) 0 [] := World.ownsRow_lit W #[] 0 (Nat.le_refl _) (by simp [maxLen]) rfl
  have hk := h _ _ (Nat.le_refl _) hown0 (by simp) (below_new W _)
  clear h
  unfold Oper.wp execOp
  simp only [ho]
  go_simp
  exact hk
theorem wp_build_im {W : World} {o : Oper} {a : Act} {K : Act → World → Prop} {Q : Exit → Act → World → Prop} (x : Operand) (ho : o.op = .buildSlice 22 1 #[(0, x)]) (b : Int) (A : Option Addr) (n c : Nat) (hx : a.eval x = imV b A n c)
    (h : ∀ w' h', W.heap.size ≤ h' → h' < w'.heap.size → RI.At w' (some ⟨h', 0, none⟩) [⟨b, A, n, c⟩] → Below W.heap.size W w' → K (a.put o.dst (.slice (some ⟨h', 0, none⟩) 1 1)) w') : o.wp Try.prog a W K Q := by
  have hx' : a.eval x = .agg #[.int .i64 b, .slice A n c] := hx
  unfold Oper.wp execOp
  simp only [ho, List.map_toArray, List.map_cons, List.map_nil, hx']
  go_simp
  exact h _ _ (Nat.le_refl _) (by simp) (Rk.At.new ri_ok W ⟨b, A, n, c⟩ 51) (below_new W _)
/-- the 32 bytes that are cut out, as a row of their own -/
theorem wp_app32 {W : World} {h : Nat} {o : Oper} {a : Act} {K : Act → World → Prop} {Q : Exit → Act → World → Prop} (how : Owns W h (some ⟨h, 0, none⟩) 0 0 []) (hh : h ≤ W.heap.size) (s x : Operand)
    (ho : o.op = .call { callee := .builtin .append, args := #[s, x], argTypes := #[26, 26] }) (hs : a.eval s = .slice (some ⟨h, 0, none⟩) 0 0) (A2 : Option Addr) (l2 : List UInt8) (m c2 : Nat) (hx : a.eval x = .slice A2 m c2) (hm3 : m = 32) (hr : Rd W W.heap.size A2 l2) (hm : l2.length = 32)
    (k : ∀ b' c' V', Lies V' (some ⟨b', 0, none⟩) c' 32 l2 → h ≤ b' → b' < V'.heap.size → W.grownBy V' (some h) → K (a.put o.dst (.slice (some ⟨b', 0, none⟩) 32 c')) V') : o.wp Try.prog a W K Q := by
  subst hm3
  obtain ⟨i0, hi, hz0, hz1, hz2⟩ := info_parts byte_info
  refine wp_append_rd s x _ ho h i0 Try.underlying26 hi hz0 hz1 hz2 (.slice (some ⟨h, 0, none⟩) 0 0) 0 [] hs how W.heap.size A2 l2 32 c2 hx hr hm (by omega) hh ?_
  intro v V' hown hg _
  have hl : V'.ownsRow h 5 1 v 32 (byteVs l2) := by simpa using hown
  obtain ⟨A1, c1, rfl, ho1⟩ := own_form hl
  have hne : ∃ b', A1 = some ⟨b', 0, none⟩ := by
    have h1 := hl.2
    rcases h1 with ⟨_, h2⟩ | ⟨q, c, cur, e, _⟩
    · exact absurd h2 (by decide)
    · injection e with e _ _
      exact ⟨q, e⟩
  obtain ⟨b', rfl⟩ := hne
  have hbk := ho1.block ⟨b', 0, none⟩ rfl
  exact k b' c1 V' ho1.lies hbk.1 hbk.2 hg
end Go.Proofs.Ytjpnihmijnpjcaa
