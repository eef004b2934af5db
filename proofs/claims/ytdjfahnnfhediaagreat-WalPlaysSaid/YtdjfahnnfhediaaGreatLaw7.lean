/-
  What the statements of this layer share: some bytes; a log that all calls go to, with all that was there as it was.
-/
import Derived.Test.YtdjfahnnfhediaaGreatAppend7
import Derived.Test.YtdjfahnnfhediaaGreatTrail
namespace Go.Proofs.YtdjfahnnfhediaaGreat
set_option maxRecDepth 100000
open Go.RowKit Crc Wm

theorem wrap_u8 (x : Int) : IntKind.u8.wrap x = x % 256 := by
  simp [IntKind.wrap, IntKind.signed, IntKind.bits]

/-- so many bytes, from one on -/
def someB (n : Nat) (c : UInt8) : List UInt8 := (List.range n).map fun i => UInt8.ofNat (c.toNat + i)
theorem length_someB (n : Nat) (c : UInt8) : (someB n c).length = n := by unfold someB; simp
theorem someB_get (n : Nat) (c : UInt8) (i : Nat) (h : i < n) : (someB n c)[i]? = some (UInt8.ofNat (c.toNat + i)) := by
  unfold someB
  rw [List.getElem?_map, List.getElem?_range h]
  rfl
def partB (l : List UInt8) (n i : Nat) : List UInt8 := l.take i ++ List.replicate (n - i) 0
theorem length_partB {l : List UInt8} {n i : Nat} (h : l.length = n) (hi : i ≤ n) : (partB l n i).length = n := by
  unfold partB; rw [List.length_append, List.length_take, List.length_replicate]; omega
theorem partB_set {l : List UInt8} {n i : Nat} {x : UInt8} (h : l.length = n) (hx : l[i]? = some x) : (partB l n i).set i x = partB l n (i + 1) := by
  have hi : i < n := by have := (List.getElem?_eq_some_iff.1 hx).1; omega
  unfold partB
  have hl : (l.take i).length = i := by rw [List.length_take]; omega
  rw [List.set_append_right _ _ (by omega), hl, Nat.sub_self, List.take_add_one, hx, List.append_assoc]
  congr 1
  rw [show n - i = (n - (i + 1)) + 1 from by omega, List.replicate_succ]
  rfl

def SomeOut (w : World) (n : Nat) (c : UInt8) (e : Ending) (w' : World) : Prop := ∃ A cap, e = .returned (.slice A n cap) ∧ Owns w' w.heap.size A cap n (someB n c) ∧ Below w.heap.size w w'

set_option maxHeartbeats 1000000 in
theorem some_any (n : Nat) (hn : n ≤ 1000) (c : UInt8) (w : World) : Calls Tryz.prog 23 #[.int .i64 (n : Int), .int .u8 (c.toNat : Int)] w (SomeOut w n c) := by
  obtain ⟨i0, hi, hz0, hz1, hz2⟩ := info_parts byte_facts
  have HLN := Lib.hid (length_someB n c)
  have HGT := Lib.hid (someB_get n c)
  have HC := Lib.hid (show c.toNat < 256 from c.toNat_lt)
  generalize hsl : someB n c = l at HLN HGT
  go_enter Tryz.func23, Tryz.ntmps23
  go_wp2_with (at_make; refine wpList_make_full _ rfl _ _ _ rfl w.heap.size 5 i0 _ 1 Tryz.underlying41 hi hz0 hz1 _ _ _ _ n rfl rfl rfl rfl (by rw [hz2]; omega) (by unfold maxLen; omega) (Nat.le_refl _) ?_; intro w1 hown1 hg1)
  have HB1 : Hid (Below w.heap.size w w1) := Lib.hid ((Below.refl w.heap.size w).grown hg1 (Nat.le_refl _) (by simp))
  have HO1 : Hid (Owns w1 w.heap.size (some ⟨w.heap.size, 0, none⟩) n n (partB l n 0)) := by
    have := made_zeros hown1
    unfold partB
    rw [List.take_zero, List.nil_append, Nat.sub_zero]
    exact this
  clear hown1 hg1 hi hz0 hz1 hz2
  go_loopw [6] (fun u wr => ∃ i : Nat, u = .int .i64 (i : Int) ∧ i ≤ n ∧ Hid (Owns wr w.heap.size (some ⟨w.heap.size, 0, none⟩) n n (partB l n i)) ∧ Hid (Below w.heap.size w wr)) (fun u _ => n - (intOf u).toNat)
  case atStart => exact ⟨0, rfl, Nat.zero_le _, HO1, HB1⟩
  case round =>
    obtain ⟨i, rfl, hi, HO, HB⟩ := hrel
    rcases Nat.lt_or_ge i n with hlt | hge
    · obtain ⟨g, hge, _, _, hc, hf⟩ := HO.out.at_ (by omega)
      injection hge with hge
      injection hge with hge
      subst hge
      have hpl : i < (partB l n i).length := by rw [length_partB HLN.out hi]; exact hlt
      obtain ⟨y0, hy0⟩ : ∃ y, (partB l n i)[i]? = some y := ⟨_, List.getElem?_eq_getElem hpl⟩
      have k0 := hc i y0 hy0
      have f0 := hf i
      unfold byteV at k0
      have HX := Lib.hid (HGT.out i hlt)
      obtain ⟨x, hx⟩ : ∃ x, UInt8.ofNat (c.toNat + i) = x := ⟨_, rfl⟩
      have hxn : (x.toNat : Int) = ((c.toNat : Int) + (i : Int)) % 256 := by
        rw [← hx, toNat_ofNat]
        omega
      have hw1 : IntKind.u8.wrap ((c.toNat : Int) + IntKind.u8.wrap (i : Int)) = (x.toNat : Int) := by
        rw [wrap_u8, wrap_u8, hxn]
        omega
      have hw2 : IntKind.u8.wrap ((c.toNat : Int) + (i : Int) % 256) = (x.toNat : Int) := by
        rw [wrap_u8, hxn]
        omega
      rw [hx] at HX
      have hdj : decide ((i : Int) < (n : Int)) = true := decide_eq_true (by omega)
      have hdj2 : decide (i < n) = true := decide_eq_true hlt
      have HS := Lib.hid (HO.out.set_ i x hlt)
      rw [partB_set HLN.out HX.out] at HS
      unfold byteV at HS
      have HB2 : Hid (Below w.heap.size w (wr.setCell ⟨w.heap.size, i, none⟩ (.int .u8 (x.toNat : Int)))) := HB.out.setCell (Nat.le_refl _) _
      clear hc hf hy0 hpl hxn hx
      go_wp2_with fail
      refine ⟨⟨i + 1, by go_num, by omega, HS, HB2⟩, by simp [intOf]; omega⟩
    · obtain rfl : i = n := by omega
      have hdj : decide ((i : Int) < (i : Int)) = false := decide_eq_false (by omega)
      have hdj2 : decide (i < i) = false := decide_eq_false (by omega)
      have ho := HO.out
      have e : partB l i i = l := by unfold partB; rw [Nat.sub_self, List.replicate_zero, List.append_nil, List.take_of_length_le (by rw [HLN.out]; exact Nat.le_refl _)]
      rw [e] at ho
      have HO2 := Lib.hid ho
      clear ho e
      go_wp2_with fail
      go_ret
      exact ⟨_, _, rfl, by rw [hsl]; exact HO2.out, HB.out⟩

theorem some_at (n : Nat) (hn : n ≤ 1000) (c : UInt8) (z : Int) (hz : z = (c.toNat : Int)) (w : World) : Calls Tryz.prog 23 #[.int .i64 (n : Int), .int .u8 z] w (SomeOut w n c) := by
  subst hz
  exact some_any n hn c w

namespace Lg
theorem On.app {G : Lg} {D : Dv} (h : G.On D) (b : List UInt8) : (G.appG D b).On (G.appD D b) := by
  have hn : (G.appD D b).n = D.n := by
    unfold appD
    split
    · exact putTo_n _ _ _ _ _
    · rfl
  refine On.dev ?_ hn
  unfold appG
  by_cases hp : G.preE b = 0
  · rw [if_pos hp]
    split
    · exact h.broke
    · have ht : G.R.takeE (needN b) = 0 := by
        unfold preE at hp
        split at hp
        · exact absurd hp (by decide)
        · split at hp
          · next hc => exact absurd hp hc
          · exact hp
      have hs := Rg.sane_iff.2 h.ok
      unfold Rg.takeE at ht
      rw [hs, decide_eq_true (show 0 ≤ (needN b : Int) by omega), Bool.and_self, if_pos rfl] at ht
      have hq : ¬ (G.R.S - (G.R.T - G.R.H) < (needN b : Int) ∨ 1099511627776 < G.R.T + (needN b : Int)) := by
        intro hh
        rw [if_pos hh] at ht
        exact absurd ht (by decide)
      have h1 : ¬ G.R.S - (G.R.T - G.R.H) < (needN b : Int) := fun hh => hq (.inl hh)
      have h2 : ¬ 1099511627776 < G.R.T + (needN b : Int) := fun hh => hq (.inr hh)
      obtain ⟨f0, f1, s0, s1, h0, ht', t1, u1⟩ := h.ok
      exact ⟨⟨f0, f1, s0, s1, h0, by show G.R.H ≤ G.R.T + (needN b : Int); omega, by show G.R.T + (needN b : Int) ≤ 1099511627776; omega, by show G.R.T + (needN b : Int) - G.R.H ≤ G.R.S; omega⟩, h.fit, h.e, h.safe⟩
  · rw [if_neg hp]
    exact h
theorem forD_n (G : Lg) (D : Dv) : (G.forD D).n = D.n := by
  unfold forD
  split
  · rfl
  · exact Dv.flush_n
theorem On.for {G : Lg} {D : Dv} (h : G.On D) : (G.forG D).On (G.forD D) := by
  refine On.dev ?_ (forD_n G D)
  unfold forG
  split
  · exact h
  · split
    · exact h.broke
    · refine ⟨h.ok, h.fit, h.e, ?_⟩
      have h1 := h.ok.h0
      have h2 := h.ok.ht
      have h3 := h.ok.t1
      exact ⟨by show 0 ≤ G.R.T; omega, h3⟩
theorem On.drop {G : Lg} {D : Dv} (h : G.On D) (to_ : Int) : (G.dropG to_).On D := by
  unfold dropG
  split
  · next hd =>
    unfold dropE at hd
    split at hd
    · exact absurd hd (by decide)
    · unfold Rg.dropE at hd
      split at hd
      · next hc =>
        simp only [Bool.and_eq_true, decide_eq_true_eq] at hc
        obtain ⟨f0, f1, s0, s1, h0, ht', t1, u1⟩ := h.ok
        exact ⟨⟨f0, f1, s0, s1, by show 0 ≤ to_; omega, hc.2.2, t1, by show G.R.T - to_ ≤ G.R.S; omega⟩, h.fit, h.e, h.safe⟩
      · exact absurd hd (by decide)
  · exact h
end Lg

/-- a log and its device, and all that was there in w is as it was -/
structure Lw (w W : World) (q p L M : Nat) (G : Lg) (D : Dv) : Prop where
  log : IsLog W q p G
  dev : IsDev W p L M D
  bel : Below w.heap.size w W
  lo : ∀ k, LS q p L M k → w.heap.size ≤ k
  on : G.On D

section
variable {w W V : World} {q p L M : Nat} {G G' : Lg} {D D' : Dv}
theorem Lw.below (h : Lw w W q p L M G D) (hb : Below W.heap.size W V) : Lw w V q p L M G D :=
  ⟨h.log.below hb, h.dev.below hb, h.bel.trans (hb.mono h.bel.size), h.lo, h.on⟩
theorem Lw.turn (h : Lw w W q p L M G D) (hl : IsLog V q p G') (hd : IsDev V p L M D') (ht : Turn (LS q p L M) W V) (ho : G'.On D') : Lw w V q p L M G' D' :=
  ⟨hl, hd, h.bel.trans (ht.below h.lo h.bel.size), h.lo, ho⟩
theorem Lw.dr (h : Lw w W q p L M G D) : Dr w W p L M D := ⟨h.dev, h.bel, ⟨h.lo p (.inl (.inl rfl)), h.lo L (.inl (.inr (.inl rfl))), h.lo M (.inl (.inr (.inr rfl)))⟩⟩
theorem Lw.lt (h : Lw w W q p L M G D) : ∀ k, LS q p L M k → k < W.heap.size := by
  intro k hk
  have := h.dev.lt
  rcases hk with (rfl | rfl | rfl) | rfl
  · exact this.1
  · exact this.2.1
  · exact this.2.2
  · exact h.log.lt

theorem Lw.append (h : Lw w W q p L M G D) (hsp : D.spent ≤ 900000) (A : Option Addr) (n c : Nat) (b : List UInt8) (hb : Lies W A c n b) (hn : n ≤ 1000000) : Calls Tryz.prog 12 #[ptr q, .slice A n c] W fun e V => e = .returned (.tuple #[.int .i64 (G.appAt D b), .int .i64 (G.appE D b)]) ∧ Lw w V q p L M (G.appG D b) (G.appD D b) ∧ Turn (LS q p L M) W V := by
  refine (append_any h.log h.dev h.on hsp A n c b hb hn).mono ?_
  rintro e V ⟨rfl, h1, h2, h3⟩
  exact ⟨rfl, h.turn h1 h2 h3 (h.on.app b), h3⟩
theorem Lw.force (h : Lw w W q p L M G D) (hsp : D.spent ≤ 1000000) : Calls Tryz.prog 13 #[ptr q] W fun e V => e = .returned (.int .i64 (G.forE D)) ∧ Lw w V q p L M (G.forG D) (G.forD D) ∧ Turn (LS q p L M) W V := by
  refine (force_any h.log h.dev hsp).mono ?_
  rintro e V ⟨rfl, h1, h2, h3⟩
  exact ⟨rfl, h.turn h1 h2 h3 h.on.for, h3⟩
theorem Lw.drop (h : Lw w W q p L M G D) (to_ : Int) : Calls Tryz.prog 26 #[ptr q, .int .i64 to_] W fun e V => e = .returned (.int .i64 (G.dropE to_)) ∧ Lw w V q p L M (G.dropG to_) D ∧ Turn (LS q p L M) W V := by
  refine (ldrop_any h.log to_).mono ?_
  rintro e V ⟨rfl, h1, h2⟩
  have ht : Turn (LS q p L M) W V := h2.mono (fun k hk => .inr hk)
  have hne := log_ne h.log h.dev
  exact ⟨rfl, h.turn h1 (h.dev.turn h2 (fun e => hne (e ▸ .inl rfl)) (fun e => hne (e ▸ .inr (.inl rfl))) (fun e => hne (e ▸ .inr (.inr rfl)))) ht (h.on.drop to_), ht⟩
theorem Lw.tail (h : Lw w W q p L M G D) : Calls Tryz.prog 32 #[ptr q] W fun e V => e = .returned (.int .i64 G.R.T) ∧ V = W := ltail_any h.log
theorem Lw.head (h : Lw w W q p L M G D) : Calls Tryz.prog 27 #[ptr q] W fun e V => e = .returned (.int .i64 G.R.H) ∧ V = W := lhead_any h.log
theorem Lw.safe (h : Lw w W q p L M G D) : Calls Tryz.prog 33 #[ptr q] W fun e V => e = .returned (.int .i64 G.safe) ∧ V = W := lsafe_any h.log
theorem Lw.free (h : Lw w W q p L M G D) : Calls Tryz.prog 34 #[ptr q] W fun e V => e = .returned (.int .i64 (G.R.S - (G.R.T - G.R.H))) ∧ Lw w V q p L M G D ∧ Below W.heap.size W V := by
  refine (lfree_any h.log).mono ?_
  rintro e V ⟨rfl, h1⟩
  refine ⟨?_, h.below h1, h1⟩
  unfold Rg.free
  rw [if_pos (Rg.sane_iff.2 h.on.ok)]

/-- a log is opened on a device -/
def LOpened (w W : World) (p L M : Nat) (D : Dv) (F S H E : Int) (e : Ending) (V : World) : Prop :=
  ∃ q rs t A n c, e = .returned (.tuple #[ptr q, .slice A n c, .int .i64 0]) ∧ n = rs.length ∧ n ≤ 4096 ∧ n ≤ c ∧ RsN V (q + 1) A rs ∧ Fnd (ringL D ⟨F, S, H, H⟩) H E rs t ∧ Lw w V q p L M ⟨⟨F, S, H, t⟩, E, t, false⟩ D ∧ Below W.heap.size W V ∧ W.heap.size ≤ q
theorem open_dr (h : Dr w W p L M D) (F S H E : Int) (ho : openE D F S H E = 0) : Calls Tryz.prog 11 #[ptr p, .int .i64 F, .int .i64 S, .int .i64 H, .int .i64 E] W (LOpened w W p L M D F S H E) := by
  refine (open_yes h.dev F S H E ho).mono ?_
  rintro e V ⟨q, rs, t, A, n, c, rfl, h1, h2, h3, h4, h5, h6, h7, h8⟩
  have hgn : D.gone = false := by
    cases hgn : D.gone with
    | false => rfl
    | true => unfold openE at ho; rw [if_pos hgn] at ho; exact absurd ho (by decide)
  have hon : 0 ≤ F ∧ 1 ≤ S ∧ F + S ≤ D.n ∧ 0 ≤ H ∧ H ≤ 1099511627776 ∧ 1 ≤ E ∧ E ≤ 4294967295 := by
    unfold openE at ho
    rw [hgn, if_neg Bool.false_ne_true] at ho
    split at ho
    · next h => exact h
    · exact absurd ho (by decide)
  have htop := h.dev.ok.top
  have hin := h5.in_ hon.2.2.2.2.1
  have hlen : ((ringL D ⟨F, S, H, H⟩).length : Int) = S := by
    rw [length_ringL]
    show ((S.toNat : Nat) : Int) = S
    omega
  refine ⟨q, rs, t, A, n, c, rfl, h1, h2, h3, h4, h5, ⟨h6, h.dev.below h7, h.bel.trans (h7.mono h.bel.size), ?_, ?_⟩, h7, h8⟩
  · intro k hk
    rcases hk with (rfl | rfl | rfl) | rfl
    · exact h.lo.1
    · exact h.lo.2.1
    · exact h.lo.2.2
    · exact Nat.le_trans h.bel.size h8
  · exact ⟨⟨hon.1, by show F ≤ 4096; omega, hon.2.1, by show S ≤ 4096; omega, hon.2.2.2.1, by show H ≤ t; omega, by show t ≤ 1099511627776; omega, by show t - H ≤ S; omega⟩, hon.2.2.1, ⟨hon.2.2.2.2.2.1, hon.2.2.2.2.2.2⟩, ⟨by show 0 ≤ t; omega, by show t ≤ 1099511627776; omega⟩⟩
theorem Rw.turn {base : Nat} {v : Value} {ls : List (List UInt8)} (h : Rw W base v ls) {X : Nat → Prop} (ht : Turn X W V) (hX : ∀ k, X k → k < base) : Rw V base v ls := by
  obtain ⟨vs, ho, he⟩ := h
  refine ⟨vs, ⟨ho.1, ?_⟩, fun j r hr => ?_⟩
  · rcases ho.2 with h2 | ⟨g, c, cur, e, hg, hh, rest⟩
    · exact .inl h2
    · exact .inr ⟨g, c, cur, e, hg, (ht.block g (lt_of_block hh) (fun hx => by have := hX g hx; omega)).trans hh, rest⟩
  · obtain ⟨A, n, c, h1, h2, h3, h4⟩ := he j r hr
    exact ⟨A, n, c, h1, h2.turn h4 ht hX, h3, h4⟩
end

end Go.Proofs.YtdjfahnnfhediaaGreat
