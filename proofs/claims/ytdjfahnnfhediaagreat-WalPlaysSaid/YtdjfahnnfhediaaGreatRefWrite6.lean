/-
  The document's body of a piece that may be, and its Write, of any piece.
-/
import Derived.Test.YtdjfahnnfhediaaGreatBodyA
namespace Go.Proofs.YtdjfahnnfhediaaGreat
set_option maxRecDepth 100000
open Go.RowKit Crc Wm

theorem refput_k {A : Option Addr} {c L B : Nat} {l : List UInt8} {w : World} (ho : Owns w B A c L l) (v k : Nat) (n : Int) (hn : n = k) (hk : k ≤ 8) (hl : L ≤ 1073741824) (hv : v ≤ 18446744073709551615) :
    Calls Tryz.prog 88 #[.slice A L c, .int .u64 v, .int .i64 n] w (Made w (L + k) (l ++ putB k v)) :=
  refput_core A c L l (Lib.hid ho.len) v n k w ho.read hl hv hk (.inr (.inl (by omega)))

theorem Bp.grown {w w' : World} {g : Nat} {p : Pv} {t : TypeId} {row : Option Nat} (h : Bp w g p t) (hg : w.grownBy w' row) (hr : ∀ k, row = some k → g + 1 ≤ k) : Bp w' g p t :=
  (hg.block g h.lt (fun e => by have := hr g e.symm; omega)).trans h
theorem Owns.row {w : World} {B : Nat} {A : Option Addr} {c n : Nat} {l : List UInt8} (h : Owns w B A c n l) : ∀ k, (Value.slice A n c).ownBlock = some k → B ≤ k := fun k hk => by
  rcases A with _ | a
  · cases hk
  · have : k = a.block := by simpa [Value.ownBlock] using hk.symm
    subst this
    exact (h.block a rfl).1
/-- bytes are appended to those of the call's own; the piece's box stays -/
theorem app_one {w wr w2 : World} {B n m : Nat} {A : Option Addr} {cap : Nat} {l x : List UInt8} {v2 : Value} {o : Obj} {p : Pv} {t : TypeId} (ho : Owns wr (B + 1) A cap n l) (hb : Below B w wr) (hX : Bp wr B p t)
    (hown : w2.ownsRow (B + 1) 5 1 v2 (n + m) (byteVs l ++ byteVs x)) (hg : (wr.alloc o).grownBy w2 (Value.slice A n cap).ownBlock) : ∃ A' cap', v2 = .slice A' (n + m) cap' ∧ Owns w2 (B + 1) A' cap' (n + m) (l ++ x) ∧ Below B w w2 ∧ Bp w2 B p t := by
  rw [← byteVs_append] at hown
  obtain ⟨A', cap', rfl, h⟩ := own_form hown
  have hlt := hX.lt
  exact ⟨A', cap', rfl, h, (hb.alloc (by omega) o).grown hg (by simp; omega) (fun k hk => by have := ho.row k hk; omega), Bp.grown (hX.below (below_new wr o)) hg (fun k hk => ho.row k hk)⟩
theorem app_two {w wr w2 : World} {B n m : Nat} {A : Option Addr} {cap : Nat} {l x : List UInt8} {v2 : Value} {p : Pv} {t : TypeId} (ho : Owns wr (B + 1) A cap n l) (hb : Below B w wr) (hX : Bp wr B p t)
    (hown : w2.ownsRow (B + 1) 5 1 v2 (n + m) (byteVs l ++ byteVs x)) (hg : wr.grownBy w2 (Value.slice A n cap).ownBlock) : ∃ A' cap', v2 = .slice A' (n + m) cap' ∧ Owns w2 (B + 1) A' cap' (n + m) (l ++ x) ∧ Below B w w2 ∧ Bp w2 B p t := by
  rw [← byteVs_append] at hown
  obtain ⟨A', cap', rfl, h⟩ := own_form hown
  have hlt := hX.lt
  exact ⟨A', cap', rfl, h, hb.grown hg (by omega) (fun k hk => by have := ho.row k hk; omega), Bp.grown hX hg (fun k hk => ho.row k hk)⟩

theorem zeroB_snoc (n : Nat) : zeroB (n + 1) = zeroB n ++ [0] := List.replicate_succ'

set_option maxHeartbeats 4000000 in
set_option maxRecDepth 100000 in
theorem refbody_any (p : Pv) (D : List UInt8) (w : World) (hl : Lies w p.ad p.c p.n D) (hm : MayN p.E p.A p.I p.C p.n) :
    Calls Tryz.prog 87 #[pvV p] w (Made w 60 (Pc.body ⟨p.E, p.A, p.I, p.C, D⟩)) := by
  obtain ⟨ib, hi, hz0, hz1, hz2⟩ := info_parts byte_facts
  have HI := Lib.hid (show _ ∧ _ ∧ _ ∧ _ from ⟨hi, hz0, hz1, hz2⟩)
  clear hi hz0 hz1 hz2
  have HX := Lib.hid (Bp.new w p 109)
  have HB := Lib.hid (below_new w (.cells (pvC p) 109))
  have HLN := Lib.hid hl.len
  obtain ⟨E, A, I, C, ad, n, c⟩ := p
  obtain ⟨⟨e0, e1⟩, ⟨a0, a1⟩, ⟨k0, k1⟩, ⟨i0', i1⟩, hn⟩ := hm
  simp only at e0 e1 a0 a1 k0 k1 i0' i1 hn hl HLN
  obtain ⟨E, rfl⟩ := Int.eq_ofNat_of_zero_le e0
  obtain ⟨A, rfl⟩ := Int.eq_ofNat_of_zero_le a0
  obtain ⟨I, rfl⟩ := Int.eq_ofNat_of_zero_le i0'
  obtain ⟨C, rfl⟩ := Int.eq_ofNat_of_zero_le (by omega : 0 ≤ C)
  have hn44 : n ≤ 44 := by omega
  have h4 : E ≤ 4294967295 := by omega
  have h5 : A ≤ 2199023255552 := by omega
  have h6 : I ≤ 1024 := by omega
  have h7 : C ≤ 1024 := by omega
  have hc60 : Hid (putB 4 E ++ putB 6 A ++ putB 2 I ++ putB 2 C ++ [UInt8.ofNat n, 0] ++ D ++ zeroB (44 - n) = Pc.body ⟨(E : Int), (A : Int), (I : Int), (C : Int), D⟩) := by
    show _ = _
    unfold Pc.body Pc.head
    simp only [Int.toNat_natCast, HLN.out]
    simp only [List.append_assoc]
    rfl
  have hu : (UInt8.ofNat n).toNat = n := by rw [toNat_ofNat]; omega
  have HU := Lib.hid hu
  have HL := Lib.hid hl
  clear hl e0 a0 i0' k0 e1 a1 i1 k1 hn hu
  have c0 := HX.out.c0
  have HS : Hid (w.heap.size + 1 ≤ (w.alloc (.cells (pvC ⟨(E : Int), (A : Int), (I : Int), (C : Int), ad, n, c⟩) 109)).heap.size) := by show _ ≤ _; simp
  go_enter Tryz.func87, Tryz.ntmps87
  go_wp2_with fail
  refine (refput_core none 0 0 [] (Lib.hid rfl) E 4 4 _ (Rd.nil _ _ _) (by omega) (by omega) (by omega) (.inr (.inl (by omega)))).mono ?_
  rintro e w1 ⟨A1, b1, rfl, ho, hb⟩
  replace HX := Lib.hid (HX.out.below hb)
  replace HO := Lib.hid (ho.base_le HS.out)
  replace HB := Lib.hid (below_two HB.out hb)
  replace HS := Lib.hid (Nat.le_trans HS.out hb.size)
  clear ho hb c0
  have c0 := HX.out.c1
  go_wp2_with fail
  refine (refput_k HO.out A 6 6 rfl (by omega) (by omega) (by omega)).mono ?_
  rintro e w2 ⟨A2, b2, rfl, ho, hb⟩
  replace HX := Lib.hid (HX.out.below hb)
  replace HO := Lib.hid (ho.base_le HS.out)
  replace HB := Lib.hid (below_two HB.out hb)
  replace HS := Lib.hid (Nat.le_trans HS.out hb.size)
  clear ho hb c0
  have c0 := HX.out.c2
  go_wp2_with fail
  refine (refput_k HO.out I 2 2 rfl (by omega) (by omega) (by omega)).mono ?_
  rintro e w3 ⟨A3, b3, rfl, ho, hb⟩
  replace HX := Lib.hid (HX.out.below hb)
  replace HO := Lib.hid (ho.base_le HS.out)
  replace HB := Lib.hid (below_two HB.out hb)
  replace HS := Lib.hid (Nat.le_trans HS.out hb.size)
  clear ho hb c0
  have c0 := HX.out.c3
  go_wp2_with fail
  refine (refput_k HO.out C 2 2 rfl (by omega) (by omega) (by omega)).mono ?_
  rintro e w4 ⟨A4, b4, rfl, ho, hb⟩
  replace HX := Lib.hid (HX.out.below hb)
  replace HO := Lib.hid (ho.base_le HS.out)
  replace HB := Lib.hid (below_two HB.out hb)
  replace HS := Lib.hid (Nat.le_trans HS.out hb.size)
  clear ho hb c0
  have c0 := HX.out.c4
  have hle := HB.out.size
  have hls := HS.out
  simp only [List.nil_append, Nat.zero_add, Nat.reduceAdd] at HO
  obtain ⟨hi, hz0, hz1, hz2⟩ := HI.out
  go_wp2_with (first
    | (at_builtin; refine wpList_append_rd rfl (.tmp 23) (.tmp 28) _ rfl (w.heap.size + 1) ib Tryz.underlying41 hi hz0 hz1 hz2 (.slice A4 14 b4) 14 _ rfl (HO.out.alloc _) _ _ [UInt8.ofNat n, 0] 2 2 rfl (rd_two _ _ _ _ _ (by rw [HU.out]) rfl) rfl (by omega) (Nat.le_trans hls (by simp)) ?_; intro v5 w5 hown5 hg5 hat5; obtain ⟨A5, b5, rfl, ho5, hb5, hX5⟩ := app_one HO.out HB.out HX.out hown5 hg5; clear hown5 hg5 hat5; have c5 := hX5.c4; have hr5 := HL.out.up hb5; have hs5 := hX5.lt; have HX5 := Lib.hid hX5; clear hX5)
    | (at_builtin; refine wpList_append_rd rfl (.tmp 30) (.tmp 32) _ rfl (w.heap.size + 1) ib Tryz.underlying41 hi hz0 hz1 hz2 (.slice A5 16 b5) 16 _ rfl ho5 _ _ D n c rfl hr5.rd HLN.out (by omega) (by omega) ?_; intro v6 w6 hown6 hg6 hat6; obtain ⟨A6, b6, rfl, ho6, hb6, hX6⟩ := app_two ho5 hb5 HX5.out hown6 hg6; clear hown6 hg6 hat6))
  have HO6 := Lib.hid ho6
  have HB6 := Lib.hid hb6
  have hs6 := hX6.lt
  clear ho6 hb6 hX6 c0 c5 hr5 ho5 hb5 hs5 hle hls hi hz0 hz1 hz2
  go_loopw [3] (fun v wr => ∃ (k : Nat) (A' : Option Addr) (c' : Nat), v = .slice A' (16 + n + k) c' ∧ 16 + n + k ≤ 60 ∧ Hid (Owns wr w.heap.size A' c' (16 + n + k) (putB 4 E ++ putB 6 A ++ putB 2 I ++ putB 2 C ++ [UInt8.ofNat n, 0] ++ D ++ zeroB k)) ∧ Hid (Below w.heap.size w wr)) (fun v _ => match v with | .slice _ n _ => 60 - n | _ => 0)
  case atStart => exact ⟨0, A6, b6, rfl, by omega, Lib.hid (by simpa [zeroB] using (HO6.out.base_le (Nat.le_succ _))), HB6⟩
  case round =>
    obtain ⟨k, A', c', rfl, hk, HOk, HBk⟩ := hrel
    obtain ⟨hi, hz0, hz1, hz2⟩ := HI.out
    have hle := HBk.out.size
    rcases Nat.lt_or_ge (16 + n + k) 60 with hlt | hge
    · have hdj : decide (((16 + n + k : Nat) : Int) < 60) = true := decide_eq_true (by omega)
      obtain ⟨m, HM⟩ : ∃ m, Hid (m = 16 + n + k) := ⟨_, Lib.hid rfl⟩
      rw [← HM.out] at HOk hlt hk hdj ⊢
      have hzk := Lib.hid (zeroB_snoc k)
      go_wp2_with (at_builtin; refine wpList_append_rd rfl (.tmp 37) (.tmp 38) _ rfl w.heap.size ib Tryz.underlying41 hi hz0 hz1 hz2 (.slice A' m c') m _ rfl (HOk.out.alloc _) _ _ [0] 1 1 rfl (rd_one _ _ _ rfl) rfl (by omega) (Nat.le_trans hle (by simp)) ?_; intro v2 w2 hown2 hg2 hat2; obtain ⟨A7, b7, rfl, ho7, hb7⟩ := append_step HOk.out HBk.out hle hown2 hg2; clear hown2 hg2 hat2)
      refine ⟨⟨k + 1, A7, b7, by rw [HM.out, ← Nat.add_assoc], by have := HM.out; omega, ?_, Lib.hid hb7⟩, by simp; omega⟩
      show Owns _ _ _ _ _ _
      rw [hzk.out, ← List.append_assoc, ← Nat.add_assoc, ← HM.out]
      exact ho7
    · have hdj : decide (((16 + n + k : Nat) : Int) < 60) = false := decide_eq_false (by omega)
      obtain rfl : k = 44 - n := by omega
      have ho := HOk.out
      rw [hc60.out] at ho
      obtain ⟨m, HM⟩ : ∃ m, Hid (m = 16 + n + (44 - n)) := ⟨_, Lib.hid rfl⟩
      rw [← HM.out] at ho hdj ⊢
      have HO := Lib.hid ho
      clear ho
      go_wp2_with fail
      go_ret
      have hm60 : m = 60 := by have := HM.out; omega
      subst hm60
      exact ⟨A', c', rfl, HO.out, HBk.out⟩

set_option maxHeartbeats 2000000 in
set_option maxRecDepth 100000 in
theorem refwrite_any (p : Pv) (D : List UInt8) (w : World) (hl : Lies w p.ad p.c p.n D) (hn : p.n ≤ 4611686018427387904) :
    Calls Tryz.prog 70 #[pvV p] w (Gives w (p.pc D).writeB (p.pc D).writeE) := by
  have HX := Lib.hid (Bp.new w p 109)
  have HB := Lib.hid (below_new w (.cells (pvC p) 109))
  have HL := Lib.hid hl
  have HM := Lib.hid (refmay_any p hn)
  have HF := Lib.hid (refbody_any p D)
  have HY := Lib.hid (fun W W' A n c => @Gives.yes W W' p D A n c hl.len)
  have HN := Lib.hid (fun W W' => @Gives.no W W' p D hl.len)
  have HS : Hid (p.pc D = ⟨p.E, p.A, p.I, p.C, D⟩) := Lib.hid rfl
  obtain ⟨q, hq⟩ : ∃ q, q = p.pc D := ⟨_, rfl⟩
  rw [← hq] at HY HN HS ⊢
  clear hq hn hl
  rw [← HS.out] at HF
  obtain ⟨E, A, I, C, ad, n, c⟩ := p
  simp only at HL HM HF HY HN
  have c0 := HX.out.c0
  have c1 := HX.out.c1
  have c2 := HX.out.c2
  have c3 := HX.out.c3
  have c4 := HX.out.c4
  simp only at c0 c1 c2 c3 c4
  go_enter Tryz.func70, Tryz.ntmps70
  go_wp2_with fail
  refine (HM.out _).mono ?_
  rintro e w1 ⟨rfl, hb⟩
  replace HX := Lib.hid (HX.out.below hb)
  replace HB := Lib.hid (below_two HB.out hb)
  clear hb c0 c1 c2 c3 c4
  have c0 := HX.out.c0
  have c1 := HX.out.c1
  have c2 := HX.out.c2
  have c3 := HX.out.c3
  have c4 := HX.out.c4
  simp only at c0 c1 c2 c3 c4
  by_cases hm : MayN E A I C n
  · have hd : decide (MayN E A I C n) = true := decide_eq_true hm
    have HMM := Lib.hid hm
    clear hm
    rw [hd]
    clear hd
    go_wp2_with fail
    refine (HF.out w1 (HL.out.up HB.out) HMM.out).mono ?_
    rintro e w2 ⟨A2, b2, rfl, ho, hb⟩
    replace HX := Lib.hid (HX.out.below hb)
    replace HB := Lib.hid (below_two HB.out hb)
    have HO := Lib.hid ho
    clear ho hb c0 c1 c2 c3 c4
    have hof := refof_any A2 b2 60 _ (Lib.hid HO.out.len) w2 HO.out.read (by omega)
    obtain ⟨x0, x1⟩ := word_bd (ofB q.body)
    have HS4 : Hid (sum4 q.body = putB 4 (word (ofB q.body)).toNat) := rfl
    have HSE : Hid (q.sector = sum4 q.body ++ q.body) := rfl
    generalize word (ofB q.body) = x at hof x0 x1 HS4
    have HOF := Lib.hid hof
    clear hof
    obtain ⟨x, rfl⟩ := Int.eq_ofNat_of_zero_le x0
    go_wp2_with fail
    refine (HOF.out).mono ?_
    rintro e w2' ⟨rfl, hw⟩
    subst hw
    go_wp2_with fail
    refine (refput_core none 0 0 [] (Lib.hid rfl) x 4 4 w2 (Rd.nil _ _ _) (by omega) (by omega) (by omega) (.inr (.inl (by omega)))).mono ?_
    rintro e w3 ⟨A3, b3, rfl, ho3, hb⟩
    have HO2 := Lib.hid (HO.out.lies.up hb)
    have HO3 := Lib.hid (ho3.base_le HB.out.size)
    replace HB := Lib.hid (below_two HB.out hb)
    clear hb ho3
    simp only [List.nil_append, Nat.zero_add] at HO3
    obtain ⟨ib, hi, hz0, hz1, hz2⟩ := info_parts byte_facts
    have hle := HB.out.size
    go_wp2_with (at_builtin; refine wpList_append_rd rfl (.tmp 15) (.tmp 16) _ rfl w.heap.size ib Tryz.underlying41 hi hz0 hz1 hz2 (.slice A3 4 b3) 4 _ rfl HO3.out _ _ q.body 60 _ rfl HO2.out.rd HO2.out.len (by omega) hle ?_; intro v4 w4 hown4 hg4 hat4; obtain ⟨A4, b4, rfl, ho4, hb4⟩ := append_step' HO3.out HB.out hle hown4 hg4; clear hown4 hg4 hat4)
    go_ret2
    refine HY.out _ _ _ _ _ HMM.out ?_ hb4
    rw [HSE.out, HS4.out, ← Int.toNat_natCast x]
    exact ho4
  · have hd : decide (MayN E A I C n) = false := decide_eq_false hm
    have HMM := Lib.hid hm
    clear hm
    rw [hd]
    clear hd
    go_wp2_with fail
    go_ret2
    exact HN.out _ _ HMM.out HB.out

end Go.Proofs.YtdjfahnnfhediaaGreat
