/-
  The program's small calls: may, sealed, copied.
-/
import Derived.Test.YtknjkihcpcimpaaSa
import Derived.Deep.Cut
namespace Go.Proofs.Ytknjkihcpcimpaa
set_option maxRecDepth 100000
set_option linter.unusedVariables false
open Go.RowKit Crc Wm Pg

theorem may_any (n : Int) (w : World) : Calls Try.prog 22 #[.int .i64 n] w fun e w' => e = .returned (.bool (decide (Lsn n))) ∧ w' = w := by
  by_cases h1 : 0 ≤ n
  · by_cases h2 : n ≤ 2199023255552
    · have hd : decide (Lsn n) = true := decide_eq_true ⟨h1, h2⟩
      go_enter Try.func22, Try.ntmps22
      go_wp2_with fail
      go_ret
      exact ⟨by first | rfl | (rw [hd]; rfl), rfl⟩
    · have hd : decide (Lsn n) = false := decide_eq_false (fun h => h2 h.2)
      go_enter Try.func22, Try.ntmps22
      go_wp2_with fail
      go_ret
      exact ⟨by first | rfl | (rw [hd]; rfl), rfl⟩
  · have hd : decide (Lsn n) = false := decide_eq_false (fun h => h1 h.1)
    go_enter Try.func22, Try.ntmps22
    go_wp2_with fail
    go_ret
    exact ⟨by first | rfl | (rw [hd]; rfl), rfl⟩

set_option maxHeartbeats 1000000 in
theorem sealed_any (A : Option Addr) (c L : Nat) (l : List UInt8) (hL : L ≤ 60) (w : World) (hl : Lies w A c L l) :
    Calls Try.prog 24 #[.slice A L c] w (SealOut w.heap.size w l) := by
  have HL := Lib.hid hl
  have HLN := Lib.hid hl.len
  clear hl
  obtain ⟨w7, hmk, ho7, hb7⟩ := run_zeros w 60 (by omega)
  have HMK := Lib.hid hmk
  have HB7 := Lib.hid hb7
  have HO7 := Lib.hid ho7
  have HL7 := Lib.hid (HL.out.up hb7)
  clear hmk hb7 ho7
  generalize hg : w.heap.size = g at *
  have HG := Lib.hid hg
  clear hg
  go_enter Try.func24, Try.ntmps24
  go_wp2_with (first
    | (at_make; refine wpList_make_run rfl 22 _ _ rfl rfl rfl HMK.out ?_)
    | (refine wpList_copy_own rfl (.tmp 5) (.tmp 6) rfl HO7.out HL7.out.rd L c HLN.out hL rfl rfl ?_; intro w8 ho8 hg8))
  have HB8 : Hid (Below g w w8) := Lib.hid (HB7.out.grown hg8 (by rw [← HG.out]; exact HB7.out.size) (fun k hk => by injection hk with hk; omega))
  have HO8 : Hid (Owns w8 g (some ⟨g, 0, none⟩) 60 60 (body l)) := Lib.hid ho8
  clear ho8 hg8 HO7 HL7 HB7
  refine (seal_any (some ⟨g, 0, none⟩) 60 60 (body l) (Lib.hid HO8.out.len) _ HO8.out.read (by omega)).mono ?_
  rintro e w5 ⟨A5, c5, rfl, ho5, hb5⟩
  have HS8 : Hid (g ≤ w8.heap.size) := Lib.hid (by have h := HB8.out.size; rw [HG.out] at h; exact h)
  have HO5 := Lib.hid (ho5.base_le HS8.out)
  have HB5 := Lib.hid (HB8.out.trans (hb5.mono HS8.out))
  clear ho5 hb5
  go_wp2_with fail
  go_ret
  exact ⟨A5, c5, rfl, HO5.out, HB5.out⟩

set_option maxHeartbeats 1000000 in
theorem copied_any (A : Option Addr) (c n : Nat) (l : List UInt8) (hn : n ≤ 64) (w : World) (hl : Lies w A c n l) :
    Calls Try.prog 42 #[.slice A n c] w fun e w' => e = .returned (secV (padTo 64 l)) ∧ Below w.heap.size w w' := by
  have HL := Lib.hid hl
  have HLN := Lib.hid hl.len
  clear hl
  go_enter Try.func42, Try.ntmps42
  go_wp2_with (first
    | (refine wpList_alloc_sec 2 rfl rfl rfl ?_; intro g w1 hg hs1 hb1 hz1)
    | (refine wpList_alloc_sec 3 rfl rfl rfl ?_; intro u w2 hu hs2 hb2 hz2)
    | (refine wpList_copy_sec rfl (.tmp 4) (.tmp 5) rfl hs2 (HL.out.up (below_two hb1 hb2)).rd n c HLN.out hn rfl rfl ?_; intro w3 hs3 hg3)
    | (refine wpList_load_sec hs3 rfl (.tmp 3) rfl rfl ?_)
    | (refine wpList_store_sec ((hs1.below hb2).far hg3 (by have := hu.out; have := hz1.out; omega)) rfl (.tmp 2) (.tmp 7) rfl rfl (padTo 64 l) hs3.len rfl ?_; intro w4 hs4 hg4))
  have HB := ((below_two hb1 hb2).grown hg3 (below_two hb1 hb2).size (fun k hk => by injection hk with hk; have := hu.out; have := hz1.out; have := hg.out; omega))
  exact bodyPost_ret (results_sec rfl _ rfl hs4) rfl ⟨rfl, HB.grown hg4 HB.size (fun k hk => by injection hk with hk; have := hg.out; omega)⟩

end Go.Proofs.Ytknjkihcpcimpaa
