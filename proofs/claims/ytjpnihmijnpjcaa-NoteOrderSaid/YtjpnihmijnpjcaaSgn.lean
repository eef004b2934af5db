/-
  Signed numbers in bytes: laid and told, the program's and the document's (out of layer 1).
-/
import Derived.Test.YtjpnihmijnpjcaaWireA
namespace Go.Proofs.Ytjpnihmijnpjcaa
set_option maxRecDepth 100000
open Go.RowKit Wm

theorem wrap_u64_bd (v : Int) : 0 ≤ IntKind.u64.wrap v ∧ IntKind.u64.wrap v ≤ 18446744073709551615 := by
  simp only [IntKind.wrap, IntKind.bits, IntKind.signed]
  simp
  omega

/-- a signed number's eight bytes as one number -/
def sgn (v : Int) : Nat := (IntKind.u64.wrap v).toNat

set_option maxHeartbeats 400000 in
theorem signed_any (A : Option Addr) (c L : Nat) (l : List UInt8) (HL : Hid (l.length = L)) (v : Int) (w : World) (hr : Rd w w.heap.size A l) (hl : L ≤ 1073741824) :
    Calls Try.prog 25 #[.slice A L c, .int .i64 v] w (Made w (L + 8) (l ++ putB 8 (sgn v))) := by
  obtain ⟨hb1, hb2⟩ := wrap_u64_bd v
  go_enter Try.func25, Try.ntmps25
  go_wp2_with (go_at_call 24; refine (put_any A c L l HL _ _ w hr hl hb1 hb2).mono ?_; rintro e w1 ⟨A1, c1, rfl, ho1, hbe1⟩)
  go_ret
  exact ⟨A1, c1, rfl, ho1, hbe1⟩

set_option maxHeartbeats 400000 in
theorem refsigned_any (A : Option Addr) (c L : Nat) (l : List UInt8) (HL : Hid (l.length = L)) (v : Int) (w : World) (hr : Rd w w.heap.size A l) (hl : L ≤ 1073741824) :
    Calls Try.prog 27 #[.slice A L c, .int .i64 v] w (Made w (L + 8) (l ++ putB 8 (sgn v))) := by
  obtain ⟨hb1, hb2⟩ := wrap_u64_bd v
  go_enter Try.func27, Try.ntmps27
  go_wp2_with (go_at_call 26; refine (refput_any A c L l HL _ _ w hr hl hb1 hb2).mono ?_; rintro e w1 ⟨A1, c1, rfl, ho1, hbe1⟩)
  go_ret
  exact ⟨A1, c1, rfl, ho1, hbe1⟩

set_option maxHeartbeats 400000 in
theorem rsigned_ok {w : World} {r cap n k : Nat} {A : Option Addr} {l : List UInt8} (h : Cur w r 82 A cap n k l) (hm : 8 ≤ n - k) :
    Calls Try.prog 58 #[.pointer (some ⟨r, 0, none⟩)] w (SgnOk w r 82 A cap n k l) := by
  go_enter Try.func58, Try.ntmps58
  go_wp2_with fail
  refine (get_ok h 8 (by omega) (by omega) hm).mono ?_
  rintro e w2 ⟨rfl, hcur, hg⟩
  have H1 := hide2 hcur
  have H2 := hide2 hg
  clear hcur hg h
  generalize hV : valB ((l.drop k).take 8) = v at *
  have HV := Lib.hid hV
  clear hV
  go_wp2_with fail
  go_ret2
  exact ⟨by rw [HV.out]; rfl, H1.out, H2.out⟩

set_option maxHeartbeats 400000 in
theorem refsignedr_ok {w : World} {r t cap n k : Nat} {A : Option Addr} {l : List UInt8} (h : Cur w r t A cap n k l) (hm : 8 ≤ n - k) :
    Calls Try.prog 33 #[.pointer (some ⟨r, 0, none⟩)] w (SgnOk w r t A cap n k l) := by
  go_enter Try.func33, Try.ntmps33
  go_wp2_with fail
  refine (refget_ok h 8 (by omega) (by omega) hm).mono ?_
  rintro e w2 ⟨rfl, hcur, hg⟩
  have H1 := hide2 hcur
  have H2 := hide2 hg
  clear hcur hg h
  generalize hV : valB ((l.drop k).take 8) = v at *
  have HV := Lib.hid hV
  clear hV
  go_wp2_with fail
  go_ret2
  exact ⟨by rw [HV.out]; rfl, H1.out, H2.out⟩

theorem sgn_back (s : Int) (h1 : -9223372036854775808 ≤ s) (h2 : s ≤ 9223372036854775807) : sgnI (sgn s : Int) = s ∧ sgn s < 18446744073709551616 := by
  obtain ⟨b1, b2⟩ := wrap_u64_bd s
  have e : ((sgn s : Nat) : Int) = IntKind.u64.wrap s := Int.toNat_of_nonneg b1
  have e2 : IntKind.u64.wrap s = s % 18446744073709551616 := by
    simp only [IntKind.wrap, IntKind.bits, IntKind.signed]
    simp
  unfold sgnI wrap64
  rw [e, e2]
  constructor
  · omega
  · omega

end Go.Proofs.Ytjpnihmijnpjcaa
