/-
  Numbers of twice as many digits: the program's, by 64, the document's, by 32. What the calls on them answer.
-/
import Derived.Test.YtpphhhalmccnbaaBa
import Derived.Test.YtpphhhalmccnbaaSp
import Derived.Laws.StructEq
namespace Go.Proofs.Ytpphhhalmccnbaa
set_option maxRecDepth 100000
set_option linter.unusedVariables false
set_option linter.unusedSimpArgs false
open Go.RowKit

/-- a sum of at most so many ints -/
def far (x : Int) : Prop := -10000000000000000000000000 ≤ x ∧ x ≤ 10000000000000000000000000
theorem okI.far {x : Int} (h : okI x) : far x := by unfold okI at h; unfold Go.Proofs.Ytpphhhalmccnbaa.far; omega

/-- the upper half, and the lower -/
def whi (x : Int) : Int := x / 18446744073709551616
def wlo (x : Int) : Int := x % 18446744073709551616
abbrev wdC (x : Int) : Array Value := #[.int .i64 (whi x), .int .u64 (wlo x)]
abbrev wdV (x : Int) : Value := .agg (wdC x)
/-- what goes over -/
def cyI (x y : Int) : Int := (wlo x + wlo y) / 18446744073709551616
/-- a number's lower half, as an int -/
def nwI (x : Int) : Int := IntKind.i64.wrap (wlo x)

theorem wlo_bd (x : Int) : 0 ≤ wlo x ∧ wlo x < 18446744073709551616 := by unfold wlo; omega
theorem cy_bd (x y : Int) : 0 ≤ cyI x y ∧ cyI x y ≤ 1 := by unfold cyI wlo; omega
theorem nw_ok (x : Int) : okI (nwI x) := by unfold nwI okI; rw [IntKind.wrap_i64]; have := wlo_bd x; omega
theorem nw_self {x : Int} (h : okI x) : nwI x = x := by unfold nwI wlo; unfold okI at h; rw [IntKind.wrap_i64]; omega
theorem nw_other {x : Int} (h : ¬ okI x) : ¬ (whi (nwI x) = whi x ∧ wlo (nwI x) = wlo x) := by
  have h1 := nw_ok x
  unfold whi wlo
  unfold okI at h h1
  generalize nwI x = y at *
  omega

theorem shr63 {n : Int} (h : okI n) : n / 9223372036854775808 = whi n := by unfold okI at h; unfold whi; omega
theorem u64_n (n : Int) : IntKind.u64.wrap n = wlo n := by rw [IntKind.wrap_u64]; rfl
theorem cy_wrap (x y : Int) : IntKind.i64.wrap (cyI x y) = cyI x y := by have := cy_bd x y; rw [IntKind.wrap_i64]; omega
theorem hi_wrap {x y : Int} (hx : far x) (hy : okI y) : IntKind.i64.wrap (whi x + whi y) = whi x + whi y := by unfold far at hx; unfold okI at hy; unfold whi; rw [IntKind.wrap_i64]; omega
theorem hi_sum {x y : Int} (hx : far x) (hy : okI y) : IntKind.i64.wrap (whi x + whi y + cyI x y) = whi (x + y) := by
  unfold far at hx; unfold okI at hy; unfold cyI wlo whi; rw [IntKind.wrap_i64]; omega

theorem add64_run (x y : Int) (w : World) : (callFunc 60 #[.int .u64 (wlo x), .int .u64 (wlo y), .int .u64 0]).run Try.prog w = .ok (.value (.tuple #[.int .u64 (wlo (x + y)), .int .u64 (cyI x y)])) w := by
  rw [run_callFunc_extern Try.func60 (by kernel_rfl) (by kernel_rfl) (by kernel_rfl) (e := add64Entry) (by kernel_rfl), run_add64 _ _ 0 (wlo_bd x).1 (wlo_bd y).1 (by decide) (by decide)]
  simp only [Result.andThen]
  have e1 : (wlo x + wlo y + 0) % 18446744073709551616 = wlo (x + y) := by unfold wlo; omega
  have e2 : (wlo x + wlo y + 0) / 18446744073709551616 = cyI x y := by unfold cyI; rw [Int.add_zero]
  rw [e1, e2]

theorem Bk.w0 {W : World} {g : Nat} {x : Int} {t : TypeId} (h : Bk W g (wdC x) t) : W.cell? ⟨g, 0, none⟩ = some (.int .i64 (whi x)) := h.c 0 _ rfl
theorem Bk.w1 {W : World} {g : Nat} {x : Int} {t : TypeId} (h : Bk W g (wdC x) t) : W.cell? ⟨g, 1, none⟩ = some (.int .u64 (wlo x)) := h.c 1 _ rfl
theorem widen_any (n : Int) (hn : okI n) : Says 59 #[.int .i64 n] (wdV n) := by
  intro w
  have h1 := shr63 hn
  have h2 := u64_n n
  have HB := Lib.hid (fun v => below_new w (.cells v 103))
  clear hn
  go_enter Try.func59, Try.ntmps59
  go_wp2_with fail
  exact bodyPost_ret (v := wdV n) (by rw [results_cell_one rfl]; go_simp) rfl ⟨rfl, HB.out _⟩

abbrev wd0 : Array Value := #[.int .i64 0, .int .u64 0]
theorem size_al (w : World) (o : Obj) : (w.alloc o).heap.size = w.heap.size + 1 := by simp

set_option maxHeartbeats 1000000 in
theorem wplus_any (x n : Int) (hx : far x) (hn : okI n) : Says 48 #[wdV x, .int .i64 n] (wdV (x + n)) := by
  intro w
  have h0 := widen_any n hn
  have h1 := add64_run x n
  have h2 := cy_wrap x n
  have h3 := hi_wrap hx hn
  have h4 := hi_sum hx hn
  clear hx hn
  have HX := Lib.hid ((Bk.new w (wdC x) 103).al (.cells wd0 103))
  have HY := Bk.new (w.alloc (.cells (wdC x) 103)) wd0 103
  rw [size_al] at HY
  have HY := Lib.hid HY
  have HB := Lib.hid (below_two (below_new w (.cells (wdC x) 103)) (below_new _ (.cells wd0 103)))
  go_enter Try.func48, Try.ntmps48
  go_wp2_with fail
  refine (h0 _).mono ?_
  rintro e w1 ⟨rfl, hb1⟩
  have HX1 := Lib.hid (HX.out.below hb1)
  have HY1 := Lib.hid (HY.out.below hb1)
  have HB1 := Lib.hid (below_two HB.out hb1)
  clear hb1 HX HY HB h0
  have hz := Lib.hid (Bk.new w1 (wdC n) 103)
  have HX2 := HX1.out.al (.cells #[.int .i64 (whi n), .int .u64 (wlo n)] 103)
  have HY2 := HY1.out.al (.cells #[.int .i64 (whi n), .int .u64 (wlo n)] 103)
  have HB2 := Lib.hid (below_two HB1.out (below_new w1 (.cells #[.int .i64 (whi n), .int .u64 (wlo n)] 103)))
  have x0 := HX2.w0
  have x1 := HX2.w1
  have f0 := HY2.fr 0
  have f1 := HY2.fr 1
  have y0 : (w1.alloc (.cells #[.int .i64 (whi n), .int .u64 (wlo n)] 103)).cell? ⟨w.heap.size + 1, 0, none⟩ = some (.int .i64 0) := HY2.c 0 _ rfl
  have y1 : (w1.alloc (.cells #[.int .i64 (whi n), .int .u64 (wlo n)] 103)).cell? ⟨w.heap.size + 1, 1, none⟩ = some (.int .u64 0) := HY2.c 1 _ rfl
  clear HX1 HY1 HX2 HY2 HB1
  go_wp2_with fail
  exact bodyPost_ret (v := wdV (x + n)) (by rw [results_cell_one rfl]; go_simp) rfl ⟨rfl, (HB2.out.setCell (Nat.le_succ _) _).setCell (Nat.le_succ _) _⟩

/-- how far down, and up -/
abbrev enC (x y : Int) : Array Value := #[.int .i64 (whi x), .int .u64 (wlo x), .int .i64 (whi y), .int .u64 (wlo y)]
abbrev enV (x y : Int) : Value := .agg (enC x y)
abbrev en0 : Array Value := #[.int .i64 0, .int .u64 0, .int .i64 0, .int .u64 0]
section
variable {W : World} {g : Nat} {x y : Int} {t : TypeId}
theorem Bk.e0 (h : Bk W g (enC x y) t) : W.cell? ⟨g, 0, none⟩ = some (.int .i64 (whi x)) := h.c 0 _ rfl
theorem Bk.e1 (h : Bk W g (enC x y) t) : W.cell? ⟨g, 1, none⟩ = some (.int .u64 (wlo x)) := h.c 1 _ rfl
theorem Bk.e2 (h : Bk W g (enC x y) t) : W.cell? ⟨g, 2, none⟩ = some (.int .i64 (whi y)) := h.c 2 _ rfl
theorem Bk.e3 (h : Bk W g (enC x y) t) : W.cell? ⟨g, 3, none⟩ = some (.int .u64 (wlo y)) := h.c 3 _ rfl
theorem Bk.n0 (h : Bk W g en0 t) : W.cell? ⟨g, 0, none⟩ = some (.int .i64 0) := h.c 0 _ rfl
theorem Bk.n1 (h : Bk W g en0 t) : W.cell? ⟨g, 1, none⟩ = some (.int .u64 0) := h.c 1 _ rfl
theorem Bk.n2 (h : Bk W g en0 t) : W.cell? ⟨g, 2, none⟩ = some (.int .i64 0) := h.c 2 _ rfl
theorem Bk.n3 (h : Bk W g en0 t) : W.cell? ⟨g, 3, none⟩ = some (.int .u64 0) := h.c 3 _ rfl
end

end Go.Proofs.Ytpphhhalmccnbaa
