/-
  How notes lie in memory, and what the program's calls are to answer.
-/
import Derived.Test.YtjpnihmijnpjcaaNm
import Derived.Test.YtjpnihmijnpjcaaRk
namespace Go.Proofs.Ytjpnihmijnpjcaa
set_option maxRecDepth 100000
set_option linter.unusedVariables false
open Go.RowKit Wm Nn

/-- the n bytes l lie there, and there is room for as many at least -/
structure Lies (w : World) (A : Option Addr) (c n : Nat) (l : List UInt8) : Prop where
  rd : Rd w w.heap.size A l
  len : l.length = n
  cap : n ≤ c
theorem Owns.cap_le {w : World} {base : Nat} {A : Option Addr} {cap n : Nat} {l : List UInt8} (h : Owns w base A cap n l) : n ≤ cap := by
  rcases h.2 with ⟨_, hn⟩ | ⟨g, c, cur, e, _, _, hnc, _⟩
  · omega
  · injection e with _ _ e3
    omega
theorem Owns.lies {w : World} {base : Nat} {A : Option Addr} {cap n : Nat} {l : List UInt8} (h : Owns w base A cap n l) : Lies w A cap n l := ⟨h.read, h.len, h.cap_le⟩
theorem Lies.up {w W : World} {A : Option Addr} {c n : Nat} {l : List UInt8} (h : Lies w A c n l) (hb : Below w.heap.size w W) : Lies W A c n l := ⟨h.rd.up hb, h.len, h.cap⟩
theorem Lies.conv {w : World} {A : Option Addr} {c n : Nat} {l : List UInt8} (h : Lies w A c n l) : (convert 26 9 (.slice A n c)).run Try.prog w = .ok (.string ⟨l.toArray⟩) w :=
  run_string_rd h.rd _ _ Try.underlying26 Try.underlying5 Try.underlying9 n c h.len

/-- an image's row: its block, and where its bytes are -/
structure Ir where
  k : Int
  a : Option Addr
  n : Nat
  c : Nat
def RI : Rk Ir := ⟨51, 22, 2, 32, .agg #[.int .i64 0, .slice none 0 0], fun x => [.int .i64 x.k, .slice x.a x.n x.c]⟩
theorem ri_ok : RI.Ok := ⟨by decide, by decide, fun _ => rfl, fun x v hv => (by simp [RI] at hv; rcases hv with rfl | rfl <;> rfl), Try.underlying22, by kernel_rfl, rfl⟩
def RO : Rk Od := ⟨53, 23, 2, 16, .agg #[.int .i64 0, .int .i64 0], fun x => [.int .i64 x.c, .int .i64 x.b]⟩
theorem ro_ok : RO.Ok := ⟨by decide, by decide, fun _ => rfl, fun x v hv => (by simp [RO] at hv; rcases hv with rfl | rfl <;> rfl), Try.underlying23, by kernel_rfl, rfl⟩

/-- images lie there -/
structure ImAt (w : World) (A : Option Addr) (n c : Nat) (l : List Im) (rs : List Ir) : Prop where
  row : RI.At w A rs
  rl : rs.length = n
  ll : l.length = n
  cap : n ≤ c
  fm : A = none ∨ ∃ b o, A = some ⟨b, o, none⟩
  each : ∀ (i : Nat) (r : Ir) (x : Im), rs[i]? = some r → l[i]? = some x → r.k = x.k ∧ Lies w r.a r.c r.n x.d ∧ okI x.k
structure OpAt (w : World) (A : Option Addr) (n c : Nat) (l : List Od) : Prop where
  row : RO.At w A l
  ll : l.length = n
  cap : n ≤ c
  fm : A = none ∨ ∃ b o, A = some ⟨b, o, none⟩
  ok : ∀ (i : Nat) (x : Od), l[i]? = some x → okI x.c ∧ okI x.b
/-- where a note's parts are -/
structure Nr where
  A : Option Addr
  n : Nat
  c : Nat
  B : Option Addr
  m : Nat
  d : Nat
  rs : List Ir
def ntC (x : Nt) (r : Nr) : Array Value := #[.int .i64 x.kind, .int .i64 x.seq, .slice r.A r.n r.c, .slice r.B r.m r.d]
def ntV (x : Nt) (r : Nr) : Value := .agg (ntC x r)
structure NtAt (w : World) (x : Nt) (r : Nr) : Prop where
  im : ImAt w r.A r.n r.c x.im r.rs
  op : OpAt w r.B r.m r.d x.op
  kind : okI x.kind
  seq : okI x.seq
section
variable {w V : World} {A : Option Addr} {n c : Nat}
theorem ImAt.below {l : List Im} {rs : List Ir} (h : ImAt w A n c l rs) (hb : Below w.heap.size w V) : ImAt V A n c l rs := ⟨h.row.below hb, h.rl, h.ll, h.cap, h.fm, fun i r x hr hx => ⟨(h.each i r x hr hx).1, (h.each i r x hr hx).2.1.up hb, (h.each i r x hr hx).2.2⟩⟩
theorem OpAt.below {l : List Od} (h : OpAt w A n c l) (hb : Below w.heap.size w V) : OpAt V A n c l := ⟨h.row.below hb, h.ll, h.cap, h.fm, h.ok⟩
theorem NtAt.below {x : Nt} {r : Nr} (h : NtAt w x r) (hb : Below w.heap.size w V) : NtAt V x r := by
  obtain ⟨hi, ho, h1, h2⟩ := h
  exact ⟨hi.below hb, ho.below hb, h1, h2⟩
theorem NtAt.n_ {x : Nt} {r : Nr} (h : NtAt w x r) : x.im.length = r.n ∧ r.n ≤ r.c ∧ x.op.length = r.m ∧ r.m ≤ r.d := by
  have hi := h.im
  exact ⟨hi.ll, hi.cap, h.op.ll, h.op.cap⟩
/-- an image, as the walk meets it -/
structure ImIn (w : World) (A : Option Addr) (i : Nat) (x : Im) (r : Ir) (b o : Nat) : Prop where
  a : A = some ⟨b, o, none⟩
  lt : b < w.heap.size
  c0 : w.cell? ⟨b, o + i * 2, none⟩ = some (.int .i64 x.k)
  c1 : w.cell? ⟨b, o + i * 2 + 1, none⟩ = some (.slice r.a r.n r.c)
  li : Lies w r.a r.c r.n x.d
  ok : okI x.k
theorem ImAt.get {l : List Im} {rs : List Ir} (h : ImAt w A n c l rs) {i : Nat} (hi : i < n) : ∃ x r b o, l[i]? = some x ∧ rs[i]? = some r ∧ ImIn w A i x r b o := by
  have h1 := h.rl
  have h2 := h.ll
  have hr : rs[i]? = some (rs[i]'(by omega)) := List.getElem?_eq_getElem (by omega)
  have hx : l[i]? = some (l[i]'(by omega)) := List.getElem?_eq_getElem (by omega)
  obtain ⟨e1, e2, e3⟩ := h.each i _ _ hr hx
  obtain ⟨b, o, ea, hb, hc⟩ := h.row.get ri_ok hr
  refine ⟨_, _, b, o, hx, hr, ea, hb, ?_, hc 1 _ rfl, e2, e3⟩
  rw [← e1]
  exact hc 0 _ rfl
structure OpIn (w : World) (A : Option Addr) (i : Nat) (x : Od) (b o : Nat) : Prop where
  a : A = some ⟨b, o, none⟩
  lt : b < w.heap.size
  c0 : w.cell? ⟨b, o + i * 2, none⟩ = some (.int .i64 x.c)
  c1 : w.cell? ⟨b, o + i * 2 + 1, none⟩ = some (.int .i64 x.b)
  ok : okI x.c ∧ okI x.b
theorem OpAt.get {l : List Od} (h : OpAt w A n c l) {i : Nat} (hi : i < n) : ∃ x b o, l[i]? = some x ∧ OpIn w A i x b o := by
  have h2 := h.ll
  have hx : l[i]? = some (l[i]'(by omega)) := List.getElem?_eq_getElem (by omega)
  obtain ⟨b, o, ea, hb, hc⟩ := h.row.get ro_ok hx
  exact ⟨_, b, o, hx, ea, hb, hc 0 _ rfl, hc 1 _ rfl, h.ok i _ hx⟩
end

/-- no part of it lies in block z -/
def off (A : Option Addr) (n z : Nat) : Prop := ∀ b o, A = some ⟨b, o, none⟩ → n = 0 ∨ b ≠ z
def Nr.Off (r : Nr) (z : Nat) : Prop := off r.A r.n z ∧ off r.B r.m z ∧ ∀ q, q ∈ r.rs → off q.a q.n z
theorem turn_one {w V : World} {z : Nat} (hg : w.grownBy V (some z)) : Turn (fun k => k = z) w V := ⟨hg.os, hg.tape, hg.output, hg.size, fun k hk hn => hg.block k hk (fun e => hn (by injection e with e))⟩
theorem Lies.off {w V : World} {A : Option Addr} {c n z : Nat} {l : List UInt8} (h : Lies w A c n l) (hz : off A n z) (hg : w.grownBy V (some z)) : Lies V A c n l := by
  refine ⟨?_, h.len, h.cap⟩
  rcases h.rd with e | ⟨b, o, e, hb, hc⟩
  · exact .inl e
  · rcases hz b o e with h0 | h0
    · exact .inl (List.eq_nil_of_length_eq_zero (by rw [h.len]; exact h0))
    · exact .inr ⟨b, o, e, Nat.lt_of_lt_of_le hb hg.size, fun j x hx => (turn_one hg).cell (hc j x hx) h0⟩
theorem NtAt.off {w V : World} {x : Nt} {r : Nr} {z : Nat} (h : NtAt w x r) (hz : r.Off z) (hg : w.grownBy V (some z)) : NtAt V x r := by
  obtain ⟨hi, ho, h1, h2⟩ := h
  obtain ⟨z1, z2, z3⟩ := hz
  refine ⟨⟨hi.row.turn (turn_one hg) (fun b o e => (z1 b o e).imp (fun h0 => List.eq_nil_of_length_eq_zero (by rw [hi.rl]; exact h0)) id), hi.rl, hi.ll, hi.cap, hi.fm, fun i q y hq hy => ?_⟩, ⟨ho.row.turn (turn_one hg) (fun b o e => (z2 b o e).imp (fun h0 => List.eq_nil_of_length_eq_zero (by rw [ho.ll]; exact h0)) id), ho.ll, ho.cap, ho.fm, ho.ok⟩, h1, h2⟩
  obtain ⟨e1, e2, e3⟩ := hi.each i q y hq hy
  exact ⟨e1, e2.off (z3 q (List.mem_of_getElem? hq)) hg, e3⟩

/-- the words -/
def BytesOut (w : World) (l : List UInt8) (E : Int) (e : Ending) (w' : World) : Prop := ∃ A N c, e = .returned (.tuple #[.slice A N c, .int .i64 E]) ∧ N = l.length ∧ Owns w' w.heap.size A c N l ∧ Below w.heap.size w w'
def SmallN (x : Nt) : Prop := x.im.length ≤ 1000 ∧ x.op.length ≤ 1000 ∧ ∀ (i : Nat) (y : Im), x.im[i]? = some y → y.d.length ≤ 1000
/-- the answer lies in no block where what was given does not lie -/
def MergeOut (w : World) (x : Nt) (E : Int) (r q : Nr) (e : Ending) (w' : World) : Prop := ∃ p, e = .returned (.tuple #[ntV x p, .int .i64 E]) ∧ NtAt w' x p ∧ Below w.heap.size w w' ∧ ∀ z, z < w.heap.size → r.Off z → q.Off z → p.Off z
def DecodeOut (w : World) (x : Nt) (E : Int) (A : Option Addr) (n : Nat) (e : Ending) (w' : World) : Prop := ∃ p, e = .returned (.tuple #[ntV x p, .int .i64 E]) ∧ NtAt w' x p ∧ Below w.heap.size w w' ∧ ∀ z, z < w.heap.size → off A n z → p.Off z
structure NoteOk : Prop where
  sane : ∀ (x : Nt) (r : Nr) (w : World), NtAt w x r → SmallN x → Calls Try.prog 18 #[ntV x r] w fun e w' => e = .returned (.bool (sane x)) ∧ Below w.heap.size w w'
  encode : ∀ (x : Nt) (r : Nr) (w : World), NtAt w x r → SmallN x → Calls Try.prog 11 #[ntV x r] w (BytesOut w (encB x) (encE x))
  size : ∀ (x : Nt) (r : Nr) (w : World), NtAt w x r → SmallN x → Calls Try.prog 20 #[ntV x r] w fun e w' => e = .returned (.int .i64 ((encB x).length : Int)) ∧ Below w.heap.size w w'
  decode : ∀ (A : Option Addr) (c n : Nat) (l : List UInt8) (w : World), Lies w A c n l → n ≤ 100000 → Calls Try.prog 14 #[.slice A n c] w (DecodeOut w (decN l) (decE l) A n)
  merge : ∀ (x y : Nt) (r q : Nr) (w : World), NtAt w x r → NtAt w y q → SmallN x → SmallN y → Calls Try.prog 16 #[ntV x r, ntV y q] w (MergeOut w (merN x y) (merE x y) r q)

end Go.Proofs.Ytjpnihmijnpjcaa
