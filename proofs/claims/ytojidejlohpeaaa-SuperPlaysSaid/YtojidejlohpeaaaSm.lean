/-
  What is loaded of a device and saved on it, by their words alone; that one of the two is there behind whatever is lost. No program.
-/
import Derived.Test.YtojidejlohpeaaaSp
import Derived.Test.YtojidejlohpeaaaDevB
namespace Go.Proofs.Ytojidejlohpeaaa
set_option maxRecDepth 100000
open Go.RowKit Crc Wm Sup

/-- which of two sectors is told -/
def pickE (a b : List UInt8) : Int := if decE a = 0 ∨ decE b = 0 then 0 else 6
def pick (a b : List UInt8) : Sup := if decE b = 0 ∧ (decE a ≠ 0 ∨ (decS a).V < (decS b).V) then decS b else decS a

namespace Dv
/-- Load -/
def ldE (D : Dv) : Int := if D.readE 0 ≠ 0 then D.readE 0 else if D.readE 1 ≠ 0 then D.readE 1 else pickE (D.read 0) (D.read 1)
def ldS (D : Dv) : Sup := if D.readE 0 ≠ 0 ∨ D.readE 1 ≠ 0 then Sup.zero else pick (D.read 0) (D.read 1)

/-- Save -/
def svAt (s : Sup) : Int := (s.V + 1) % 2
def sv1 (D : Dv) (s : Sup) : Dv := D.write (svAt s) s.next.sector
def svE1 (D : Dv) (s : Sup) : Int := D.writeE (svAt s) s.next.sector
def svE (D : Dv) (s : Sup) : Int := if s.May ∧ s.V ≠ 281474976710656 then (if D.svE1 s ≠ 0 then D.svE1 s else (D.sv1 s).flushE) else 1
def svD (D : Dv) (s : Sup) : Dv := if s.May ∧ s.V ≠ 281474976710656 then (if D.svE1 s ≠ 0 then D.sv1 s else (D.sv1 s).flush) else D
def svS (D : Dv) (s : Sup) : Sup := if D.svE s = 0 then s.next else Sup.zero
theorem sv1_n (D : Dv) (s : Sup) : (D.sv1 s).n = D.n := write_n _ _
theorem sv1_spent (D : Dv) (s : Sup) : (D.sv1 s).spent ≤ D.spent + 1 := write_spent _ _
theorem svD_n (D : Dv) (s : Sup) : (D.svD s).n = D.n := by
  unfold svD
  split
  · split
    · exact sv1_n D s
    · rw [flush_n]; exact sv1_n D s
  · rfl
theorem svD_spent (D : Dv) (s : Sup) : (D.svD s).spent ≤ D.spent + 2 := by
  have h := sv1_spent D s
  unfold svD
  split
  · split
    · omega
    · have := flush_spent (D := D.sv1 s)
      omega
  · omega
theorem svS_wf (D : Dv) (s : Sup) : (D.svS s).Wf := by
  unfold svS
  split
  · rename_i h
    unfold svE at h
    split at h
    · rename_i g; exact (next_may g.1 g.2).wf
    · omega
  · exact Sup.zero_wf
theorem ldS_wf (D : Dv) : D.ldS.Wf := by
  unfold ldS
  split
  · exact Sup.zero_wf
  · unfold pick
    split <;> exact Sup.decS_wf _

/-- what is read at i -/
def look (D : Dv) (i : Nat) : List UInt8 := (D.late i).getD (D.laid i)

/-- the sector of a version, the other one -/
def here (s : Sup) : Nat := (s.V % 2).toNat
def there (s : Sup) : Nat := ((s.V + 1) % 2).toNat

/-- two sectors tell s: one holds it, the other one nothing, or an elder one -/
structure Holds (f : Nat → List UInt8) (s : Sup) : Prop where
  may : s.May
  own : f (here s) = s.sector
  old : decE (f (there s)) ≠ 0 ∨ (decS (f (there s))).V < s.V

theorem two_ways (s : Sup) : (here s = 0 ∧ there s = 1) ∨ (here s = 1 ∧ there s = 0) := by
  unfold here there
  omega
theorem Holds.pick {f : Nat → List UInt8} {s : Sup} (h : Holds f s) : pickE (f 0) (f 1) = 0 ∧ pick (f 0) (f 1) = s := by
  obtain ⟨e0, es⟩ := dec_enc s h.may
  have ho := h.own
  have hn := h.old
  unfold pickE Go.Proofs.Ytojidejlohpeaaa.pick
  rcases two_ways s with ⟨g1, g2⟩ | ⟨g1, g2⟩
  · rw [g1] at ho
    rw [g2] at hn
    rw [ho, e0, es]
    refine ⟨by rw [if_pos (.inl rfl)], ?_⟩
    rw [if_neg]
    rintro ⟨h1, h2 | h2⟩
    · exact h2 rfl
    · rcases hn with h3 | h3
      · exact h3 h1
      · omega
  · rw [g1] at ho
    rw [g2] at hn
    rw [ho, e0, es]
    refine ⟨by rw [if_pos (.inr rfl)], ?_⟩
    rw [if_pos]
    exact ⟨rfl, hn⟩
/-- the next one in the other's place -/
theorem Holds.next {f g : Nat → List UInt8} {s t : Sup} (h : Holds f s) (hv : t.V = s.V) (ht : t.May) (hm : t.V ≠ 281474976710656) (h1 : g (there s) = t.next.sector) (h2 : g (here s) = f (here s)) : Holds g t.next := by
  have e1 : here t.next = there s := by
    unfold here there
    rw [← hv]
    rfl
  have e2 : there t.next = here s := by
    have hb := h.may.1
    unfold here there
    rw [← hv]
    show ((t.V + 1 + 1) % 2).toNat = _
    omega
  refine ⟨next_may ht hm, by rw [e1]; exact h1, ?_⟩
  right
  rw [e2, h2, h.own, (dec_enc s h.may).2, ← hv]
  show t.V < t.V + 1
  omega

section
variable {D : Dv}
theorem read_look (hg : D.gone = false) {i : Nat} (hi : i < D.n) : D.readE (i : Int) = 0 ∧ D.read (i : Int) = D.look i := by
  unfold Dv.read Dv.readE look
  rw [hg, if_neg Bool.false_ne_true, if_neg Bool.false_ne_true, has_of hi]
  exact ⟨rfl, rfl⟩
/-- what is loaded of a device that is there -/
theorem load_look (hg : D.gone = false) (hn : 2 ≤ D.n) : D.ldE = pickE (D.look 0) (D.look 1) ∧ D.ldS = pick (D.look 0) (D.look 1) := by
  obtain ⟨a1, a2⟩ := read_look hg (i := 0) (by omega)
  obtain ⟨b1, b2⟩ := read_look hg (i := 1) (by omega)
  unfold ldE ldS
  have c1 : D.readE 0 = 0 := a1
  have c2 : D.readE 1 = 0 := b1
  have c3 : D.read 0 = D.look 0 := a2
  have c4 : D.read 1 = D.look 1 := b2
  rw [c1, c2, c3, c4]
  exact ⟨by rw [if_neg (by decide), if_neg (by decide)], by rw [if_neg (by decide)]⟩
theorem Holds.load {s : Sup} (h : Holds D.look s) (hg : D.gone = false) (hn : 2 ≤ D.n) : D.ldE = 0 ∧ D.ldS = s := by
  obtain ⟨h1, h2⟩ := load_look hg hn
  rw [h1, h2]
  exact h.pick
theorem at_there (s : Sup) : svAt s = (there s : Int) ∧ there s < 2 := by
  unfold svAt there
  omega
theorem look_put (D : Dv) (i j : Nat) (s : List UInt8) : (D.put i s).look j = if j = i then s else D.look j := by
  unfold look put
  show Option.getD (if j = i then some s else D.late j) (D.laid j) = _
  split <;> rfl
theorem look_more (j : Nat) : D.more.look j = D.look j := rfl
theorem look_settle (j : Nat) : D.settle.look j = D.look j := rfl
theorem pad_sector (s : Sup) : Dv.pad s.sector = s.sector := by
  unfold Dv.pad
  rw [length_sector]
  simp

/-- Save on a device that is free -/
theorem Free.save (h : D.Free) (hn : 2 ≤ D.n) {s : Sup} (hs : s.May) (hv : s.V ≠ 281474976710656) : D.svE s = 0 ∧ D.svS s = s.next ∧ (D.svD s).Free ∧ (D.svD s).n = D.n ∧ (D.svD s).spent = D.spent + 2 ∧ (∀ i, (D.svD s).late i = none) ∧
    ∀ i, (D.svD s).look i = if i = there s then s.next.sector else D.look i := by
  obtain ⟨ha, hl⟩ := at_there s
  have hl64 : s.next.sector.length ≤ 64 := by rw [length_sector]; omega
  have hE1 : D.svE1 s = 0 := by
    unfold svE1
    rw [ha]
    exact h.writeE (by omega) hl64
  have h1 : D.sv1 s = D.more.put (there s) s.next.sector := by
    unfold sv1
    rw [ha, h.write (by omega) hl64, pad_sector]
  have hf1 : (D.sv1 s).Free := by rw [h1]; exact h.more.put _ _
  have hE : D.svE s = 0 := by
    unfold svE
    rw [if_pos ⟨hs, hv⟩, hE1, if_neg (by decide)]
    exact hf1.flushE
  have hD : D.svD s = (D.sv1 s).flush := by
    unfold svD
    rw [if_pos ⟨hs, hv⟩, hE1, if_neg (by decide)]
  refine ⟨hE, by unfold svS; rw [if_pos hE], ?_, svD_n D s, ?_, ?_, ?_⟩
  · rw [hD]; exact hf1.flushed
  · rw [hD, hf1.flush, h1]; rfl
  · intro i; rw [hD, hf1.flush]; rfl
  · intro i
    rw [hD, hf1.flush]
    show ((D.sv1 s).more.settle).look i = _
    rw [look_settle, look_more, h1, look_put]
    rfl
theorem holds_saved (h : D.Free) (hn : 2 ≤ D.n) {s t : Sup} (hs : Holds D.look s) (hv : t.V = s.V) (ht : t.May) (hm : t.V ≠ 281474976710656) : Holds (D.svD t).look t.next := by
  obtain ⟨_, _, _, _, _, _, h1⟩ := h.save hn ht hm
  have e : there t = there s := by unfold there; rw [hv]
  have hne : here s ≠ there s := by rcases two_ways s with ⟨g1, g2⟩ | ⟨g1, g2⟩ <;> omega
  refine hs.next hv ht hm ?_ ?_
  · rw [h1, e, if_pos rfl]
  · rw [h1, e, if_neg hne]
end

end Dv
end Go.Proofs.Ytojidejlohpeaaa
