/-
  A region that draws its order and holds calls that make memory: what has been made stays, so that all else may be taken in the text's own order.
-/
import Derived.Test.YtjpnihmijnpjcaaMem
import Derived.Deep.RegionHeld
namespace Go.Proofs.Ytjpnihmijnpjcaa
set_option maxRecDepth 100000
open Go.RowKit

/-- W is as w1, or grown: no block that w1 has has turned -/
def Since (w1 W : World) : Prop := Below w1.heap.size w1 W

theorem since_trans {a b c : World} (h : Since a b) (k : Below b.heap.size b c) : Since a c := Below.trans h (k.mono h.size)

section
variable {P : Program} {ops : Array Oper} {Q : Exit → Act → World → Prop} {md : Region.Mode}

theorem wpAnyH_weaken {S S' : World → Prop} (h : ∀ W, S' W → S W) : ∀ (fuel : Nat) (listed : Array Bool) (a : Act) (w : World), wpAnyH P md ops Q S' fuel listed a w → wpAnyH P md ops Q S fuel listed a w
  | 0, _, _, _, H => H
  | fuel + 1, _, _, _, H => ⟨H.1, fun i hi => wpOp_mono (fun a' w' h' => ⟨h _ h'.1, wpAnyH_weaken h fuel _ a' w' h'.2⟩) (H.2 i hi)⟩

/-- from here on all is as in b, or grown -/
theorem wpAnyH_since {a b : World} (hab : Since a b) {fuel : Nat} {listed : Array Bool} {x : Act} {w : World} (h : wpAnyH P md ops Q (Since b) fuel listed x w) : wpAnyH P md ops Q (Since a) fuel listed x w :=
  wpAnyH_weaken (fun _ hW => since_trans hab hW) fuel listed x w h

theorem wp_region_since {id : Nat} {a : Act} {w : World} (hm : P.follows .mixedOrders = true)
    (h : wpAnyH P .any ops Q (Since w) ops.size (Array.replicate ops.size false) a w.drew) : (Code.region id ops true).wp P Q a w :=
  wp_region_held_drew hm ((Below.refl _ _).drew) (fun _ => h)
end

end Go.Proofs.Ytjpnihmijnpjcaa
