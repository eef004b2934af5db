/-
  A region that draws its order, in which the blocks of which X holds may turn: all else may be taken in the text's own order.
-/
import Derived.Test.YtohnfjneghbceaaTv
namespace Go.Proofs.Ytohnfjneghbceaa
open Go.RowKit

theorem Turn.drew {S : Nat → Prop} {w w' : World} (h : Turn S w w') : Turn S w w'.drew := ⟨h.os, h.tape, h.output, h.size, h.block⟩

section
variable {P : Program} {ops : Array Oper} {Q : Exit → Act → World → Prop} {md : Region.Mode} {X : Nat → Prop}

theorem wpAnyH_weak {S S' : World → Prop} (h : ∀ W, S' W → S W) : ∀ (fuel : Nat) (listed : Array Bool) (a : Act) (w : World), wpAnyH P md ops Q S' fuel listed a w → wpAnyH P md ops Q S fuel listed a w
  | 0, _, _, _, H => H
  | fuel + 1, _, _, _, H => ⟨H.1, fun i hi => wpOp_mono (fun a' w' h' => ⟨h _ h'.1, wpAnyH_weak h fuel _ a' w' h'.2⟩) (H.2 i hi)⟩

theorem wpAnyH_turn {a b : World} (hab : Turn X a b) {fuel : Nat} {listed : Array Bool} {x : Act} {w : World} (h : wpAnyH P md ops Q (Turn X b) fuel listed x w) : wpAnyH P md ops Q (Turn X a) fuel listed x w :=
  wpAnyH_weak (fun _ hW => Turn.trans hab hW) fuel listed x w h

theorem wp_region_turn {id : Nat} {a : Act} {w : World} (hm : P.follows .mixedOrders = true)
    (h : wpAnyH P .any ops Q (Turn X w) ops.size (Array.replicate ops.size false) a w.drew) : (Code.region id ops true).wp P Q a w :=
  wp_region_held_drew hm ((Turn.refl _ _).drew) (fun _ => h)
end

end Go.Proofs.Ytohnfjneghbceaa
