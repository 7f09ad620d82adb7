import Derived.Test.YtkbpocecbcaiiaaGreatDoorM11
import Derived.Test.YtkbpocecbcaiiaaGreatDoorM9
namespace Go.Proofs.YtkbpocecbcaiiaaGreatDoor
open Go.RowKit
def RBx.lateF (C : RBx) (f : Fr) (s : Nat) : Nat :=
 if C.L.sw.getD s false && C.heldB s && !C.failed.getD s false && f.rep.getD s 0 != C.wanted.getD s 0 then C.late.getD s 0 + 1 else 0
def RBx.watch1 (C : RBx) (f : Fr) (s : Nat) : RBx :=
 if C.lateF f s = C.L.T then { C with late := (C.late.set s (C.lateF f s)).set s 0, failed := C.failed.set s true } else { C with late := C.late.set s (C.lateF f s) }
def RBx.watchN (C : RBx) (f : Fr) : Nat -> RBx
 | 0 => C
 | k + 1 => (C.watchN f k).watch1 f k
def RBx.watch (C : RBx) (f : Fr) : RBx := C.watchN f C.L.sw.length
theorem z12 {w : World} {b : Nat} {e : TypeId} {sz : Nat} {v : Value} {n : Nat} {xs : List Value} (h : w.ownsRow b e sz v n xs) (hn : 0 < n) : ∃ g cap, v = .slice (some ⟨g, 0, none⟩) n cap /\ n <= cap /\ cap <= maxLen /\ g < w.heap.size := by
 rcases h.2 with ⟨-, h0⟩ | ⟨g, cap, cur, hv, hg, hh, h1, h2, -⟩
 ·omega
 ·exact ⟨g, cap, hv, h1, h2, z0e hh⟩
end Go.Proofs.YtkbpocecbcaiiaaGreatDoor
