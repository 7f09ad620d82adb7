import Derived.Test.YtkbpocecbcaiiabGreatDoorO8
namespace Go.Proofs.YtkbpocecbcaiiabGreatDoor
open Go.RowKit
theorem ar_true {f : Nat -> Bool} {n : Nat} (h : ∀ j, j < n -> f j = true) : (List.range n).all f = true := by
 rw [List.all_eq_true]; intro j hj; exact h j (List.mem_range.1 hj)
theorem ar_false {f : Nat -> Bool} {n k : Nat} (hk : k < n) (h : f k = false) : (List.range n).all f = false := by
 rw [List.all_eq_false]; exact ⟨k, List.mem_range.2 hk, by rw [h]; simp⟩
def RBx.rightB (C : RBx) (f : Fr) (r s : Nat) : Bool := C.L.wantsF r s == 0 || f.rep.getD s 0 == C.L.wantsF r s
def RBx.right (C : RBx) (f : Fr) (r : Nat) : Bool := (List.range C.L.sw.length).all (C.rightB f r)
def RBx.takenB (C : RBx) (f : Fr) (s : Nat) : Bool := (C.lockedBy s).isSome || f.occ.getD s false
def RBx.freeB (C : RBx) (f : Fr) (r s : Nat) : Bool :=
 !(has (C.L.rt r).path s && C.takenB f s) && !(C.L.wantsF r s != 0 && (C.failed.getD s false || (C.wanted.getD s 0 != C.L.wantsF r s && (C.heldB s || C.takenB f s))))
def RBx.free (C : RBx) (f : Fr) (r : Nat) : Bool := (List.range C.L.sw.length).all (C.freeB f r)
end Go.Proofs.YtkbpocecbcaiiabGreatDoor
