import Derived.Test.YtkbpocecbcaiiabGreatDoorO26
namespace Go.Proofs.YtkbpocecbcaiiabGreatDoor
open Go.RowKit
def markN (m : List Bool) (p : List Nat) (oc : List Bool) : Nat -> List Bool
 | 0 => m
 | k + 1 => if oc.getD (p.getD k 0) false then (markN m p oc k).set k true else markN m p oc k
theorem markN_len (m : List Bool) (p : List Nat) (oc : List Bool) (k : Nat) : (markN m p oc k).length = m.length := by
 induction k with
 | zero => rfl
 | succ k ih => unfold markN; split <;> simp [ih]
def RBx.pth (C : RBx) (r : Nat) : List Nat := secs (C.L.rt r).path
def RBx.mkd (C : RBx) (f : Fr) (r : Nat) : RLn := { C.line r with marks := markN (C.line r).marks (C.pth r) f.occ (C.pth r).length }
def RBx.passed (C : RBx) (f : Fr) (r : Nat) : RBx :=
 if (C.mkd f r).marks.getD (C.line r).gone false = false then C.put r (C.mkd f r)
 else if (C.line r).gone + 1 < (C.pth r).length then
  if f.occ.getD ((C.pth r).getD (C.line r).gone 0) false = false /\ (C.mkd f r).marks.getD ((C.line r).gone + 1) false = true then C.put r { C.mkd f r with gone := (C.line r).gone + 1 } else C.put r (C.mkd f r)
 else if f.occ.getD (if 0 < (C.line r).gone then (C.pth r).getD ((C.line r).gone - 1) 0 else (C.L.rt r).foot) false = true then C.put r (C.mkd f r) else C.put r RLn0
end Go.Proofs.YtkbpocecbcaiiabGreatDoor
