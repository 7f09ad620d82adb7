import Derived.Test.YtkbpocecbcaiiabGreatDoorO44
namespace Go.Proofs.YtkbpocecbcaiiabGreatDoor
open Go.RowKit
def RBx.grantN (C : RBx) (f : Fr) : Nat -> RBx
 | 0 => C
 | k + 1 => (C.grantN f k).grant f (C.waits.getD k 0)
def RBx.servN (C : RBx) (f : Fr) : Nat -> List Nat
 | 0 => []
 | k + 1 => if (C.grantN f k).grantB f (C.waits.getD k 0) then C.servN f k ++ [C.waits.getD k 0] else C.servN f k
def RBx.leftN (C : RBx) (f : Fr) : Nat -> List Nat
 | 0 => []
 | k + 1 => if (C.grantN f k).grantB f (C.waits.getD k 0) then C.leftN f k else C.leftN f k ++ [C.waits.getD k 0]
def RBx.grants (C : RBx) (f : Fr) : RBx := { C.grantN f C.waits.length with waits := C.leftN f C.waits.length }
end Go.Proofs.YtkbpocecbcaiiabGreatDoor
