import Derived.Test.YtkbpocecbcaiiabGreatDoorO9
namespace Go.Proofs.YtkbpocecbcaiiabGreatDoor
open Go.RowKit
def RBx.moveB (C : RBx) (f : Fr) (s r : Nat) : Bool :=
 (C.line r).ph == 119 && C.L.wantsF r s != 0 && !f.occ.getD s false && !C.failed.getD s false && f.rep.getD s 0 != C.wanted.getD s 0
def RBx.moveF (C : RBx) (f : Fr) (s : Nat) : Nat := if (List.range C.lines.length).any (C.moveB f s) then C.wanted.getD s 0 else 46
def numF (x c n : Nat) : Option Nat := if c <= x /\ x < c + n then some (x - c) else none
def Lay.cmdB (L : Lay) (c x : Nat) : Bool :=
 if c = 114 then (numF x 49 L.tns.length).isSome else if c = 99 then (numF x 65 L.rts.length).isSome
 else if c = 109 then (match numF x 97 L.sw.length with | some s => L.sw.getD s false | none => false) else false
end Go.Proofs.YtkbpocecbcaiiabGreatDoor
