import Derived.Test.YtkbpocecbcaiiabGreatDoorO45
import Derived.StillTailTactics
namespace Go.Proofs.YtkbpocecbcaiiabGreatDoor
open Go.RowKit
def RBx.stepN (C : RBx) (f : Fr) : Nat -> RBx
 | 0 => C
 | k + 1 => (C.stepN f k).step f k
def RBx.doN (C : RBx) (f : Fr) : Nat -> RBx
 | 0 => C
 | k + 1 => (C.doN f k).doC f (pk f.cmds (2 * k)) (pk f.cmds (2 * k + 1))
def RBx.doAt (C : RBx) (f : Fr) (j : Nat) : Nat := (C.doN f j).doA (pk f.cmds (2 * j)) (pk f.cmds (2 * j + 1))
def RBx.doAs (C : RBx) (f : Fr) (k : Nat) : List Nat := (List.range k).map (C.doAt f)
def RBx.s1 (C : RBx) (f : Fr) : RBx := C.watch f
def RBx.s2 (C : RBx) (f : Fr) : RBx := (C.s1 f).stepN f (C.s1 f).lines.length
def RBx.s3 (C : RBx) (f : Fr) : RBx := (C.s2 f).doN f (f.cmds.size / 2)
def RBx.s4 (C : RBx) (f : Fr) : RBx := (C.s3 f).grants f
def rlampC (x : RLn) : Nat := if x.ph = 103 then 103 else 114
def RBx.lampsT (C : RBx) : List Nat := C.lines.map rlampC
def RBx.moveT (C : RBx) (f : Fr) (s : Nat) : List Nat := if C.L.sw.getD s false then [C.moveF f s] else []
def RBx.movesT (C : RBx) (f : Fr) : List Nat := (List.range C.L.sw.length).flatMap (C.moveT f)
def ansL (lamps moves as_ sv : List Nat) : List Nat := [61] ++ lamps ++ [47] ++ moves ++ [47] ++ as_ ++ [47] ++ sv
def RBx.ansB (C : RBx) (f : Fr) : List Nat := ansL (C.s4 f).lampsT ((C.s4 f).movesT f) ((C.s2 f).doAs f (f.cmds.size / 2)) (((C.s3 f).servN f (C.s3 f).waits.length).map (49 + ·))
def RBx.cyc (C : RBx) (s : ByteArray) : RBx := if C.L.frameB s then C.s4 (C.L.frOf s) else C
def RBx.ans (C : RBx) (s : ByteArray) : ByteArray := if C.L.frameB s then z0i (C.ansB (C.L.frOf s)) else ⟨#[33]⟩
structure RCyc (C : RBx) (f : Fr) : Prop where
 wo : WatchOK C f
 st : ∀ k, k < (C.s1 f).lines.length -> StepOK ((C.s1 f).stepN f k) f k /\ ((C.s1 f).stepN f k).lines.length = (C.s1 f).lines.length
 sl : (C.s1 f).lines.length <= 1000
 dd : ∀ k, k < f.cmds.size / 2 -> DoOK ((C.s2 f).doN f k) f /\ ((C.s2 f).doN f k).L.cmdB (pk f.cmds (2 * k)) (pk f.cmds (2 * k + 1)) = true
 cz : f.cmds.size <= 1000
 ce : f.cmds.size % 2 = 0
 gr : ∀ k (hk : k < (C.s3 f).waits.length), GrantOK ((C.s3 f).grantN f k) f (C.s3 f).waits[k]
 w3 : (C.s3 f).waits.length <= 1000
 h9 : ∀ t, t ∈ (C.s3 f).waits -> t < 9
 w4 : WatchOK (C.s4 f) f
 o4 : f.occ.length = (C.s4 f).L.sw.length
end Go.Proofs.YtkbpocecbcaiiabGreatDoor
