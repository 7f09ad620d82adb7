import Derived.Test.YtkbpocecbcaiiabGreatDoorO24
namespace Go.Proofs.YtkbpocecbcaiiabGreatDoor
open Go.RowKit
def markN (m:List Bool) (p:List Nat) (oc:List Bool):Nat->List Bool
 | 0=>m
 | k+1=>if oc.getD (p.getD k 0) false then (markN m p oc k).set k true else markN m p oc k
theorem markN_len (m:List Bool) (p:List Nat) (oc:List Bool) (k:Nat):(markN m p oc k).length=m.length:=by
 induction k with
 | zero=>rfl
 | succ k ih=>unfold markN; split <;> simp[ih]
def RBx.pth (C:RBx) (r:Nat):List Nat:=secs (C.L.rt r).path
def RBx.mkd (C:RBx) (f:Fr) (r:Nat):RLn:={ C.line r with marks:=markN (C.line r).marks (C.pth r) f.occ (C.pth r).length }
def RBx.passed (C:RBx) (f:Fr) (r:Nat):RBx:=
 if (C.mkd f r).marks.getD (C.line r).gone false=false then C.put r (C.mkd f r)
 else if (C.line r).gone+1 < (C.pth r).length then
  if f.occ.getD ((C.pth r).getD (C.line r).gone 0) false=false/\(C.mkd f r).marks.getD ((C.line r).gone+1) false=true then C.put r { C.mkd f r with gone:=(C.line r).gone+1 } else C.put r (C.mkd f r)
 else if f.occ.getD (if 0 < (C.line r).gone then (C.pth r).getD ((C.line r).gone - 1) 0 else (C.L.rt r).foot) false=true then C.put r (C.mkd f r) else C.put r RLn0
end Go.Proofs.YtkbpocecbcaiiabGreatDoor
namespace Go.Proofs.YtkbpocecbcaiiabGreatDoor
open Go.RowKit
def RLn.withP (x:RLn) (p:Nat):RLn:=⟨p,x.train,x.been,x.marks,x.gone,x.count⟩
def RBx.busy (C:RBx) (f:Fr) (r:Nat):Bool:=busyF (C.pth r) f
def RBx.inB (C:RBx) (f:Fr) (r:Nat):Bool:=f.occ.getD ((C.pth r).getD 0 0) false
def RBx.step (C:RBx) (f:Fr) (r:Nat):RBx:=
 if (C.line r).ph=119 then
  if C.broken r then C.put r ((C.line r).withP 102)
  else if C.right f r&&!C.busy f r then C.put r ⟨103,(C.line r).train,true,(C.line r).marks,(C.line r).gone,(C.line r).count⟩ else C
 else if (C.line r).ph=103 then
  if C.inB f r then C.overtaken r
  else if C.broken r then C.put r ((C.line r).withP 102)
  else if !C.right f r||C.busy f r then C.put r ((C.line r).withP 119) else C
 else if (C.line r).ph=116 then C.passed f r
 else if (C.line r).ph=100 then
  if C.inB f r then C.overtaken r
  else if 0 < (C.line r).count then C.put r ⟨(C.line r).ph,(C.line r).train,(C.line r).been,(C.line r).marks,(C.line r).gone,(C.line r).count - 1⟩
  else if !C.busy f r then { C.put r RLn0 with sta:=C.sta.set (C.line r).train (C.sta.getD (C.line r).train 0 - 1) } else C
 else C
structure StepOK (C:RBx) (f:Fr) (r:Nat):Prop where
 lines:C.lines.length<=C.L.rts.length
 rts:C.L.rts.length<=1000
 sw:C.L.sw.length<=1000
 occ:f.occ.length=C.L.sw.length
 rep:f.rep.length=C.L.sw.length
 failed:C.failed.length=C.L.sw.length
 ne:(C.pth r)≠[]
 pl:(C.pth r).length<=1000
 sec:∀s,s∈C.pth r->s < f.occ.length
 foot:(C.L.rt r).foot < f.occ.length
 passing:(C.line r).ph=116->(C.line r).marks.length=(C.pth r).length/\(C.line r).gone < (C.pth r).length
 dropped:(C.line r).ph=100->(C.line r).train < C.sta.length/\1<=C.sta.getD (C.line r).train 0/\C.sta.getD (C.line r).train 0<=1000
 count:(C.line r).count<=1000
end Go.Proofs.YtkbpocecbcaiiabGreatDoor
