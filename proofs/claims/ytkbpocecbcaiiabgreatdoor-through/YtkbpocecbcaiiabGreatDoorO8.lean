import Derived.Test.YtkbpocecbcaiiabGreatDoorO7
namespace Go.Proofs.YtkbpocecbcaiiabGreatDoor
open Go.RowKit
theorem ar_true {f:Nat->Bool} {n:Nat} (h:∀j,j < n->f j=true):(List.range n).all f=true:=by
 rw[List.all_eq_true]; intro j hj; exact h j (List.mem_range.1 hj)
theorem ar_false {f:Nat->Bool} {n k:Nat} (hk:k < n) (h:f k=false):(List.range n).all f=false:=by
 rw[List.all_eq_false]; exact⟨k,List.mem_range.2 hk,by rw[h]; simp⟩
def RBx.rightB (C:RBx) (f:Fr) (r s:Nat):Bool:=C.L.wantsF r s==0||f.rep.getD s 0==C.L.wantsF r s
def RBx.right (C:RBx) (f:Fr) (r:Nat):Bool:=(List.range C.L.sw.length).all (C.rightB f r)
def RBx.takenB (C:RBx) (f:Fr) (s:Nat):Bool:=(C.lockedBy s).isSome||f.occ.getD s false
def RBx.freeB (C:RBx) (f:Fr) (r s:Nat):Bool:=
 !(has (C.L.rt r).path s&&C.takenB f s)&&!(C.L.wantsF r s != 0&&(C.failed.getD s false||(C.wanted.getD s 0 != C.L.wantsF r s&&(C.heldB s||C.takenB f s))))
def RBx.free (C:RBx) (f:Fr) (r:Nat):Bool:=(List.range C.L.sw.length).all (C.freeB f r)
end Go.Proofs.YtkbpocecbcaiiabGreatDoor
namespace Go.Proofs.YtkbpocecbcaiiabGreatDoor
open Go.RowKit
def RBx.moveB (C:RBx) (f:Fr) (s r:Nat):Bool:=
 (C.line r).ph==119&&C.L.wantsF r s != 0&&!f.occ.getD s false&&!C.failed.getD s false&&f.rep.getD s 0 != C.wanted.getD s 0
def RBx.moveF (C:RBx) (f:Fr) (s:Nat):Nat:=if (List.range C.lines.length).any (C.moveB f s) then C.wanted.getD s 0 else 46
def numF (x c n:Nat):Option Nat:=if c<=x/\x < c+n then some (x - c) else none
def Lay.cmdB (L:Lay) (c x:Nat):Bool:=
 if c=114 then (numF x 49 L.tns.length).isSome else if c=99 then (numF x 65 L.rts.length).isSome
 else if c=109 then (match numF x 97 L.sw.length with | some s=>L.sw.getD s false | none=>false) else false
end Go.Proofs.YtkbpocecbcaiiabGreatDoor
namespace Go.Proofs.YtkbpocecbcaiiabGreatDoor
open Go.RowKit
theorem z1w {P:Nat->Prop} {w w':World} {b:Nat} {e:TypeId} {sz:Nat} {v:Value} {n:Nat} {xs:List Value} (h:w.ownsRow b e sz v n xs) (hs:SameOn P w w') (hP:∀k,v.ownBlock=some k->P k):w'.ownsRow b e sz v n xs:=by
 refine⟨h.1,?_⟩;rcases h.2 with h2 | ⟨g,cap,cur,hv,hg,hh,r⟩
 ·exact .inl h2
 ·exact .inr ⟨g,cap,cur,hv,hg,(hs g (hP g (by rw[hv]; rfl))).trans hh,r⟩
end Go.Proofs.YtkbpocecbcaiiabGreatDoor
namespace Go.Proofs.YtkbpocecbcaiiabGreatDoor
open Go.RowKit
def cntT (l:List Bool):Nat:=(l.filter (·==true)).length
def Lay.posR (L:Lay) (i:Nat):Nat:=L.sw.length+cntT (L.sw.take i)
def okO (s:ByteArray) (i:Nat):Bool:=pk s i==48||pk s i==49
def isRep (c:Nat):Bool:=c==43||c==45||c==63
def Lay.okR (L:Lay) (s:ByteArray) (i:Nat):Bool:=!L.sw.getD i false||isRep (pk s (L.posR i))
def Lay.okB (L:Lay) (s:ByteArray) (i:Nat):Bool:=okO s i&&L.okR s i
def Lay.okS (L:Lay) (s:ByteArray):Bool:=(List.range L.sw.length).all (L.okB s)
def Lay.bgn (L:Lay):Nat:=L.sw.length+cntT L.sw
def Lay.okP (L:Lay) (s:ByteArray) (j:Nat):Bool:=L.cmdB (pk s (L.bgn+2*j)) (pk s (L.bgn+2*j+1))
def Lay.okC (L:Lay) (s:ByteArray):Bool:=decide ((s.size - L.bgn) % 2=0)&&(List.range ((s.size - L.bgn) / 2)).all (L.okP s)
def Lay.frameB (L:Lay) (s:ByteArray):Bool:=decide (s.size<=64)&&L.okS s&&L.okC s
def Lay.repF (L:Lay) (s:ByteArray) (i:Nat):Nat:=if L.sw.getD i false then pk s (L.posR i) else 0
def Lay.frOf (L:Lay) (s:ByteArray):Fr:=⟨(List.range L.sw.length).map (fun i=>pk s i==49),(List.range L.sw.length).map (L.repF s),s.extract L.bgn s.size⟩
theorem cntT_succ (l:List Bool) (k:Nat) (h:k < l.length):cntT (l.take (k+1))=cntT (l.take k)+if l[k] then 1 else 0:=by
 unfold cntT;rw[List.take_succ_eq_append_getElem h,List.filter_append,List.length_append];cases l[k] <;> rfl
theorem pk_drop (s:ByteArray) (b i:Nat) (h:b+i < s.size) (h':i < (s.extract b s.size).size):(s.extract b s.size)[i].toNat=pk s (b+i):=by
 rw[pk_in s (b+i) h]
 congr 1
 show (s.extract b s.size).data[i]'(by exact h')=s.data[b+i]'(by exact h);simp[ByteArray.data_extract]
theorem z2v (s:ByteArray) (b:Nat):(s.extract b s.size).size=s.size - b:=by
 simp[ByteArray.size_extract]
end Go.Proofs.YtkbpocecbcaiiabGreatDoor
