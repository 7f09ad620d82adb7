import Derived.Test.YtkbpocecbcaiiabGreatDoorO41
import Derived.StillTailTactics
import Derived.Test.YtkbpocecbcaiiabGreatDoorO37
namespace Go.Proofs.YtkbpocecbcaiiabGreatDoor
open Go.RowKit
def RBx.nxt (C:RBx) (t:Nat):Nat:=(C.L.tn t).jny.getD (C.sta.getD t 0) 0
def RBx.more (C:RBx) (t:Nat):List Nat:=C.sta.set t (C.sta.getD t 0+1)
def RBx.grantB (C:RBx) (f:Fr) (t:Nat):Bool:=!C.isSet t&&C.free f (C.nxt t)&&C.L.sound (C.more t)
def RBx.wantK (C:RBx) (r k:Nat):RBx:=if C.L.wantsF r k=0 then C else { C with wanted:=C.wanted.set k (C.L.wantsF r k) }
def RBx.wantN (C:RBx) (r:Nat):Nat->RBx
 | 0=>C
 | k+1=>(C.wantN r k).wantK r k
def RBx.given (C:RBx) (r t:Nat):RBx:=(({ C with sta:=C.more t }:RBx).wantN r C.L.sw.length).put r (RLnW t)
def RBx.grant (C:RBx) (f:Fr) (t:Nat):RBx:=if C.grantB f t then C.given (C.nxt t) t else C
theorem rwantN_pres (C:RBx) (r k:Nat):(C.wantN r k).L=C.L/\(C.wantN r k).lines=C.lines/\(C.wantN r k).sta=C.sta/\(C.wantN r k).waits=C.waits/\(C.wantN r k).wanted.length=C.wanted.length/\(C.wantN r k).failed=C.failed/\(C.wantN r k).late=C.late:=by
 induction k with
 | zero=>exact⟨rfl,rfl,rfl,rfl,rfl,rfl,rfl⟩
 | succ k ih=>
  have h:∀(D:RBx),(D.wantK r k).L=D.L/\(D.wantK r k).lines=D.lines/\(D.wantK r k).sta=D.sta/\(D.wantK r k).waits=D.waits/\(D.wantK r k).wanted.length=D.wanted.length/\(D.wantK r k).failed=D.failed/\(D.wantK r k).late=D.late:=by
   intro D; unfold RBx.wantK; split <;> simp
  obtain⟨a,b,c,d,e,f,j⟩:=h (C.wantN r k);exact⟨a.trans ih.1,b.trans ih.2.1,c.trans ih.2.2.1,d.trans ih.2.2.2.1,e.trans ih.2.2.2.2.1,f.trans ih.2.2.2.2.2.1,j.trans ih.2.2.2.2.2.2⟩
structure GrantOK (C:RBx) (f:Fr) (t:Nat):Prop where
 pa:C.L.Paths
 jn:C.L.Jnys
 tn:C.L.tns.length<=1000
 ll:C.lines.length=C.L.rts.length
 r1:C.L.rts.length<=1000
 sw:C.L.sw.length<=1000
 occ:f.occ.length=C.L.sw.length
 fl:C.failed.length=C.L.sw.length
 wl:C.wanted.length=C.L.sw.length
 go:∀x,x∈C.lines->x.gone<=1000
 st:C.sta.length=C.L.tns.length
 ht:t < C.L.tns.length
 hj:C.sta.getD t 0 < (C.L.tn t).jny.length
 s9:C.sta.getD t 0<=1000
end Go.Proofs.YtkbpocecbcaiiabGreatDoor
namespace Go.Proofs.YtkbpocecbcaiiabGreatDoor
open Go.RowKit
def RBx.grantN (C:RBx) (f:Fr):Nat->RBx
 | 0=>C
 | k+1=>(C.grantN f k).grant f (C.waits.getD k 0)
def RBx.servN (C:RBx) (f:Fr):Nat->List Nat
 | 0=>[]
 | k+1=>if (C.grantN f k).grantB f (C.waits.getD k 0) then C.servN f k++[C.waits.getD k 0] else C.servN f k
def RBx.leftN (C:RBx) (f:Fr):Nat->List Nat
 | 0=>[]
 | k+1=>if (C.grantN f k).grantB f (C.waits.getD k 0) then C.leftN f k else C.leftN f k++[C.waits.getD k 0]
def RBx.grants (C:RBx) (f:Fr):RBx:={ C.grantN f C.waits.length with waits:=C.leftN f C.waits.length }
end Go.Proofs.YtkbpocecbcaiiabGreatDoor
namespace Go.Proofs.YtkbpocecbcaiiabGreatDoor
open Go.RowKit
def RBx.stepN (C:RBx) (f:Fr):Nat->RBx
 | 0=>C
 | k+1=>(C.stepN f k).step f k
def RBx.doN (C:RBx) (f:Fr):Nat->RBx
 | 0=>C
 | k+1=>(C.doN f k).doC f (pk f.cmds (2*k)) (pk f.cmds (2*k+1))
def RBx.doAt (C:RBx) (f:Fr) (j:Nat):Nat:=(C.doN f j).doA (pk f.cmds (2*j)) (pk f.cmds (2*j+1))
def RBx.doAs (C:RBx) (f:Fr) (k:Nat):List Nat:=(List.range k).map (C.doAt f)
def RBx.s1 (C:RBx) (f:Fr):RBx:=C.watch f
def RBx.s2 (C:RBx) (f:Fr):RBx:=(C.s1 f).stepN f (C.s1 f).lines.length
def RBx.s3 (C:RBx) (f:Fr):RBx:=(C.s2 f).doN f (f.cmds.size / 2)
def RBx.s4 (C:RBx) (f:Fr):RBx:=(C.s3 f).grants f
def rlampC (x:RLn):Nat:=if x.ph=103 then 103 else 114
def RBx.lampsT (C:RBx):List Nat:=C.lines.map rlampC
def RBx.moveT (C:RBx) (f:Fr) (s:Nat):List Nat:=if C.L.sw.getD s false then [C.moveF f s] else []
def RBx.movesT (C:RBx) (f:Fr):List Nat:=(List.range C.L.sw.length).flatMap (C.moveT f)
def ansL (lamps moves as_ sv:List Nat):List Nat:=[61]++lamps++[47]++moves++[47]++as_++[47]++sv
def RBx.ansB (C:RBx) (f:Fr):List Nat:=ansL (C.s4 f).lampsT ((C.s4 f).movesT f) ((C.s2 f).doAs f (f.cmds.size / 2)) (((C.s3 f).servN f (C.s3 f).waits.length).map (49+·))
def RBx.cyc (C:RBx) (s:ByteArray):RBx:=if C.L.frameB s then C.s4 (C.L.frOf s) else C
def RBx.ans (C:RBx) (s:ByteArray):ByteArray:=if C.L.frameB s then z0i (C.ansB (C.L.frOf s)) else ⟨#[33]⟩
structure RCyc (C:RBx) (f:Fr):Prop where
 wo:WatchOK C f
 st:∀k,k < (C.s1 f).lines.length->StepOK ((C.s1 f).stepN f k) f k/\((C.s1 f).stepN f k).lines.length=(C.s1 f).lines.length
 sl:(C.s1 f).lines.length<=1000
 dd:∀k,k < f.cmds.size / 2->DoOK ((C.s2 f).doN f k) f/\((C.s2 f).doN f k).L.cmdB (pk f.cmds (2*k)) (pk f.cmds (2*k+1))=true
 cz:f.cmds.size<=1000
 ce:f.cmds.size % 2=0
 gr:∀k (hk:k < (C.s3 f).waits.length),GrantOK ((C.s3 f).grantN f k) f (C.s3 f).waits[k]
 w3:(C.s3 f).waits.length<=1000
 h9:∀t,t∈(C.s3 f).waits->t < 9
 w4:WatchOK (C.s4 f) f
 o4:f.occ.length=(C.s4 f).L.sw.length
end Go.Proofs.YtkbpocecbcaiiabGreatDoor
namespace Go.Proofs.YtkbpocecbcaiiabGreatDoor
open Go.RowKit
def FormOK:Prop:=∀l:List UInt8,l.length<=256->z1m 0 0 l=-1->Form l
set_option maxHeartbeats 400000 in
theorem rCheck_any (s:ByteArray) (w:World) (hF:FormOK) :
  Calls Tryz.prog 29 #[.string s] w fun e w'=>e=.returned (.tuple #[.int .i64 (errOf s.data.toList).1,.int .i64 (errOf s.data.toList).2])/\Below w.heap.size w w':=by
 have H:=zh (Read_any s w (fun h=>hF _ (by simpa using h)));generalize errOf s.data.toList=E at *;go_enter Tryz.func29,Tryz.ntmps29
 go_wp2_with fail
 refine(uh H).mono ?_;rintro e w1 ⟨v,rfl,⟨T,D,Q,a1,a2,a3,n1,n2,n3,d1,d2,d3,rfl⟩,-,hb⟩;go_wp2
 go_ret2
 exact⟨rfl,hb.trans ((z01 _ _).mono hb.size)⟩
theorem err0 (l:List UInt8) (h:(errOf l).1=0):l.length<=256/\z1m 0 0 l=-1/\(layOf l).big=false/\(∀j,j < (layOf l).rts.length->(layOf l).crooked ((layOf l).rt j)=false)/\(∀j,j < (layOf l).tns.length->(layOf l).stray j=false)/\(layOf l).sound (List.replicate (layOf l).tns.length 0)=true:=by
 unfold errOf at h;by_cases h1:256 < l.length
 ·rw[if_pos h1] at h; cases h
 rw[if_neg h1] at h;by_cases h2:z1m 0 0 l=-1
 ·rw[if_neg (by simp[h2])] at h
  cases h3:(layOf l).big with
  | true=>rw[h3] at h; cases h
  | false=>
   rw[h3,if_neg (by simp)] at h;cases h4:(List.range (layOf l).rts.length).find? (fun i=>(layOf l).crooked ((layOf l).rt i)) with
   | some i=>rw[h4] at h; cases h
   | none=>
    rw[h4] at h;simp only at h;cases h5:(List.range (layOf l).tns.length).find? (fun i=>(layOf l).stray i) with
    | some i=>rw[h5] at h; cases h
    | none=>
     rw[h5] at h;simp only at h;cases h6:(layOf l).sound (List.replicate (layOf l).tns.length 0) with
     | false=>rw[h6] at h; cases h
     | true=>
      rw[List.find?_eq_none] at h4 h5;refine⟨by omega,h2,rfl,fun j hj=>?_,fun j hj=>?_,rfl⟩
      ·simpa using h4 j (List.mem_range.2 hj)
      ·simpa using h5 j (List.mem_range.2 hj)
 ·rw[if_pos h2] at h; cases h
def RBx.init (L:Lay):RBx:=⟨L,List.replicate L.rts.length RLn0,L.sw.map (fun b=>if b then 43 else 0),List.replicate L.sw.length false,List.replicate L.sw.length 0,List.replicate L.tns.length 0,[]⟩
end Go.Proofs.YtkbpocecbcaiiabGreatDoor
namespace Go.Proofs.YtkbpocecbcaiiabGreatDoor
open Go.RowKit
end Go.Proofs.YtkbpocecbcaiiabGreatDoor
