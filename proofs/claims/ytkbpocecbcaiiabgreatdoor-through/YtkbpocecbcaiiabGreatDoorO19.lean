import Derived.Test.YtkbpocecbcaiiabGreatDoorO17
import Derived.Test.YtkbpocecbcaiiabGreatDoorO18
namespace Go.Proofs.YtkbpocecbcaiiabGreatDoor
open Go.RowKit
def PRt.secAt (x:PRt) (i:Int):Nat:=if 0<=i/\i < x.rt.path.length then (x.rt.path.getD i.toNat (0,0)).1 else x.rt.foot
set_option maxHeartbeats 1000000 in
theorem z3z (g o:Nat) (x:PRt) (cs:List Value) (i:Int) (w:World) (hc:∀j,j < 9->w.cell? ⟨g,o+j,none⟩=cs[j]?) (hC:CPRt w x cs) :
  Calls Tryz.prog 147 #[.pointer (some ⟨g,o,none⟩),.int .i64 i] w fun e w'=>e=.returned (.int .i64 (x.secAt i))/\w'=w:=by
 obtain⟨vp,vf,vm,rfl,hP,-,-⟩:=hC;have c0:=hc 0 (by omega);have c1:=hc 1 (by omega);simp at c0 c1;obtain⟨ai,ci,rfl,hpl,hm,p3⟩:=SlAt.open hP;unfold maxLen at hm;obtain⟨Z,hZ⟩:∃Z,Z=x.secAt i:=⟨_,rfl⟩
 rw[<-hZ];unfold PRt.secAt at hZ;generalize x.rt.path=p at *;generalize x.rt.foot=ft at *;clear hc hP;by_cases h0:i < 0
 ·rw[if_neg (by omega)] at hZ
  subst hZ;have d:decide (i < 0)=true:=by simp; omega
  clear h0 p3;go_enter Tryz.func147,Tryz.ntmps147
  go_wp2
  go_ret
  exact⟨rfl,rfl⟩
 ·obtain⟨k,rfl⟩:∃k:Nat,i=k:=⟨i.toNat,by omega⟩
  have d:¬(k:Int) < 0:=by omega
  have l0:(0:Int)<=k:=by omega
  by_cases hk:k < p.length
  ·rw[if_pos ⟨l0,by omega⟩,Int.toNat_natCast,z1f _ _ _ hk] at hZ
   obtain⟨gp,op,rfl,hgp,csp,-,hCp,hcp⟩:=p3 k hk;unfold CItem itemV at hCp;subst hCp;have x0:=hcp 0 (by omega);simp at x0;have l1:(k:Int) < p.length:=by omega
   have l2:¬(p.length:Int)<=k:=by omega
   rw[<-hZ] at x0;clear hcp p3 hZ h0 hk;go_enter Tryz.func147,Tryz.ntmps147
   go_wp2
   go_ret
   exact⟨rfl,rfl⟩
  ·rw[if_neg (by omega)] at hZ
   subst hZ;have l2:(p.length:Int)<=k:=by omega
   clear p3 h0 hk;go_enter Tryz.func147,Tryz.ntmps147
   go_wp2
   go_ret
   exact⟨rfl,rfl⟩
set_option maxHeartbeats 1000000 in
theorem isMarked_at (g o:Nat) (x:PRt) (cs:List Value) (k:Nat) (w:World) (hc:∀j,j < 9->w.cell? ⟨g,o+j,none⟩=cs[j]?) (hC:CPRt w x cs) :
  Calls Tryz.prog 171 #[.pointer (some ⟨g,o,none⟩),.int .i64 k] w fun e w'=>e=.returned (.bool (x.marked.getD k false))/\w'=w:=by
 obtain⟨vp,vf,vm,rfl,-,-,hM⟩:=hC;have c7:=hc 7 (by omega);simp at c7;obtain⟨ai,ci,rfl,hpl,hm,p3⟩:=SlAt.open hM;unfold maxLen at hm;obtain⟨Z,hZ⟩:∃Z,Z=x.marked.getD k false:=⟨_,rfl⟩
 rw[<-hZ];generalize x.marked=p at *;have l0:(0:Int)<=k:=by omega
 clear hc hM;by_cases hk:k < p.length
 ·rw[z1f _ _ _ hk] at hZ
  obtain⟨gp,op,rfl,hgp,csp,-,hCp,hcp⟩:=p3 k hk;unfold CBool at hCp;subst hCp;have x0:=hcp 0 (by omega);simp at x0;have l1:(k:Int) < p.length:=by omega
  rw[<-hZ] at x0;clear hcp p3 hZ hk;go_enter Tryz.func171,Tryz.ntmps171
  go_wp2
  go_ret
  exact⟨rfl,rfl⟩
 ·have hz:Z=false:=by rw[hZ,List.getD_eq_getElem?_getD,List.getElem?_eq_none (by omega)]; rfl
  subst hz;have l1:¬(k:Int) < p.length:=by omega
  clear p3 hk hZ;go_enter Tryz.func171,Tryz.ntmps171
  go_wp2
  go_ret
  exact⟨rfl,rfl⟩
set_option maxHeartbeats 1000000 in
theorem hasFailed_any (g:Nat) (B:PBx) (s:Nat) (w:World) (h:PBoxAt w g B) :
  Calls Tryz.prog 105 #[.pointer (some ⟨g,0,none⟩),.int .i64 s] w fun e w'=>e=.returned (.bool (B.sw s).failed)/\w'=w:=by
 obtain⟨vs,vr,vt,vl,vw,va,vq,hB,-,-,hW,-⟩:=h;obtain⟨⟨-,-,-,-,-,-,-,q7,-⟩,-,qg⟩:=box10 hB;obtain⟨ai,ci,rfl,hpl,hm,p3⟩:=SlAt.open hW;unfold maxLen at hm;obtain⟨Z,hZ⟩:∃Z,Z=(B.sw s).failed:=⟨_,rfl⟩
 rw[<-hZ];unfold PBx.sw at hZ;generalize B.sws=p at *;have l0:(0:Int)<=s:=by omega
 clear hB hW;by_cases hk:s < p.length
 ·rw[z1f _ _ _ hk] at hZ
  obtain⟨gp,op,rfl,hgp,csp,-,hCp,hcp⟩:=p3 s hk;unfold CPSw swV at hCp;subst hCp;have x2:=hcp 2 (by omega);simp at x2;have l1:(s:Int) < p.length:=by omega
  rw[<-hZ] at x2;clear hcp p3 hZ hk;go_enter Tryz.func105,Tryz.ntmps105
  go_wp2
  go_ret
  exact⟨rfl,rfl⟩
 ·have hz:Z=false:=by rw[hZ,List.getD_eq_getElem?_getD,List.getElem?_eq_none (by omega)]; rfl
  subst hz;have l1:¬(s:Int) < p.length:=by omega
  clear p3 hk hZ;go_enter Tryz.func105,Tryz.ntmps105
  go_wp2
  go_ret
  exact⟨rfl,rfl⟩
def PBx.anyF (B:PBx) (l:List (Nat×Nat)):Bool:=l.any (fun x=>(B.sw x.1).failed)
set_option maxHeartbeats 1000000 in
theorem anyFailed_any (g:Nat) (B:PBx) (v:Value) (l:List (Nat×Nat)) (w:World) (h:PBoxAt w g B) (hv:Items w v l) :
  Calls Tryz.prog 72 #[.pointer (some ⟨g,0,none⟩),v] w fun e w'=>e=.returned (.bool (B.anyF l))/\Below w.heap.size w w':=by
 have HHF:=zh (fun (s:Nat) (wz:World) (hz:Below w.heap.size w wz)=>hasFailed_any g B s wz (h.below hz));obtain⟨ai,ci,rfl,hpl,hm,p3⟩:=SlAt.open hv;unfold maxLen at hm;obtain⟨Z,hZ⟩:∃Z,Z=B.anyF l:=⟨_,rfl⟩
 rw[<-hZ];have HZ:=zh hZ;clear hv hZ h;go_enter Tryz.func72,Tryz.ntmps72
 go_wp2
 go_loopw [9] (fun i wr=>∃k:Nat,i=.int .i64 k/\k<=l.length/\(∀j,j < k->∀h:j < l.length,(B.sw l[j].1).failed=false)/\Below w.heap.size w wr) (fun i _=>l.length - (intOf i).toNat)
 case atStart=>exact⟨0,rfl,Nat.zero_le _,fun j h=>by omega,Below.refl _ _⟩
 case round=>
  obtain⟨k,rfl,hk,hno,hb⟩:=hrel;have HNO:=zh hno;have HB:=zh hb;have hbs:=hb.size;clear hno;by_cases hlt:k < l.length
  ·obtain⟨gp,op,hap,hgp,csp,-,hCp,hcp⟩:=p3 k hlt
   subst hap;unfold CItem itemV at hCp;subst hCp;have x0:=hcp 0 (by omega);have x1:=hcp 1 (by omega);rw[<-hb.cell (p:=⟨gp,_,none⟩) hgp] at x0 x1;simp at x0 x1;have l1:(k:Int) < l.length:=by omega
   have l0:(0:Int)<=k:=by omega
   have hgw:gp < wr.heap.size:=by omega
   have HFD:=zh (show (B.sw l[k].1).failed=true->Z=true by
    intro h; rw[uh HZ]; exact any_idx_true hlt h)
   have HNN:=zh (show (B.sw l[k].1).failed=false->∀j,j < k+1->∀h:j < l.length,(B.sw l[j].1).failed=false by
    intro h j hj hj2;by_cases hj':j < k
    ·exact uh HNO j hj' hj2
    ·obtain rfl:j=k:=by omega
     exact h)
   have HOK:=zh (uh HHF l[k].1);clear hcp p3 hb;generalize l[k].1=x at *;generalize l[k].2=x2 at *;go_wp2_with fail
   refine(uh HOK _ ((uh HB).alloc hbs _)).mono ?_;rintro e w1 ⟨rfl,hw1⟩;subst hw1;generalize (B.sw x).failed=z at *;cases z with
   | true=>
    have HZ2:=zh (uh HFD rfl);go_wp2
    go_ret
    exact⟨z04 (uh HZ2).symm,(uh HB).alloc hbs _⟩
   | false=>
    have HN2:=zh (uh HNN rfl);go_wp2
    exact⟨⟨k+1,by go_num,by omega,uh HN2,(uh HB).alloc hbs _⟩,by simp[intOf]; omega⟩
  ·have HZ2:=zh (show Z=false by
    rw[uh HZ];exact any_idx_false (fun j hj=>uh HNO j (by omega) hj))
   have l1:¬(k:Int) < l.length:=by omega
   clear p3 hb;go_wp2
   go_ret
   exact⟨z04 (uh HZ2).symm,uh HB⟩
end Go.Proofs.YtkbpocecbcaiiabGreatDoor
