import Derived.Test.YtkbpocecbcaiiabGreatDoorO15
namespace Go.Proofs.YtkbpocecbcaiiabGreatDoor
open Go.RowKit
def z0r (vc vo vp:Value):Obj:=.cells #[vc,vo,vp] 76
def PFr.repAs (f:PFr) (x c:Nat):Bool:=decide (x < f.rep.length)&&f.rep.getD x 0==c
set_option maxHeartbeats 1000000 in
theorem occ_any (v:Value) (f:PFr) (x:Nat) (w:World) (h:FrP w v f) :
  Calls Tryz.prog 120 #[v,.int .i64 x] w fun e w'=>e=.returned (.bool (f.occ.getD x false))/\Below w.heap.size w w':=by
 obtain⟨vc,vo,vp,rfl,h1,h2,h3⟩:=h;obtain⟨ac,cc,rfl,-⟩:=SlAt.open h1;obtain⟨ao,co,rfl,-,hm,o3⟩:=SlAt.open h2;obtain⟨ap,cp,rfl,-⟩:=SlAt.open h3;unfold maxLen at hm;have l0:(0:Int)<=x:=by omega
 clear h1 h2 h3;by_cases hx:x < f.occ.length
 ·obtain⟨g,off,rfl,hg,cs,-,hC,hc⟩:=o3 x hx
  unfold CBool at hC;subst hC;have hc0:=hc 0 (by omega);simp at hc0;have HZ:=zh (z1f f.occ x false hx);have l1:(x:Int) < f.occ.length:=by omega
  rw[uh HZ];clear hc o3;generalize f.occ[x]=z at *;clear hx;go_enter Tryz.func120,Tryz.ntmps120
  go_wp2
  go_ret
  exact⟨rfl,z01 _ _⟩
 ·have HZ:=zh (show f.occ.getD x false=false by rw[List.getD_eq_getElem?_getD,List.getElem?_eq_none (by omega)]; rfl)
  have l1:¬(x:Int) < f.occ.length:=by omega
  rw[uh HZ];clear o3 hx;go_enter Tryz.func120,Tryz.ntmps120
  go_wp2
  go_ret
  exact⟨rfl,z01 _ _⟩
set_option maxHeartbeats 1000000 in
theorem rep_any (v:Value) (f:PFr) (x c:Nat) (w:World) (h:FrP w v f) :
  Calls Tryz.prog 70 #[v,.int .i64 x,.int .u8 c] w fun e w'=>e=.returned (.bool (f.repAs x c))/\Below w.heap.size w w':=by
 obtain⟨vc,vo,vp,rfl,h1,h2,h3⟩:=h;obtain⟨ac,cc,rfl,-⟩:=SlAt.open h1;obtain⟨ao,co,rfl,-⟩:=SlAt.open h2;obtain⟨ap,cp,rfl,-,hm,o3⟩:=SlAt.open h3;unfold maxLen at hm;have l0:(0:Int)<=x:=by omega
 clear h1 h2 h3;obtain⟨Z,hZ⟩:∃Z,Z=f.repAs x c:=⟨_,rfl⟩
 rw[<-hZ];unfold PFr.repAs at hZ;by_cases hx:x < f.rep.length
 ·obtain⟨g,off,rfl,hg,cs,-,hC,hc⟩:=o3 x hx
  unfold CByte at hC;subst hC;have hc0:=hc 0 (by omega);simp at hc0;rw[decide_eq_true hx,Bool.true_and,z1f f.rep x 0 hx] at hZ;have l1:(x:Int) < f.rep.length:=by omega
  clear hc o3;generalize f.rep[x]=z at *;have HZ:=zh (show ((z:Int)==(c:Int))=Z by rw[hZ,Bool.eq_iff_iff]; simp; omega);clear hx hZ;go_enter Tryz.func70,Tryz.ntmps70
  go_wp2
  go_ret
  exact⟨z04 (by have:=uh HZ; first | exact this | (rw[<-this]; done)),z01 _ _⟩
 ·rw[decide_eq_false hx,Bool.false_and] at hZ
  have HZ:=zh hZ;have l1:¬(x:Int) < f.rep.length:=by omega
  clear o3 hx hZ;go_enter Tryz.func70,Tryz.ntmps70
  go_wp2
  go_ret
  exact⟨z04 (uh HZ).symm,z01 _ _⟩
set_option maxHeartbeats 400000 in
theorem isLocked_any (g:Nat) (B:PBx) (s:Nat) (w:World) (h:PBoxAt w g B) (hr:B.rts.length<=1000) (hf:∀x,x∈B.rts->x.freed<=1000) :
  Calls Tryz.prog 104 #[.pointer (some ⟨g,0,none⟩),.int .i64 s] w fun e w'=>e=.returned (.bool (B.lockedBy s).isSome)/\Below w.heap.size w w':=by
 have H:=zh (lockedBy_any g B s w h hr hf);clear h hf hr;generalize B.lockedBy s=o at *;go_enter Tryz.func104,Tryz.ntmps104
 go_wp2_with fail
 refine(uh H).mono ?_;rintro e w1 ⟨rfl,hb⟩;have HB:=zh hb;clear hb;go_wp2
 go_ret
 exact⟨rfl,uh HB⟩
def PRt.flankB (x:PRt) (s:Nat):Bool:=x.ph != 46&&has x.rt.flank s
def PBx.route (B:PBx) (r:Nat):PRt:=B.rts.getD r (PRt.new Rt0)
def PBx.flankB (B:PBx) (s r:Nat):Bool:=(B.route r).flankB s
def PBx.heldB (B:PBx) (s:Nat):Bool:=(List.range B.rts.length).any (B.flankB s)||(B.lockedBy s).isSome
theorem anyr_true {f:Nat->Bool} {n k:Nat} (hk:k < n) (h:f k=true):(List.range n).any f=true:=by
 rw[List.any_eq_true]; exact⟨k,List.mem_range.2 hk,h⟩
theorem anyr_false {f:Nat->Bool} {n:Nat} (h:∀j,j < n->f j=false):(List.range n).any f=false:=by
 rw[List.any_eq_false]; intro j hj; rw[h j (List.mem_range.1 hj)]; simp
set_option maxHeartbeats 2000000 in
theorem isHeld_any (g:Nat) (B:PBx) (s:Nat) (w:World) (h:PBoxAt w g B) (hr:B.rts.length<=1000) (hf:∀x,x∈B.rts->x.freed<=1000) :
  Calls Tryz.prog 69 #[.pointer (some ⟨g,0,none⟩),.int .i64 s] w fun e w'=>e=.returned (.bool (B.heldB s))/\Below w.heap.size w w':=by
 have HLK:=zh (fun (wz:World) (hz:Below w.heap.size w wz)=>isLocked_any g B s wz (h.below hz) hr hf);obtain⟨vs,vr,vt,vl,vw,va,vq,hB,-,hL,-⟩:=h;obtain⟨al,cl,rfl,-,hml,l3⟩:=SlAt.open hL;obtain⟨⟨-,-,-,-,-,-,q6,-⟩,-,qg⟩:=box10 hB;have HK:=zh (show ∀k (h:k < B.rts.length),B.flankB s k=(B.rts[k].ph != 46&&has B.rts[k].rt.flank s) by
  intro k h;unfold PBx.flankB PBx.route;rw[z1f _ _ _ h]; rfl)
 obtain⟨Z,hZ⟩:∃Z,Z=B.heldB s:=⟨_,rfl⟩
 rw[<-hZ];unfold PBx.heldB at hZ;generalize B.flankB s=f at *;generalize (B.lockedBy s).isSome=o at *;generalize B.rts=ls at *;unfold maxLen at hml;have HZ:=zh hZ;clear hL hB hZ hf;have Q6:=zh q6;go_enter Tryz.func69,Tryz.ntmps69
 go_wp2
 go_loopw [11] (fun i wr=>∃k:Nat,k<=ls.length/\i=.int .i64 k/\(∀j,j < k->f j=false)/\Below w.heap.size w wr) (fun i _=>ls.length - (intOf i).toNat)
 case atStart=>exact⟨0,Nat.zero_le _,rfl,fun j h=>by omega,Below.refl _ _⟩
 case round=>
  obtain⟨k,hk,rfl,hno,hb⟩:=hrel;have HNO:=zh hno;have HB:=zh hb;have hbs:=hb.size;clear q6;have q6:=uh Q6;rw[<-hb.cell (p:=⟨g,6,none⟩) qg] at q6;clear hno;have qgw:g < wr.heap.size:=by omega
  by_cases hlt:k < ls.length
  ·obtain⟨gl,ol,hal,hgl,cs,-,hC,hc⟩:=l3 k hlt
   subst hal;obtain⟨vp,vf,vm,rfl,-,hFl,-⟩:=hC;have c2:=hc 2 (by omega);have c3:=hc 3 (by omega);rw[<-hb.cell (p:=⟨gl,_,none⟩) hgl] at c2 c3;simp at c2 c3;have hgw:gl < wr.heap.size:=by omega
   have HIS:=zh (isSet_at gl (ol+k*9) ls[k].ph wr c3);have HNM:=zh (z4o vf ls[k].rt.flank s wr (hFl.keep (Keeps.below hb)));obtain⟨af,cf,rfl,-⟩:=SlAt.open hFl;have HF:=zh (uh HK k hlt);have e1:(k:Int) < ls.length:=by omega
   have e0:(0:Int)<=k:=by omega
   clear hc hFl l3 hb;have HNN:=zh (show f k=false->∀j,j < k+1->f j=false by
    intro h j hj;by_cases hj':j < k
    ·exact uh HNO j hj'
    ·obtain rfl:j=k:=by omega
     exact h)
   have HTR:=zh (show f k=true->Z=true by
    intro h; rw[uh HZ,anyr_true hlt h]; rfl)
   obtain⟨b0,hb0⟩:∃b,(ls[k].ph != 46)=b:=⟨_,rfl⟩
   rw[hb0] at HIS HF;clear hb0;go_wp2_with fail
   refine(uh HIS).mono ?_;rintro e w1 ⟨rfl,hw1⟩;subst hw1;cases b0 with
   | false=>
    have HN2:=zh (uh HNN (by rw[uh HF]; rfl));go_wp2
    exact⟨⟨k+1,by omega,by go_num,uh HN2,uh HB⟩,by simp[intOf]; omega⟩
   | true=>
    rw[Bool.true_and] at HF;go_wp2_with fail
    refine(uh HNM).mono ?_;rintro e w2 ⟨rfl,hb2⟩;have HB2:=zh ((uh HB).trans (hb2.mono hbs));clear hb2 HNM HIS;obtain⟨b1,hb1⟩:∃b,has ls[k].rt.flank s=b:=⟨_,rfl⟩
    rw[hb1] at HF ⊢;clear hb1;cases b1 with
    | false=>
     have HN2:=zh (uh HNN (uh HF));go_wp2
     exact⟨⟨k+1,by omega,by go_num,uh HN2,uh HB2⟩,by simp[intOf]; omega⟩
    | true=>
     have HZ2:=zh (uh HTR (uh HF));go_wp2
     go_ret
     exact⟨z04 (uh HZ2).symm,uh HB2⟩
  ·obtain rfl:k=ls.length:=by omega
   have HZ2:=zh (show Z=o by rw[uh HZ,anyr_false (uh HNO)]; rfl);clear l3 hb;go_wp2_with fail
   refine(uh HLK wr (uh HB)).mono ?_;rintro e w1 ⟨rfl,hb1⟩;have HB1:=zh ((uh HB).trans (hb1.mono hbs));clear hb1;go_wp2
   go_ret
   exact⟨z04 (uh HZ2).symm,uh HB1⟩
end Go.Proofs.YtkbpocecbcaiiabGreatDoor
