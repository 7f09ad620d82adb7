import Derived.Test.YtkbpocecbcaiiabGreatDoorO52
namespace Go.Proofs.YtkbpocecbcaiiabGreatDoor
open Go.RowKit
def Wd.occN (W:Wd) (L:Lay) (k:Nat):List Nat:=(List.range k).map (fun s=>if W.takenB L s then 49 else 48)
def Wd.rep1 (W:Wd) (s:Nat):Nat:=if W.aim.getD s 0≠0/\0 < W.left.getD s 0 then 63 else if W.aim.getD s 0≠0 then W.aim.getD s 0 else W.lie.getD s 0
def Wd.tick1 (W:Wd) (s:Nat):Wd:=if W.aim.getD s 0≠0/\0 < W.left.getD s 0 then { W with left:=W.left.set s (W.left.getD s 0 - 1) } else if W.aim.getD s 0≠0 then { W with lie:=W.lie.set s (W.aim.getD s 0),aim:=W.aim.set s 0 } else W
def Wd.tickN (W:Wd) (L:Lay):Nat->Wd
 | 0=>W
 | k+1=>(W.tickN L k).tick1 ((z03 0 L.sw).getD k 0)
def Wd.repN (W:Wd) (L:Lay) (k:Nat):List Nat:=(List.range k).map (fun j=>(W.tickN L j).rep1 ((z03 0 L.sw).getD j 0))
def Wd.frameT (W:Wd) (L:Lay):List Nat:=W.occN L L.sw.length++W.repN L (z03 0 L.sw).length
theorem occN_succ (W:Wd) (L:Lay) (k:Nat):W.occN L (k+1)=W.occN L k++[if W.takenB L k then 49 else 48]:=by
 unfold Wd.occN;rw[List.range_succ,List.map_append]; rfl
theorem occN_len (W:Wd) (L:Lay) (k:Nat):(W.occN L k).length=k:=by unfold Wd.occN; simp
theorem repN_succ (W:Wd) (L:Lay) (k:Nat):W.repN L (k+1)=W.repN L k++[(W.tickN L k).rep1 ((z03 0 L.sw).getD k 0)]:=by
 unfold Wd.repN;rw[List.range_succ,List.map_append]; rfl
theorem repN_len (W:Wd) (L:Lay) (k:Nat):(W.repN L k).length=k:=by unfold Wd.repN; simp
theorem tick1_same (W:Wd) (s:Nat):SameT W (W.tick1 s):=by
 unfold Wd.tick1
 repeat' split
 all_goals exact⟨rfl,rfl,rfl,rfl⟩
theorem z2y (W:Wd) (L:Lay):∀k,SameT W (W.tickN L k)
 | 0=>⟨rfl,rfl,rfl,rfl⟩
 | k+1=>by
  obtain⟨a1,a2,a3,a4⟩:=z2y W L k;obtain⟨b1,b2,b3,b4⟩:=tick1_same (W.tickN L k) ((z03 0 L.sw).getD k 0);exact⟨b1.trans a1,b2.trans a2,b3.trans a3,b4.trans a4⟩
set_option maxRecDepth 100000 in
set_option maxHeartbeats 16000000 in
theorem wframe_any (g gp nt ns:Nat) (B:WB) (W:Wd) (L:Lay) (w:World) (hW:WAt w g gp nt ns B W) (hkp:∀wz,Only (WF g B) w wz->KPl wz gp L) (hL:LayK L) (hnt:nt=L.tns.length) (hns:ns=L.sw.length) (hsw:L.sw.length<=100) (hO:∀u,u < nt->WOK L W u) (hlb:∀s,W.left.getD s 0<=1000) :
  Calls Tryz.prog 55 #[.pointer (some ⟨g,0,none⟩)] w fun e w'=>e=.returned (.string (z0i (W.frameT L)))/\WAt w' g gp nt ns B (W.tickN L (z03 0 L.sw).length)/\Only (WF g B) w w':=by
 have HKP:=zh hkp;have HTK:=zh (fun (s n:Nat)=>wtaken_any g gp nt ns B W L s (w.drewN n) (hW.below (below_drewN (Below.refl _ _) n)) (hkp (w.drewN n) (z1i (Only.refl _ _) n)) hL hnt hO);have HW0:=zh hW;have HLB:=zh (show ∀k s,(W.tickN L k).left.getD s 0<=1000 by
  intro k
  induction k with
  | zero=>exact hlb
  | succ k ih=>
   intro s;show ((W.tickN L k).tick1 ((z03 0 L.sw).getD k 0)).left.getD s 0<=1000;unfold Wd.tick1;split
   ·show ((W.tickN L k).left.set _ _).getD s 0<=1000
    by_cases e:s=(z03 0 L.sw).getD k 0
    ·rcases Nat.lt_or_ge ((z03 0 L.sw).getD k 0) (W.tickN L k).left.length with hl | hl
     ·rw[z0d _ _ _ _ _ hl,if_pos e]; have:=ih ((z03 0 L.sw).getD k 0); omega
     ·rw[List.set_eq_of_length_le hl]; exact ih s
    ·rw[z0h _ _ _ _ _ e]; exact ih s
   ·split
    ·exact ih s
    ·exact ih s)
 have hpb:(z03 0 L.sw).length<=100:=by
  have h2:=z44 L.sw 0;have h3:cntT L.sw<=L.sw.length:=by unfold cntT; exact List.length_filter_le _ _
  omega
 have HPS:=zh (fun (k:Nat) (hk:k < (z03 0 L.sw).length)=>(rep_pts (s:=ByteArray.empty) hk).1);obtain⟨np,hnp⟩:∃n,n=(z03 0 L.sw).length:=⟨_,rfl⟩
 have HNP:=zh hnp;have HNS:=zh hns;rw[<-hnp] at hpb;rw[<-hns] at hsw;clear hW hkp hL hnt hns hO hlb;go_enter Tryz.func55,Tryz.ntmps55
 go_wp2
 go_loopw [3,4] (fun f i wr=>∃k mm:Nat,∃t:ByteArray,k<=ns/\i=.int .i64 k/\f=.string t/\t=z0i (W.occN L k)/\wr=w.drewN mm) (fun _ i _=>ns - (intOf i).toNat)
 case atStart=>exact⟨0,0,ByteArray.empty,Nat.zero_le _,rfl,rfl,rfl,rfl⟩
 case round=>
  obtain⟨k,mm,t,hk,rfl,rfl,ht,hwr⟩:=hrel;have HWR:=zh hwr;have hts:t.size<=1000:=by rw[ht,z0s,occN_len]; omega
  have HT:=zh ht;have hor:Only (WF g B) w wr:=by rw[hwr]; exact z1i (Only.refl _ _) mm
  have hWr:WAt wr g gp nt ns B W:=by rw[hwr]; exact(uh HW0).below (below_drewN (Below.refl _ _) mm)
  obtain⟨⟨o0,-⟩,hg⟩:=hWr.cells;obtain⟨vh,vp,vf,va,vk,vw,vs,vj,e,a1,a2,-⟩:=uh HKP wr hor;obtain⟨⟨-,-,-,c3,c4,-⟩,hgp⟩:=z0k e;obtain⟨ab,cb,hvb,hrb⟩:=bools_at a1;subst hvb;rw[<-uh HNS] at c3;by_cases hlt:k < ns
  ·have HT1:=zh (uh HTK k mm)
   rw[<-hwr] at HT1;have HNX:=zh (occN_succ W L k);generalize W.takenB L k=bv at *;have l1:(k:Int) < ns:=by omega
   clear hwr ht hor hWr e a1 a2 hrb;go_wp2_with fail
   refine(uh HT1).mono ?_;rintro e w2 ⟨rfl,m2,hw2⟩;have HW2:=zh hw2;clear hw2;cases bv with
   | true=>
    have HN2:=zh (show W.occN L (k+1)=W.occN L k++[49] from uh HNX);clear HNX;go_wp2
    exact⟨⟨k+1,mm+m2,_,by omega,by go_num,rfl,by rw[uh HN2,z1v,<-uh HT]; rfl,by rw[uh HW2,uh HWR,z1h]⟩,by simp[intOf]; omega⟩
   | false=>
    have HN2:=zh (show W.occN L (k+1)=W.occN L k++[48] from uh HNX);clear HNX;go_wp2
    exact⟨⟨k+1,mm+m2,_,by omega,by go_num,rfl,by rw[uh HN2,z1v,<-uh HT]; rfl,by rw[uh HW2,uh HWR,z1h]⟩,by simp[intOf]; omega⟩
  ·have l1:¬(k:Int) < ns:=by omega
   obtain rfl:ns=k:=by omega
   have HOR:=zh hor;have HWA:=zh hWr;clear hwr ht hor hWr e a1 a2 hrb;go_wp2
   go_loopw [3,6] (fun f i wq=>∃j:Nat,∃t:ByteArray,j<=np/\i=.int .i64 j/\f=.string t/\t=z0i (W.occN L ns++W.repN L j)/\Only (WF g B) w wq/\WAt wq g gp nt ns B (W.tickN L j)) (fun _ i _=>np - (intOf i).toNat)
   case atStart=>exact⟨0,t,Nat.zero_le _,rfl,rfl,by rw[uh HT]; simp[Wd.repN],uh HOR,uh HWA⟩
   case round=>
    clear HT HOR HWA HWR o0 hg c3 c4 hgp hts;obtain⟨j,t,hj,rfl,rfl,ht,hor,hWj⟩:=hrel;have hts:t.size<=1000:=by rw[ht,z0s,List.length_append,occN_len,repN_len]; omega
    have HT:=zh ht;have HOR:=zh hor;have HWJ:=zh hWj;obtain⟨⟨o0,o1,o2,o3,o4,o5,o6,o7⟩,hg⟩:=hWj.cells;obtain⟨vh,vp,vf,va,vk,vw,vs,vj,e,-,a2,-⟩:=uh HKP wr hor;obtain⟨⟨-,-,-,-,c4,-⟩,hgp⟩:=z0k e;obtain⟨ap,cp,hvp,-,hrow⟩:=z24 a2;subst hvp;rw[<-uh HNP] at c4;by_cases hjt:j < np
    ·have hj':j < (z03 0 L.sw).length:=by rw[<-uh HNP]; exact hjt
     obtain⟨gq,oq,rfl,hgq,xq⟩:=hrow j hj';have hss:=uh HPS j hj';rw[<-uh HNS] at hss;have HNX:=zh (And.intro (repN_succ W L j) (show W.tickN L (j+1)=(W.tickN L j).tick1 ((z03 0 L.sw).getD j 0) from rfl));rw[z05 hj'] at HNX;have hlb:=uh HLB j ((z03 0 L.sw)[j]);generalize W.tickN L j=Wj at *;obtain⟨s,hse⟩:∃s,s=(z03 0 L.sw)[j]:=⟨_,rfl⟩
     rw[<-hse] at xq hss HNX hlb;obtain⟨⟨y5,z5,hb5⟩,⟨y6,z6,hb6⟩,⟨y7,z7,hb7⟩⟩:=hWj.switch hss;obtain⟨av,hav⟩:∃a,a=Wj.aim.getD s 0:=⟨_,rfl⟩
     obtain⟨fv,hfv⟩:∃a,a=Wj.left.getD s 0:=⟨_,rfl⟩
     obtain⟨lv,hlv⟩:∃a,a=Wj.lie.getD s 0:=⟨_,rfl⟩
     rw[<-hav] at y6;rw[<-hfv] at y7 hlb;rw[<-hlv] at y5;have hnx:(if av≠0/\0 < fv then ({ Wj with left:=Wj.left.set s (fv - 1) }:Wd) else if av≠0 then { Wj with lie:=Wj.lie.set s av,aim:=Wj.aim.set s 0 } else Wj)=W.tickN L (j+1):=by
      rw[(uh HNX).2]; unfold Wd.tick1; rw[<-hav,<-hfv]
     have hrx:z0i (W.occN L ns++W.repN L (j+1))=t++⟨#[UInt8.ofNat (if av≠0/\0 < fv then 63 else if av≠0 then av else lv)]⟩:=by
      rw[(uh HNX).1,<-List.append_assoc,z1v,<-uh HT];unfold Wd.rep1;rw[<-hav,<-hfv,<-hlv]
     have l1:(j:Int) < np:=by omega
     have l3:(0:Int)<=j:=by omega
     have l4:(s:Int) < ns:=by omega
     have l5:(0:Int)<=s:=by omega
     have kc:=Tryz.oneStr;by_cases h1:av=0
     ·subst h1
      rw[if_neg (by simp),if_neg (by simp)] at hnx hrx;have HFI:=zh (And.intro hnx hrx);clear ht hWj hor e a2 hrow hse hav hfv hlv HNX hnx hrx;go_wp2
      refine⟨⟨j+1,_,by omega,by go_num,rfl,?_,(uh HOR).trans (Only.of_below (z01 _ _)),by rw[<-(uh HFI).1]; exact(uh HWJ).below (z01 _ _)⟩,by simp[intOf]; omega⟩;rw[(uh HFI).2]
      try simp
     ·have b1:((av:Int) != 0)=true:=by simp; omega
      by_cases h2:0 < fv
      ·rw[if_pos ⟨h1,h2⟩] at hnx hrx
       have b2:(0:Int) < fv:=by omega
       have b2':decide (0 < fv)=true:=by simpa using h2
       obtain⟨f9,hf9⟩:∃x,x=fv - 1:=⟨_,rfl⟩
       have ef:(fv:Int) - 1=f9:=by omega
       have bf:f9<=1000:=by omega
       have HFI:=zh (And.intro hnx hrx);have HS1:=zh (fun (n:Nat)=>show WAt ((wr.drewN n).setCell ⟨B.f,s,none⟩ (.int .i64 (f9:Int))) g gp nt ns B (W.tickN L (j+1))/\Only (WF g B) w ((wr.drewN n).setCell ⟨B.f,s,none⟩ (.int .i64 (f9:Int))) from ⟨by rw[<-hnx,<-hf9]; exact(hWj.below (below_drewN (Below.refl _ _) n)).setLeft s f9,(z1i hor n).trans (z46 _ (by simp[WB.bs]))⟩);clear ht hWj hor e a2 hrow hse hav hfv hlv HNX hnx hrx hf9;go_wp2
       go_region
       have h1s:=uh HS1 1;obtain⟨W1,hW1⟩:∃W1,W1=(wr.drewN 1).setCell ⟨B.f,s,none⟩ (.int .i64 (f9:Int)):=⟨_,rfl⟩
       rw[<-hW1] at h1s
       first
        | rw[<-hW1]
        | (have e1:wr.drew=wr.drewN 1:=rfl
           rw[e1,<-hW1])
        | (change Exit.then _ _ _ _ ((wr.drewN 1).setCell ⟨B.f,s,none⟩ (.int .i64 (f9:Int)))
           rw[<-hW1])
       have H1S:=zh h1s;clear hW1 HS1 h1s;go_wp2
       exact⟨⟨j+1,_,by omega,by go_num,rfl,by rw[(uh HFI).2]; rfl,(uh H1S).2,(uh H1S).1⟩,by simp[intOf]; omega⟩
      ·rw[if_neg (fun h=>h2 h.2),if_pos h1] at hnx hrx
       obtain rfl:fv=0:=by omega
       have HFI:=zh (And.intro hnx hrx);have HS1:=zh (show WAt (wr.setCell ⟨B.l,s,none⟩ (.int .u8 (av:Int))) g gp nt ns B { Wj with lie:=Wj.lie.set s av }/\Only (WF g B) w (wr.setCell ⟨B.l,s,none⟩ (.int .u8 (av:Int))) from ⟨hWj.setLie s av,hor.trans (z46 _ (by simp[WB.bs]))⟩);have hll:s < Wj.lie.length:=by have:=hWj.lens.2.2.2.2.1; omega
       clear ht hWj hor e a2 hrow hse hav hfv hlv HNX hnx hrx h1 h2;go_wp2
       go_region
       obtain⟨W1,hW1,h1s⟩:∃W1,W1=(wr.setCell ⟨B.l,s,none⟩ (.int .u8 (av:Int))).drew/\(WAt W1 g gp nt ns B { Wj with lie:=Wj.lie.set s av }/\Only (WF g B) w W1):=⟨_,rfl,(uh HS1).1.below (Below.refl _ _).drew,(uh HS1).2.trans (Only.of_below (Below.refl _ _).drew)⟩
       rw[<-hW1];clear hW1 HS1;obtain⟨⟨p0,p1,p2,p3,p4,p5,p6,p7⟩,pg⟩:=h1s.1.cells;obtain⟨⟨r5,w5,hr5⟩,⟨r6,w6,hr6⟩,-⟩:=h1s.1.switch hss;have hla:({ Wj with lie:=Wj.lie.set s av }:Wd).lie.getD s 0=av:=by
        show (Wj.lie.set s av).getD s 0=av;rw[z0d _ _ _ _ _ hll,if_pos rfl]
       rw[hla] at r5;have HS2:=zh (show WAt (W1.setCell ⟨B.o,s,none⟩ (.int .u8 (0:Nat))) g gp nt ns B (W.tickN L (j+1))/\Only (WF g B) w (W1.setCell ⟨B.o,s,none⟩ (.int .u8 (0:Nat))) from ⟨by rw[<-(uh HFI).1]; exact h1s.1.setTo s 0,h1s.2.trans (z46 _ (by simp[WB.bs]))⟩);generalize ({ Wj with lie:=Wj.lie.set s av }:Wd).aim.getD s 0=a9 at *;clear h1s y5 y6 y7 z5 z6 z7 o0 o1 o2 o3 o4 o5 o6 o7 hg hgq xq c4 hgp hb5 hb6 hb7 hla hll;go_upto_region 19 with fail
       change Hid (WAt (W1.setCell ⟨B.o,s,none⟩ (.int .u8 0)) _ _ _ _ _ _/\Only _ _ (W1.setCell ⟨B.o,s,none⟩ (.int .u8 0))) at HS2;obtain⟨W2,hW2⟩:∃W2,W2=W1.setCell ⟨B.o,s,none⟩ (.int .u8 0):=⟨_,rfl⟩
       have r5':W2.cell? ⟨B.l,s,none⟩=some (.int .u8 (av:Int)):=by
        rw[hW2];have hne:=(uh HS2).1.ne;rw[<-r5];exact World.cell?_setCell_other W1 ⟨B.o,s,none⟩ ⟨B.l,s,none⟩ _ (fun e=>hne.2.2.2.2.2.1.1 (by simpa using (congrArg Addr.block e).symm))
       rw[<-hW2] at HS2 ⊢;clear hW2;obtain⟨⟨p0,p1,p2,p3,p4,p5,p6,p7⟩,pg⟩:=(uh HS2).1.cells;have hr5':B.l < W2.heap.size:=((uh HS2).1.switch hss).1.2.2;clear r5 r6 w5 w6 hr5 hr6;go_wp2
       refine⟨⟨j+1,_,by omega,by go_num,rfl,?_,(uh HS2).2.trans (Only.of_below (z01 _ _)),(uh HS2).1.below (z01 _ _)⟩,by simp[intOf]; omega⟩;rw[(uh HFI).2]
       try simp
    ·have l1:¬(j:Int) < np:=by omega
     have HFI:=zh (show t=z0i (W.frameT L)/\WAt wr g gp nt ns B (W.tickN L (z03 0 L.sw).length)/\Only (WF g B) w wr by
      have hj2:j=(z03 0 L.sw).length:=by rw[<-uh HNP]; omega
      rw[<-hj2];refine⟨?_,hWj,hor⟩;rw[ht];unfold Wd.frameT;rw[<-uh HNS,<-hj2])
     clear ht hWj hor e a2 hrow;obtain⟨hf1,hf2⟩:=uh HFI;subst hf1;clear hf2;go_wp2
     go_ret
     exact⟨rfl,(uh HFI).2⟩
def Wd.hurry (W:Wd):Wd:={ W with left:=List.replicate W.left.length 0 }
set_option maxRecDepth 100000 in
set_option maxHeartbeats 4000000 in
theorem whurry_any (g gp nt ns:Nat) (B:WB) (W:Wd) (w:World) (hW:WAt w g gp nt ns B W) (hns:ns<=100) :
  Calls Tryz.prog 54 #[.pointer (some ⟨g,0,none⟩)] w fun e w'=>e=.returned (.tuple #[])/\WAt w' g gp nt ns B W.hurry/\Only (WF g B) w w':=by
 have HW0:=zh hW;have hll:=hW.lens.2.2.2.2.2.2;have HLL:=zh hll;clear hW hll;go_enter Tryz.func54,Tryz.ntmps54
 go_wp2
 go_loopw [2] (fun i wr=>∃k:Nat,k<=ns/\i=.int .i64 k/\Only (WF g B) w wr/\WAt wr g gp nt ns B { W with left:=mixN (List.replicate ns 0) W.left k }) (fun i _=>ns - (intOf i).toNat)
 case atStart=>exact⟨0,Nat.zero_le _,rfl,Only.refl _ _,uh HW0⟩
 case round=>
  obtain⟨k,hk,rfl,hor,hWk⟩:=hrel;have hll:=uh HLL;obtain⟨⟨o0,o1,o2,o3,o4,o5,o6,o7⟩,hg⟩:=hWk.cells;by_cases hlt:k < ns
  ·obtain⟨-,-,⟨y7,z7,hb7⟩⟩:=hWk.switch hlt
   generalize ({ W with left:=mixN (List.replicate ns 0) W.left k }:Wd).left.getD k 0=lv at *;have HFI:=zh (show WAt (wr.setCell ⟨B.f,k,none⟩ (.int .i64 (0:Nat))) g gp nt ns B { W with left:=mixN (List.replicate ns 0) W.left (k+1) }/\Only (WF g B) w (wr.setCell ⟨B.f,k,none⟩ (.int .i64 (0:Nat))) from ⟨by
    have h1:=hWk.setLeft k 0;have h2:=mixN_set (new:=List.replicate ns 0) (old:=W.left) (by rw[List.length_replicate,hll]) (k:=k) (by omega);rw[z0z _ _ _ _ rfl] at h2;rw[<-h2];exact h1,hor.trans (z46 _ (by simp[WB.bs]))⟩)
   have l1:(k:Int) < ns:=by omega
   have l2:(0:Int)<=k:=by omega
   clear hor hWk hll;go_wp2
   exact⟨⟨k+1,by omega,by go_num,(uh HFI).2,(uh HFI).1⟩,by simp[intOf]; omega⟩
  ·have l1:¬(k:Int) < ns:=by omega
   have HFI:=zh (show WAt wr g gp nt ns B W.hurry/\Only (WF g B) w wr from ⟨by
    have hke:k=W.left.length:=by omega
    have h2:=mixN_end (new:=List.replicate ns 0) (old:=W.left) (by rw[List.length_replicate,hll]);rw[hke,h2] at hWk;unfold Wd.hurry;rw[hll];exact hWk,hor⟩)
   clear hor hWk hll;go_wp2
   refine bodyPost_end (v:=.tuple #[]) (by simp[results,Tryz.results54,go_sem]) rfl ?_;exact⟨rfl,uh HFI⟩
theorem idle_lock {C:RBx} (h:∀r,r < C.lines.length->(C.line r).ph=46) (s:Nat):C.lockedBy s=none:=by
 unfold RBx.lockedBy;rw[List.find?_eq_none];intro r hr;unfold RBx.lockB;rw[h r (List.mem_range.1 hr)];simp
set_option maxRecDepth 100000 in
set_option maxHeartbeats 8000000 in
theorem wover_yes {n:Nat} {w0 w:World} {D R:Nat->Prop} {gb gp g nt ns:Nat} {B:WB} {W:Wd} {L:Lay} {C:RBx} (h:KRun n w0 w D R gb gp L C) (hJ:KJ C) (hW:WAt w g gp nt ns B W) (hnt:nt=L.tns.length)
  (hq:C.waits=[]) (hgn:∀t,t < nt->W.gone.getD t false=true) (hst:∀t,t < nt->C.sta.getD t 0=(L.tn t).jny.length) (hph:∀r,r < L.rts.length->(C.line r).ph=46) :
  Calls Tryz.prog 27 #[.pointer (some ⟨g,0,none⟩),.pointer (some ⟨gb,0,none⟩)] w fun e w'=>e=.returned (.bool true)/\Below w.heap.size w w':=by
 have HA:=zh h.ask;have HK:=zh h;have hi:=h.box.inv;have hA:=hi.askOK;rw[h.eL] at hA;have eL:=h.eL;have HAT:=zh (show ∀t,t < nt->pk (atS C) t=48+(L.tn t).jny.length from fun t ht=>by rw[at_pk hi (by rw[eL]; omega),hst t ht]);have HPH:=zh (show ∀r,r < (phS C).size->pk (phS C) r=46 from fun r hr=>by
  rw[hA.s1] at hr;rw[Inv.ph256 hJ.ph.small r (by rw[hi.ll,eL]; exact hr)]; exact hph r hr)
 have HLK:=zh (show ∀x,x < (lkS C).size->pk (lkS C) x=46 from fun x hx=>by
  rw[hA.s0,<-eL] at hx;rw[lock_pk hi hx,idle_lock (fun r hr=>hph r (by rw[hi.ll,eL] at hr; exact hr))]; rfl)
 have hqe:quS C=ByteArray.empty:=by unfold quS RBx.queueT; rw[hq]; rfl
 rw[hqe] at HA;have z0:=hA.s0;have z1:=hA.s1;have z3:=hA.s3;have zsw:=hA.sw;have zrt:=hA.rt;have ztn:=hA.tn;have HJN:=zh hA.jn;rw[<-hnt] at z3 ztn;generalize lkS C=a0 at *;generalize phS C=a1 at *;generalize swS C=a2 at *;generalize atS C=a3 at *;have HW:=zh hW;have HGN:=zh hgn;have HNT:=zh hnt;obtain⟨⟨o0,-⟩,hg⟩:=hW.cells;clear h hW hq hgn hst hph hi hA hqe eL hnt hJ;go_enter Tryz.func27,Tryz.ntmps27
 go_wp2_with fail
 refine(uh HA).mono ?_;rintro e w4 ⟨gt,rfl,hgt,hto,hb4⟩;have HB4:=zh hb4;have HTO:=zh hto;have hW4:=(uh HW).below hb4;have HW4:=zh hW4;have HK4:=zh ((uh HK).plan.below hb4).at;obtain⟨⟨t0,t1,-,t3,t4⟩,-,hgtl⟩:=z1p hto;clear hto hb4 hW4 HA o0 hg;go_wp2
 go_loopw [7] (fun i wr=>∃k mm:Nat,k<=nt/\i=.int .i64 k/\wr=w4.drewN mm) (fun i _=>nt - (intOf i).toNat)
 case atStart=>exact⟨0,0,Nat.zero_le _,rfl,rfl⟩
 case round=>
  obtain⟨k,mm,hk,rfl,hwr⟩:=hrel;have HWR:=zh hwr;have hWr:WAt wr g gp nt ns B W:=by rw[hwr]; exact(uh HW4).below (below_drewN (Below.refl _ _) mm)
  have hKr:KPl wr gp L:=by rw[hwr]; exact(uh HK4).below (below_drewN (Below.refl _ _) mm)
  have u0:wr.cell? ⟨gt,0,none⟩=some (.string a0):=by rw[hwr]; exact t0
  have u1:wr.cell? ⟨gt,1,none⟩=some (.string a1):=by rw[hwr]; exact t1
  have u3:wr.cell? ⟨gt,3,none⟩=some (.string a3):=by rw[hwr]; exact t3
  have ug:gt < wr.heap.size:=by rw[hwr]; exact hgtl
  obtain⟨⟨o0,o1,o2,o3,o4,-⟩,hg⟩:=hWr.cells;by_cases hlt:k < nt
  ·obtain⟨-,-,-,⟨x4,-,hbg⟩⟩:=hWr.train hlt
   rw[uh HGN k hlt] at x4;obtain⟨vh,vp,vf,va,vk,vw,vs,vj,e,-,-,-,-,-,-,-,a8⟩:=hKr;obtain⟨⟨-,-,-,-,-,-,-,-,-,-,c10⟩,hgp⟩:=z0k e;have hkt:k < L.tns.length:=by rw[<-uh HNT]; exact hlt
   obtain⟨gj,oj,cj,ar,cr,ev,hgj,xr,hui⟩:=z23 a8 k (by simpa using hkt);subst ev;rw[z4h hkt] at xr;rw[List.length_map,<-uh HNT] at c10;have hat:=uh HAT k hlt;have hjb:(L.tn k).jny.length<=1000:=uh HJN _ (by unfold Lay.tn; rw[z05 hkt]; exact List.getElem_mem hkt);generalize (L.tn k).jny.length=jl at *;have hka:k < a3.size:=by omega
   obtain⟨b,hb⟩:∃b,(a3[k]'hka).toNat=b:=⟨_,rfl⟩
   rw[<-z18 a3 k hka,hb] at hat;have b256:b < 256:=by rw[<-hb]; exact(a3[k]'hka).toNat_lt
   have eb:IntKind.i64.wrap (b:Int)=b:=Go.IntWalk.i64_in _ (by omega);have eu:(b:Int) - 48=jl:=by omega
   have l1:(k:Int) < nt:=by omega
   have l2:(0:Int)<=k:=by omega
   have l3:(k:Int) < a3.size:=by omega
   clear hwr hWr hui e a8 hat;go_wp2
   go_quiet (fail)
   go_wp2
   exact⟨⟨k+1,mm+nq,by omega,by go_num,by rw[uh HWR]; exact z1h _ _ _⟩,by simp[intOf]; omega⟩
  ·have l1:¬(k:Int) < nt:=by omega
   clear hwr hWr hKr;go_wp2
   go_loop [8] (fun i=>∃k:Nat,k<=a0.size/\i=.int .i64 k) (fun i=>a0.size - (intOf i).toNat)
   case atStart=>exact⟨0,Nat.zero_le _,rfl⟩
   case round=>
    obtain⟨k2,hk2,rfl⟩:=hrel;by_cases hlt2:k2 < a0.size
    ·have hv:=uh HLK k2 hlt2
     obtain⟨b,hb⟩:∃b,(a0[k2]'hlt2).toNat=b:=⟨_,rfl⟩
     rw[<-z18 a0 k2 hlt2,hb] at hv;subst hv;have l2:(k2:Int) < a0.size:=by omega
     have l3:(0:Int)<=k2:=by omega
     go_wp2
     exact⟨⟨k2+1,by omega,by go_num⟩,by simp[intOf]; omega⟩
    ·have l2:¬(k2:Int) < a0.size:=by omega
     go_wp2
     go_loop [9] (fun i=>∃k:Nat,k<=a1.size/\i=.int .i64 k) (fun i=>a1.size - (intOf i).toNat)
     case atStart=>exact⟨0,Nat.zero_le _,rfl⟩
     case round=>
      obtain⟨k3,hk3,rfl⟩:=hrel;by_cases hlt3:k3 < a1.size
      ·have hv:=uh HPH k3 hlt3
       obtain⟨b,hb⟩:∃b,(a1[k3]'hlt3).toNat=b:=⟨_,rfl⟩
       rw[<-z18 a1 k3 hlt3,hb] at hv;subst hv;have l4:(k3:Int) < a1.size:=by omega
       have l5:(0:Int)<=k3:=by omega
       go_wp2
       exact⟨⟨k3+1,by omega,by go_num⟩,by simp[intOf]; omega⟩
      ·have l4:¬(k3:Int) < a1.size:=by omega
       go_wp2
       go_ret
       exact⟨rfl,by rw[uh HWR]; exact below_drewN (uh HB4) _⟩
def bty (j:Nat):TypeId:=if j=4 then 4 else if j=5\/j=6 then 5 else 3
def updB {α:Type} (V:Nat->α) (j:Nat) (v:α):Nat->α:=fun i=>if i=j then v else V i
structure BM (n:Nat) (w:World) (g gp:Nat) (V:Nat->Value) (X:Nat->List Value):Prop where
 obj:w.heap[g]?=some (.cells #[.pointer (some ⟨gp,0,none⟩),V 1,V 2,V 3,V 4,V 5,V 6,V 7] 103 (0,0))
 own:∀j,1<=j->j<=7->w.ownsRow n (bty j) 1 (V j) (X j).length (X j)
 dis:∀i j b,1<=i->i<=7->1<=j->j<=7->(V i).ownBlock=some b->(V j).ownBlock=some b->i=j
 ng:∀j,1<=j->j<=7->(V j).ownBlock≠some g
 gn:n<=g
theorem BM.app {n:Nat} {w w4:World} {g gp:Nat} {V:Nat->Value} {X:Nat->List Value} (h:BM n w g gp V X) {j:Nat} (j1:1<=j) (j7:j<=7) {g4 c4 m:Nat} {o:Obj} {u:Value} (hm:m=(X j).length)
  (hown:w4.ownsRow n (bty j) 1 (.slice (some ⟨g4,0,none⟩) (m+1) c4) (m+1) (X j++[u])) (hgr:(w.alloc o).grownBy w4 (V j).ownBlock) (hat:(V j).ownBlock=some g4\/g4=(w.alloc o).heap.size) :
  BM n (w4.setCell ⟨g,j,none⟩ (.slice (some ⟨g4,0,none⟩) (m+1) c4)) g gp (updB V j (.slice (some ⟨g4,0,none⟩) (m+1) c4)) (updB X j (X j++[u]))/\Below n w (w4.setCell ⟨g,j,none⟩ (.slice (some ⟨g4,0,none⟩) (m+1) c4)):=by
 have ho:=z19 hgr;have hgl:=z0g h.obj;have h4g:g4≠g:=by
  rcases hat with e | e
  ·intro e2; rw[e2] at e; exact h.ng j j1 j7 e
  ·simp at e; omega
 have hobj4:w4.heap[g]?=some (.cells #[.pointer (some ⟨gp,0,none⟩),V 1,V 2,V 3,V 4,V 5,V 6,V 7] 103 (0,0)):=(ho.block g hgl (h.ng j j1 j7)).trans h.obj;have hlt:∀i b,1<=i->i<=7->(V i).ownBlock=some b->n<=b/\b < w.heap.size:=fun i b i1 i7 e=>(h.own i i1 i7).lt b e;have hnw:n<=w.heap.size:=by have:=h.gn; omega
 refine⟨⟨?_,?_,?_,?_,h.gn⟩,?_⟩
 ·have:=z0b (j:=j) (.slice (some ⟨g4,0,none⟩) (m+1) c4) hobj4
  rw[this];have hj:j=1\/j=2\/j=3\/j=4\/j=5\/j=6\/j=7:=by omega
  rcases hj with rfl | rfl | rfl | rfl | rfl | rfl | rfl <;> rfl
 ·intro i i1 i7
  unfold updB;by_cases e:i=j
  ·subst e
   rw[if_pos rfl,if_pos rfl];have hl:(X i++[u]).length=m+1:=by rw[List.length_append,hm]; rfl
   rw[hl];exact z2k hown (a:=⟨g,i,none⟩) (fun e=>h4g (by simpa [Value.ownBlock] using e)) _
  ·rw[if_neg e,if_neg e]
   refine z2k (own_onlyK (h.own i i1 i7) ho (fun b hb hb2=>e (h.dis i j b i1 i7 j1 j7 hb hb2))) (a:=⟨g,j,none⟩) (h.ng i i1 i7) _
 ·intro i k b i1 i7 k1 k7 hi hk
  unfold updB at hi hk;by_cases e:i=j
  ·by_cases e2:k=j
   ·rw[e,e2]
   ·exfalso
    rw[if_pos e] at hi;rw[if_neg e2] at hk;have eb:g4=b:=by simpa [Value.ownBlock] using hi
    rcases hat with e3 | e3
    ·rw[eb] at e3; exact e2 (h.dis k j b k1 k7 j1 j7 hk e3)
    ·have:=(hlt k b k1 k7 hk).2; simp at e3; omega
  ·by_cases e2:k=j
   ·exfalso
    rw[if_neg e] at hi;rw[if_pos e2] at hk;have eb:g4=b:=by simpa [Value.ownBlock] using hk
    rcases hat with e3 | e3
    ·rw[eb] at e3; exact e (h.dis i j b i1 i7 j1 j7 hi e3)
    ·have:=(hlt i b i1 i7 hi).2; simp at e3; omega
   ·rw[if_neg e] at hi
    rw[if_neg e2] at hk;exact h.dis i k b i1 i7 k1 k7 hi hk
 ·intro i i1 i7
  unfold updB;by_cases e:i=j
  ·rw[if_pos e]
   intro e2;exact h4g (by simpa [Value.ownBlock] using e2)
  ·rw[if_neg e]; exact h.ng i i1 i7
 ·exact(ho.belowK (fun b hb=>(hlt j b j1 j7 hb).1) hnw).setCell (p:=⟨g,j,none⟩) h.gn _
theorem BM.cells {n:Nat} {w:World} {g gp:Nat} {V:Nat->Value} {X:Nat->List Value} (h:BM n w g gp V X) :
  (w.cell? ⟨g,1,none⟩=some (V 1)/\w.cell? ⟨g,2,none⟩=some (V 2)/\w.cell? ⟨g,3,none⟩=some (V 3)/\w.cell? ⟨g,4,none⟩=some (V 4)/\w.cell? ⟨g,5,none⟩=some (V 5)/\w.cell? ⟨g,6,none⟩=some (V 6)/\w.cell? ⟨g,7,none⟩=some (V 7)) ∧
  (w.frozen? ⟨g,1,none⟩=false/\w.frozen? ⟨g,2,none⟩=false/\w.frozen? ⟨g,3,none⟩=false/\w.frozen? ⟨g,4,none⟩=false/\w.frozen? ⟨g,5,none⟩=false/\w.frozen? ⟨g,6,none⟩=false/\w.frozen? ⟨g,7,none⟩=false)/\g < w.heap.size:=
 ⟨⟨z07 h.obj 1,z07 h.obj 2,z07 h.obj 3,z07 h.obj 4,z07 h.obj 5,z07 h.obj 6,z07 h.obj 7⟩,⟨z0c h.obj 1,z0c h.obj 2,z0c h.obj 3,z0c h.obj 4,z0c h.obj 5,z0c h.obj 6,z0c h.obj 7⟩,z0g h.obj⟩
def begX (k m:Nat):Nat->List Value:=fun j=>if j=1 then intsV (List.replicate k 0) else if j=2\/j=3 then intsZ (List.replicate k (-1)) else if j=4 then z17 (List.replicate k false) else if j=5 then bytsV (List.replicate m 43) else if j=6 then bytsV (List.replicate m 0) else if j=7 then intsV (List.replicate m 0) else []
def Wd.begin (L:Lay):Wd:=⟨List.replicate L.tns.length 0,List.replicate L.tns.length (-1),List.replicate L.tns.length (-1),List.replicate L.tns.length false,List.replicate L.sw.length 43,List.replicate L.sw.length 0,List.replicate L.sw.length 0⟩
theorem BM.init {w:World} {gp:Nat} (n:Nat) (hn:n<=w.heap.size):BM n (w.alloc (.cells #[.pointer (some ⟨gp,0,none⟩),.slice none 0 0,.slice none 0 0,.slice none 0 0,.slice none 0 0,.slice none 0 0,.slice none 0 0,.slice none 0 0] 103)) w.heap.size gp (fun _=>.slice none 0 0) (begX 0 0):=by
 refine⟨heap_alloc_new _ _,?_,?_,?_,hn⟩
 ·intro j j1 j7
  have e:begX 0 0 j=[]:=by
   unfold begX;have hj:j=1\/j=2\/j=3\/j=4\/j=5\/j=6\/j=7:=by omega
   rcases hj with rfl | rfl | rfl | rfl | rfl | rfl | rfl <;> rfl
  rw[e];exact World.ownsRow_nil _ _ _ _
 ·intro i j b _ _ _ _ hb
  cases hb
 ·intro j _ _ hb
  cases hb
theorem begX_train (k m:Nat):updB (updB (updB (updB (begX k m) 1 (begX k m 1++[.int .i64 0])) 2 (begX k m 2++[.int .i64 (-1)])) 3 (begX k m 3++[.int .i64 (-1)])) 4 (begX k m 4++[.bool false])=begX (k+1) m:=by
 funext j
 unfold updB begX;by_cases h4:j=4
 ·subst h4; simp[z17,List.replicate_succ']
 ·by_cases h3:j=3
  ·subst h3; simp[intsZ,List.replicate_succ']
  ·by_cases h2:j=2
   ·subst h2; simp[intsZ,List.replicate_succ']
   ·by_cases h1:j=1
    ·subst h1; simp[intsV,List.replicate_succ']
    ·simp[h1,h2,h3,h4]
theorem begX_switch (k m:Nat):updB (updB (updB (begX k m) 5 (begX k m 5++[.int .u8 43])) 6 (begX k m 6++[.int .u8 0])) 7 (begX k m 7++[.int .i64 0])=begX k (m+1):=by
 funext j
 unfold updB begX;by_cases h7:j=7
 ·subst h7; simp[intsV,List.replicate_succ']
 ·by_cases h6:j=6
  ·subst h6; simp[bytsV,List.replicate_succ']
  ·by_cases h5:j=5
   ·subst h5; simp[bytsV,List.replicate_succ']
   ·simp[h5,h6,h7]
theorem BM.cell_grown {n:Nat} {w w4:World} {g gp:Nat} {V:Nat->Value} {X:Nat->List Value} (h:BM n w g gp V X) {j:Nat} (j1:1<=j) (j7:j<=7) {o:Obj} (hgr:(w.alloc o).grownBy w4 (V j).ownBlock) :
  w4.heap[g]?=some (.cells #[.pointer (some ⟨gp,0,none⟩),V 1,V 2,V 3,V 4,V 5,V 6,V 7] 103 (0,0)):=((z19 hgr).block g (z0g h.obj) (h.ng j j1 j7)).trans h.obj
theorem z4i (k m:Nat):(begX k m 1).length=k/\(begX k m 2).length=k/\(begX k m 3).length=k/\(begX k m 4).length=k/\(begX k m 5).length=m/\(begX k m 6).length=m/\(begX k m 7).length=m:=by
 refine⟨?_,?_,?_,?_,?_,?_,?_⟩ <;> simp[begX,intsV,intsZ,z17,bytsV]
set_option maxRecDepth 100000 in
set_option maxHeartbeats 16000000 in
theorem wbegin_any (s:ByteArray) (w:World) (h:(errOf s.data.toList).1=0) :
  Calls Tryz.prog 25 #[.string s] w fun e w'=>∃g,e=.returned (.pointer (some ⟨g,0,none⟩))/\(∃V,BM g w' g w.heap.size V (begX (layOf s.data.toList).tns.length (layOf s.data.toList).sw.length))/\(∃R,KPlIn R w' w.heap.size (layOf s.data.toList)/\∀k,R k->w.heap.size<=k/\k < g)/\Below w.heap.size w w':=by
 have HRD:=zh (kread_lay s w h);have hsm:=(z4e s h).1;obtain⟨i0,hi0⟩:=info_parts Tryz.infoInt;have HI:=zh hi0;obtain⟨i1,hi1⟩:=info_parts Tryz.infoBool;have HJ:=zh hi1;obtain⟨i2,hi2⟩:=info_parts Tryz.infoByte;have HU:=zh hi2;have hsw:=hsm.sw;have htn:=hsm.good.tns;generalize layOf s.data.toList=L at *;obtain⟨nt,hnt⟩:∃n,n=L.tns.length:=⟨_,rfl⟩
 obtain⟨ns,hns⟩:∃n,n=L.sw.length:=⟨_,rfl⟩
 rw[<-hnt,<-hns];rw[<-hnt] at htn;rw[<-hns] at hsw;have HNN:=zh (And.intro hnt hns);clear hi0 hi1 hi2 hsm h hnt hns;go_enter Tryz.func25,Tryz.ntmps25
 go_wp2_with fail
 refine(uh HRD).mono ?_;rintro e w1 ⟨rfl,hP,hb1⟩;obtain⟨gp,hgp⟩:∃g,g=w.heap.size:=⟨_,rfl⟩
 have hgp1:=z0g hP.at.choose_spec.choose_spec.choose_spec.choose_spec.choose_spec.choose_spec.choose_spec.choose_spec.1;rw[<-hgp] at hP hgp1 ⊢;have HB0:=zh (BM.init (w:=w1) (gp:=gp) w1.heap.size (Nat.le_refl _));have HPL:=zh hP;have HB1':=zh hb1;have HAL:=zh (z01 w1 (.cells #[.pointer (some ⟨gp,0,none⟩),.slice none 0 0,.slice none 0 0,.slice none 0 0,.slice none 0 0,.slice none 0 0,.slice none 0 0,.slice none 0 0] 103));obtain⟨g,hge⟩:∃g,g=w1.heap.size:=⟨_,rfl⟩
 have HGE:=zh (And.intro hge hgp);rw[<-hge] at HB0;have HKP:=zh (show ∀wz,Below g w1 wz->KPlIn (fun k=>gp<=k/\k < w1.heap.size) wz gp L from fun wz hz=>hP.only (F:=fun b=>g<=b) ⟨hz.os,hz.tape,hz.output,by have:=hz.size; omega,fun k hk hf=>hz.block k (by omega)⟩ (fun k hk=>by omega));clear hP hb1 HRD hgp;go_wp2
 rw[<-hge] at HAL ⊢;clear hge;go_loopw [5] (fun i wr=>∃k:Nat,∃V,k<=nt/\i=.int .i64 k/\BM g wr g gp V (begX k 0)/\Below g w1 wr) (fun i _=>nt - (intOf i).toNat)
 case atStart=>exact⟨0,_,Nat.zero_le _,rfl,uh HB0,(uh HAL)⟩
 case round=>
  clear HB0 HAL;obtain⟨k,V,hk,rfl,hB,hbe⟩:=hrel;have HB1:=zh hB;have HBE1:=zh hbe;obtain⟨vh,vp,vf,va,vk,vw,vs,vj,e,x1,-,-,-,-,-,x7,-⟩:=(uh HKP wr hbe).at;obtain⟨⟨-,-,-,k3,-,-,-,-,-,k9,-⟩,hgpl⟩:=z0k e;obtain⟨as_,cs,hvs,-⟩:=SlAt.open x7;subst hvs;rw[List.length_map,<-(uh HNN).1] at k9;clear e x1 x7;by_cases hlt:k < nt
  ·have l1:(k:Int) < nt:=by omega
   clear hB hbe;obtain⟨⟨c1,c2,c3,c4,c5,c6,c7⟩,⟨f1,f2,f3,f4,f5,f6,f7⟩,hg⟩:=(uh HB1).cells;obtain⟨av,ev,hv⟩:=z02 ((uh HB1).own 1 (by omega) (by omega));have hlx:(begX k 0 1).length=k:=(z4i k 0).1;rw[hlx] at hv;rw[hv] at c1;have HOW:=zh (show wr.ownsRow g 3 1 (.slice av k ev) k (begX k 0 1) from by
    have:=(uh HB1).own 1 (by omega) (by omega);rw[hlx,hv] at this;exact this)
   have HV:=zh hv;have HLX:=zh hlx;have hgc:g<=wr.heap.size:=by omega
   clear hv hlx;go_upto_region 7 with (at_builtin; refine wpList_append_lies _ rfl _ _ 49 rfl g 3 i0 (.int .i64 0) 1 8 Tryz.underlying49 (uh HI).1 (uh HI).2.1 (uh HI).2.2.1 (uh HI).2.2.2 rfl (by decide) (.slice av k ev) k (begX k 0 1) rfl (World.ownsRow.alloc (uh HOW) _) ⟨wr.heap.size,0,none⟩ 1 1 [.int .i64 0] rfl rfl (z0q _ _ _) (z0a rfl) (by decide) (by unfold maxLen; omega) (by omega) (by simp; omega) _ rfl ?_; intro g4 d4 w4 hown4 hgrow4 hat4 hlt4; have hob4:=(uh HB1).cell_grown (j:=1) (by omega) (by omega) (by rw[uh HV]; exact hgrow4); have r4:=z07 hob4 1; have z4:=z0c hob4 1; have q4:=z0g hob4)
   have hA:=(uh HB1).app (j:=1) (by omega) (by omega) (m:=k) (uh HLX).symm hown4 (by rw[uh HV]; exact hgrow4) (by rw[uh HV]; exact hat4);have HBE2:=zh ((uh HBE1).trans hA.2);obtain⟨Va,hV9⟩:∃V9,V9=updB V 1 (.slice (some ⟨g4,0,none⟩) (k+1) d4):=⟨_,rfl⟩
   obtain⟨Xa,hX9⟩:∃X9,X9=updB (begX k 0) 1 (begX k 0 1++[.int .i64 0]):=⟨_,rfl⟩
   rw[<-hV9,<-hX9] at hA;obtain⟨Wa,hW9⟩:∃W9,W9=w4.setCell ⟨g,1,none⟩ (.slice (some ⟨g4,0,none⟩) (k+1) d4):=⟨_,rfl⟩
   rw[<-hW9] at hA HBE2 ⊢;have HB2:=zh hA.1;have HX1:=zh hX9;clear hA hV9 hX9 hW9 HB1 HBE1 HOW HV hown4 hgrow4 hat4 hlt4 hob4 r4 z4 q4 c1 c2 c3 c4 c5 c6 c7 f1 f2 f3 f4 f5 f6 f7 hg HLX hgc;obtain⟨⟨c1,c2,c3,c4,c5,c6,c7⟩,⟨f1,f2,f3,f4,f5,f6,f7⟩,hg⟩:=(uh HB2).cells;obtain⟨av,ev,hv⟩:=z02 ((uh HB2).own 2 (by omega) (by omega));have hlx:(Xa 2).length=k:=by rw[uh HX1]; exact(z4i k 0).2.1
   rw[hlx] at hv;rw[hv] at c2;have HOW:=zh (show Wa.ownsRow g 3 1 (.slice av k ev) k (Xa 2) from by
    have:=(uh HB2).own 2 (by omega) (by omega);rw[hlx,hv] at this;exact this)
   have HV:=zh hv;have HLX:=zh hlx;have hgc:g<=Wa.heap.size:=by omega
   clear hv hlx;go_upto_region 8 with (at_builtin; refine wpList_append_lies _ rfl _ _ 49 rfl g 3 i0 (.int .i64 0) 1 8 Tryz.underlying49 (uh HI).1 (uh HI).2.1 (uh HI).2.2.1 (uh HI).2.2.2 rfl (by decide) (.slice av k ev) k (Xa 2) rfl (World.ownsRow.alloc (uh HOW) _) ⟨Wa.heap.size,0,none⟩ 1 1 [.int .i64 (-1)] rfl rfl (z0q _ _ _) (z0a rfl) (by decide) (by unfold maxLen; omega) (by omega) (by simp; omega) _ rfl ?_; intro g4 d4 w4 hown4 hgrow4 hat4 hlt4; have hob4:=(uh HB2).cell_grown (j:=2) (by omega) (by omega) (by rw[uh HV]; exact hgrow4); have r4:=z07 hob4 2; have z4:=z0c hob4 2; have q4:=z0g hob4)
   have hA:=(uh HB2).app (j:=2) (by omega) (by omega) (m:=k) (uh HLX).symm hown4 (by rw[uh HV]; exact hgrow4) (by rw[uh HV]; exact hat4);have HBE3:=zh ((uh HBE2).trans hA.2);obtain⟨Vb,hV9⟩:∃V9,V9=updB Va 2 (.slice (some ⟨g4,0,none⟩) (k+1) d4):=⟨_,rfl⟩
   obtain⟨Xb,hX9⟩:∃X9,X9=updB Xa 2 (Xa 2++[.int .i64 (-1)]):=⟨_,rfl⟩
   rw[<-hV9,<-hX9] at hA;obtain⟨Wb,hW9⟩:∃W9,W9=w4.setCell ⟨g,2,none⟩ (.slice (some ⟨g4,0,none⟩) (k+1) d4):=⟨_,rfl⟩
   rw[<-hW9] at hA HBE3 ⊢;have HB3:=zh hA.1;have HX2:=zh hX9;clear hA hV9 hX9 hW9 HB2 HBE2 HOW HV hown4 hgrow4 hat4 hlt4 hob4 r4 z4 q4 c1 c2 c3 c4 c5 c6 c7 f1 f2 f3 f4 f5 f6 f7 hg HLX hgc;obtain⟨⟨c1,c2,c3,c4,c5,c6,c7⟩,⟨f1,f2,f3,f4,f5,f6,f7⟩,hg⟩:=(uh HB3).cells;obtain⟨av,ev,hv⟩:=z02 ((uh HB3).own 3 (by omega) (by omega));have hlx:(Xb 3).length=k:=by rw[uh HX2,uh HX1]; exact(z4i k 0).2.2.1
   rw[hlx] at hv;rw[hv] at c3;have HOW:=zh (show Wb.ownsRow g 3 1 (.slice av k ev) k (Xb 3) from by
    have:=(uh HB3).own 3 (by omega) (by omega);rw[hlx,hv] at this;exact this)
   have HV:=zh hv;have HLX:=zh hlx;have hgc:g<=Wb.heap.size:=by omega
   clear hv hlx;go_upto_region 9 with (at_builtin; refine wpList_append_lies _ rfl _ _ 49 rfl g 3 i0 (.int .i64 0) 1 8 Tryz.underlying49 (uh HI).1 (uh HI).2.1 (uh HI).2.2.1 (uh HI).2.2.2 rfl (by decide) (.slice av k ev) k (Xb 3) rfl (World.ownsRow.alloc (uh HOW) _) ⟨Wb.heap.size,0,none⟩ 1 1 [.int .i64 (-1)] rfl rfl (z0q _ _ _) (z0a rfl) (by decide) (by unfold maxLen; omega) (by omega) (by simp; omega) _ rfl ?_; intro g4 d4 w4 hown4 hgrow4 hat4 hlt4; have hob4:=(uh HB3).cell_grown (j:=3) (by omega) (by omega) (by rw[uh HV]; exact hgrow4); have r4:=z07 hob4 3; have z4:=z0c hob4 3; have q4:=z0g hob4)
   have hA:=(uh HB3).app (j:=3) (by omega) (by omega) (m:=k) (uh HLX).symm hown4 (by rw[uh HV]; exact hgrow4) (by rw[uh HV]; exact hat4);have HBE4:=zh ((uh HBE3).trans hA.2);obtain⟨Vc,hV9⟩:∃V9,V9=updB Vb 3 (.slice (some ⟨g4,0,none⟩) (k+1) d4):=⟨_,rfl⟩
   obtain⟨Xc,hX9⟩:∃X9,X9=updB Xb 3 (Xb 3++[.int .i64 (-1)]):=⟨_,rfl⟩
   rw[<-hV9,<-hX9] at hA;obtain⟨Wc,hW9⟩:∃W9,W9=w4.setCell ⟨g,3,none⟩ (.slice (some ⟨g4,0,none⟩) (k+1) d4):=⟨_,rfl⟩
   rw[<-hW9] at hA HBE4 ⊢;have HB4:=zh hA.1;have HX3:=zh hX9;clear hA hV9 hX9 hW9 HB3 HBE3 HOW HV hown4 hgrow4 hat4 hlt4 hob4 r4 z4 q4 c1 c2 c3 c4 c5 c6 c7 f1 f2 f3 f4 f5 f6 f7 hg HLX hgc;obtain⟨⟨c1,c2,c3,c4,c5,c6,c7⟩,⟨f1,f2,f3,f4,f5,f6,f7⟩,hg⟩:=(uh HB4).cells;obtain⟨av,ev,hv⟩:=z02 ((uh HB4).own 4 (by omega) (by omega));have hlx:(Xc 4).length=k:=by rw[uh HX3,uh HX2,uh HX1]; exact(z4i k 0).2.2.2.1
   rw[hlx] at hv;rw[hv] at c4;have HOW:=zh (show Wc.ownsRow g 4 1 (.slice av k ev) k (Xc 4) from by
    have:=(uh HB4).own 4 (by omega) (by omega);rw[hlx,hv] at this;exact this)
   have HV:=zh hv;have HLX:=zh hlx;have hgc:g<=Wc.heap.size:=by omega
   clear hv hlx;go_upto_region 5 with (at_builtin; refine wpList_append_lies _ rfl _ _ 48 rfl g 4 i1 (.bool false) 1 1 Tryz.underlying48 (uh HJ).1 (uh HJ).2.1 (uh HJ).2.2.1 (uh HJ).2.2.2 rfl (by decide) (.slice av k ev) k (Xc 4) rfl (World.ownsRow.alloc (uh HOW) _) ⟨Wc.heap.size,0,none⟩ 1 1 [.bool false] rfl rfl (z0q _ _ _) (z0a rfl) (by decide) (by unfold maxLen; omega) (by omega) (by simp; omega) _ rfl ?_; intro g4 d4 w4 hown4 hgrow4 hat4 hlt4; have hob4:=(uh HB4).cell_grown (j:=4) (by omega) (by omega) (by rw[uh HV]; exact hgrow4); have r4:=z07 hob4 4; have z4:=z0c hob4 4; have q4:=z0g hob4)
   have hA:=(uh HB4).app (j:=4) (by omega) (by omega) (m:=k) (uh HLX).symm hown4 (by rw[uh HV]; exact hgrow4) (by rw[uh HV]; exact hat4);have HBE5:=zh ((uh HBE4).trans hA.2);obtain⟨Ve,hV9⟩:∃V9,V9=updB Vc 4 (.slice (some ⟨g4,0,none⟩) (k+1) d4):=⟨_,rfl⟩
   obtain⟨Xe,hX9⟩:∃X9,X9=updB Xc 4 (Xc 4++[.bool false]):=⟨_,rfl⟩
   rw[<-hV9,<-hX9] at hA;obtain⟨We,hW9⟩:∃W9,W9=w4.setCell ⟨g,4,none⟩ (.slice (some ⟨g4,0,none⟩) (k+1) d4):=⟨_,rfl⟩
   rw[<-hW9] at hA HBE5 ⊢;have HB5:=zh hA.1;have HX4:=zh hX9;clear hA hV9 hX9 hW9 HB4 HBE4 HOW HV hown4 hgrow4 hat4 hlt4 hob4 r4 z4 q4 c1 c2 c3 c4 c5 c6 c7 f1 f2 f3 f4 f5 f6 f7 hg HLX hgc;have HXE:=zh (show Xe=begX (k+1) 0 by rw[uh HX4,uh HX3,uh HX2,uh HX1]; exact begX_train k 0);go_wp2
   exact⟨⟨k+1,Ve,by omega,by go_num,by rw[<-uh HXE]; exact uh HB5,uh HBE5⟩,by simp[intOf]; omega⟩
  ·have l1:¬(k:Int) < nt:=by omega
   obtain rfl:nt=k:=by omega
   clear hB hbe;go_wp2
   go_loopw [6] (fun i wq=>∃m:Nat,∃V,m<=ns/\i=.int .i64 m/\BM g wq g gp V (begX nt m)/\Below g w1 wq) (fun i _=>ns - (intOf i).toNat)
   case atStart=>exact⟨0,V,Nat.zero_le _,rfl,uh HB1,uh HBE1⟩
   case round=>
    clear HB1 HBE1 k9 hgpl k3;obtain⟨m,V,hm,rfl,hB,hbe⟩:=hrel;have HB5:=zh hB;have HBE5:=zh hbe;have HKZ:=zh (uh HKP wr hbe);obtain⟨vh,vp,vf,va,vk,vw,vs,vj,e,x1,-⟩:=(uh HKZ).at;obtain⟨⟨-,-,-,k3,-⟩,hgpl⟩:=z0k e;obtain⟨as_,cs,hvs,-⟩:=SlAt.open x1;subst hvs;rw[<-(uh HNN).2] at k3;clear e x1;by_cases hlt:m < ns
    ·have l2:(m:Int) < ns:=by omega
     clear hB hbe HKZ;obtain⟨⟨c1,c2,c3,c4,c5,c6,c7⟩,⟨f1,f2,f3,f4,f5,f6,f7⟩,hg⟩:=(uh HB5).cells;obtain⟨av,ev,hv⟩:=z02 ((uh HB5).own 5 (by omega) (by omega));have hlx:((begX nt m) 5).length=m:=(z4i nt m).2.2.2.2.1;rw[hlx] at hv;rw[hv] at c5;have HOW:=zh (show wr.ownsRow g 5 1 (.slice av m ev) m ((begX nt m) 5) from by
      have:=(uh HB5).own 5 (by omega) (by omega);rw[hlx,hv] at this;exact this)
     have HV:=zh hv;have HLX:=zh hlx;have hgc:g<=wr.heap.size:=by omega
     clear hv hlx;go_upto_region 14 with (at_builtin; refine wpList_append_lies _ rfl _ _ 74 rfl g 5 i2 (.int .u8 0) 1 1 Tryz.underlying74 (uh HU).1 (uh HU).2.1 (uh HU).2.2.1 (uh HU).2.2.2 rfl (by decide) (.slice av m ev) m ((begX nt m) 5) rfl (World.ownsRow.alloc (uh HOW) _) ⟨wr.heap.size,0,none⟩ 1 1 [.int .u8 43] rfl rfl (z0q _ _ _) (z0a rfl) (by decide) (by unfold maxLen; omega) (by omega) (by simp; omega) _ rfl ?_; intro g4 d4 w4 hown4 hgrow4 hat4 hlt4; have hob4:=(uh HB5).cell_grown (j:=5) (by omega) (by omega) (by rw[uh HV]; exact hgrow4); have r4:=z07 hob4 5; have z4:=z0c hob4 5; have q4:=z0g hob4)
     have hA:=(uh HB5).app (j:=5) (by omega) (by omega) (m:=m) (uh HLX).symm hown4 (by rw[uh HV]; exact hgrow4) (by rw[uh HV]; exact hat4);have HBE6:=zh ((uh HBE5).trans hA.2);obtain⟨Va,hV9⟩:∃V9,V9=updB V 5 (.slice (some ⟨g4,0,none⟩) (m+1) d4):=⟨_,rfl⟩
     obtain⟨Xa,hX9⟩:∃X9,X9=updB (begX nt m) 5 ((begX nt m) 5++[.int .u8 43]):=⟨_,rfl⟩
     rw[<-hV9,<-hX9] at hA;obtain⟨Wa,hW9⟩:∃W9,W9=w4.setCell ⟨g,5,none⟩ (.slice (some ⟨g4,0,none⟩) (m+1) d4):=⟨_,rfl⟩
     rw[<-hW9] at hA HBE6 ⊢;have HB6:=zh hA.1;have HX5:=zh hX9;clear hA hV9 hX9 hW9 HB5 HBE5 HOW HV hown4 hgrow4 hat4 hlt4 hob4 r4 z4 q4 c1 c2 c3 c4 c5 c6 c7 f1 f2 f3 f4 f5 f6 f7 hg HLX hgc;obtain⟨⟨c1,c2,c3,c4,c5,c6,c7⟩,⟨f1,f2,f3,f4,f5,f6,f7⟩,hg⟩:=(uh HB6).cells;obtain⟨av,ev,hv⟩:=z02 ((uh HB6).own 6 (by omega) (by omega));have hlx:(Xa 6).length=m:=by rw[uh HX5]; exact(z4i nt m).2.2.2.2.2.1
     rw[hlx] at hv;rw[hv] at c6;have HOW:=zh (show Wa.ownsRow g 5 1 (.slice av m ev) m (Xa 6) from by
      have:=(uh HB6).own 6 (by omega) (by omega);rw[hlx,hv] at this;exact this)
     have HV:=zh hv;have HLX:=zh hlx;have hgc:g<=Wa.heap.size:=by omega
     clear hv hlx;go_upto_region 15 with (at_builtin; refine wpList_append_lies _ rfl _ _ 74 rfl g 5 i2 (.int .u8 0) 1 1 Tryz.underlying74 (uh HU).1 (uh HU).2.1 (uh HU).2.2.1 (uh HU).2.2.2 rfl (by decide) (.slice av m ev) m (Xa 6) rfl (World.ownsRow.alloc (uh HOW) _) ⟨Wa.heap.size,0,none⟩ 1 1 [.int .u8 0] rfl rfl (z0q _ _ _) (z0a rfl) (by decide) (by unfold maxLen; omega) (by omega) (by simp; omega) _ rfl ?_; intro g4 d4 w4 hown4 hgrow4 hat4 hlt4; have hob4:=(uh HB6).cell_grown (j:=6) (by omega) (by omega) (by rw[uh HV]; exact hgrow4); have r4:=z07 hob4 6; have z4:=z0c hob4 6; have q4:=z0g hob4)
     have hA:=(uh HB6).app (j:=6) (by omega) (by omega) (m:=m) (uh HLX).symm hown4 (by rw[uh HV]; exact hgrow4) (by rw[uh HV]; exact hat4);have HBE7:=zh ((uh HBE6).trans hA.2);obtain⟨Vb,hV9⟩:∃V9,V9=updB Va 6 (.slice (some ⟨g4,0,none⟩) (m+1) d4):=⟨_,rfl⟩
     obtain⟨Xb,hX9⟩:∃X9,X9=updB Xa 6 (Xa 6++[.int .u8 0]):=⟨_,rfl⟩
     rw[<-hV9,<-hX9] at hA;obtain⟨Wb,hW9⟩:∃W9,W9=w4.setCell ⟨g,6,none⟩ (.slice (some ⟨g4,0,none⟩) (m+1) d4):=⟨_,rfl⟩
     rw[<-hW9] at hA HBE7 ⊢;have HB7:=zh hA.1;have HX6:=zh hX9;clear hA hV9 hX9 hW9 HB6 HBE6 HOW HV hown4 hgrow4 hat4 hlt4 hob4 r4 z4 q4 c1 c2 c3 c4 c5 c6 c7 f1 f2 f3 f4 f5 f6 f7 hg HLX hgc;obtain⟨⟨c1,c2,c3,c4,c5,c6,c7⟩,⟨f1,f2,f3,f4,f5,f6,f7⟩,hg⟩:=(uh HB7).cells;obtain⟨av,ev,hv⟩:=z02 ((uh HB7).own 7 (by omega) (by omega));have hlx:(Xb 7).length=m:=by rw[uh HX6,uh HX5]; exact(z4i nt m).2.2.2.2.2.2
     rw[hlx] at hv;rw[hv] at c7;have HOW:=zh (show Wb.ownsRow g 3 1 (.slice av m ev) m (Xb 7) from by
      have:=(uh HB7).own 7 (by omega) (by omega);rw[hlx,hv] at this;exact this)
     have HV:=zh hv;have HLX:=zh hlx;have hgc:g<=Wb.heap.size:=by omega
     clear hv hlx;go_upto_region 12 with (at_builtin; refine wpList_append_lies _ rfl _ _ 49 rfl g 3 i0 (.int .i64 0) 1 8 Tryz.underlying49 (uh HI).1 (uh HI).2.1 (uh HI).2.2.1 (uh HI).2.2.2 rfl (by decide) (.slice av m ev) m (Xb 7) rfl (World.ownsRow.alloc (uh HOW) _) ⟨Wb.heap.size,0,none⟩ 1 1 [.int .i64 0] rfl rfl (z0q _ _ _) (z0a rfl) (by decide) (by unfold maxLen; omega) (by omega) (by simp; omega) _ rfl ?_; intro g4 d4 w4 hown4 hgrow4 hat4 hlt4; have hob4:=(uh HB7).cell_grown (j:=7) (by omega) (by omega) (by rw[uh HV]; exact hgrow4); have r4:=z07 hob4 7; have z4:=z0c hob4 7; have q4:=z0g hob4)
     have hA:=(uh HB7).app (j:=7) (by omega) (by omega) (m:=m) (uh HLX).symm hown4 (by rw[uh HV]; exact hgrow4) (by rw[uh HV]; exact hat4);have HBE8:=zh ((uh HBE7).trans hA.2);obtain⟨Ve,hV9⟩:∃V9,V9=updB Vb 7 (.slice (some ⟨g4,0,none⟩) (m+1) d4):=⟨_,rfl⟩
     obtain⟨Xe,hX9⟩:∃X9,X9=updB Xb 7 (Xb 7++[.int .i64 0]):=⟨_,rfl⟩
     rw[<-hV9,<-hX9] at hA;obtain⟨We,hW9⟩:∃W9,W9=w4.setCell ⟨g,7,none⟩ (.slice (some ⟨g4,0,none⟩) (m+1) d4):=⟨_,rfl⟩
     rw[<-hW9] at hA HBE8 ⊢;have HB8:=zh hA.1;have HX7:=zh hX9;clear hA hV9 hX9 hW9 HB7 HBE7 HOW HV hown4 hgrow4 hat4 hlt4 hob4 r4 z4 q4 c1 c2 c3 c4 c5 c6 c7 f1 f2 f3 f4 f5 f6 f7 hg HLX hgc;have HXE:=zh (show Xe=begX nt (m+1) by rw[uh HX7,uh HX6,uh HX5]; exact begX_switch nt m);go_wp2
     exact⟨⟨m+1,Ve,by omega,by go_num,by rw[<-uh HXE]; exact uh HB8,uh HBE8⟩,by simp[intOf]; omega⟩
    ·have l2:¬(m:Int) < ns:=by omega
     obtain rfl:ns=m:=by omega
     clear hB hbe;go_wp2
     go_ret
     refine⟨g,rfl,⟨V,by rw[<-(uh HGE).2]; exact uh HB5⟩,⟨_,by rw[<-(uh HGE).2]; exact uh HKZ,fun k hk=>⟨by rw[<-(uh HGE).2]; exact hk.1,by rw[(uh HGE).1]; exact hk.2⟩⟩,?_⟩;exact(uh HB1').trans ((uh HBE5).mono (by rw[(uh HGE).1]; exact(uh HB1').size))
theorem bits_255 (x:Int):∃n:Nat,bits BinOp.and IntKind.i64 x 255=n/\n<=255:=by
 have h:(BitVec.ofInt IntKind.i64.bits x &&& BitVec.ofInt IntKind.i64.bits 255).toNat<=255:=by
  rw[BitVec.toNat_and];exact Nat.le_trans Nat.and_le_right (by decide)
 refine⟨_,?_,h⟩;show IntKind.i64.wrap ((BitVec.ofInt IntKind.i64.bits x &&& BitVec.ofInt IntKind.i64.bits 255).toNat:Int)=_;exact Go.IntWalk.i64_in _ (by omega)
theorem bits_minus:bits BinOp.and IntKind.i64 (-1) 1=1:=by decide
theorem slow_lt (x:Int) (T:Nat) (hT:1<=T):∃n:Nat,(bits BinOp.and IntKind.i64 x 255).tmod (T:Int)=n/\n < T:=by
 obtain⟨n,hn,-⟩:=bits_255 x;rw[hn];refine⟨n % T,(Int.ofNat_tmod n T).symm,Nat.mod_lt _ hT⟩
theorem KRun.hear {n:Nat} {w0 w:World} {D R:Nat->Prop} {gb gp:Nat} {L:Lay} {C:RBx} (h:KRun n w0 w D R gb gp L C) {s:ByteArray} (hf:C.L.frameB s=true):HearOK C.L s (laS C s) (moS C s) (anS C s) (grS C s):=by
 obtain⟨B,-,hs,hi⟩:=h.box;exact hearOK hs hi (by rw[h.eL]; exact h.sg) h.wt s hf
def reqT (ask:Nat->Bool) (k:Nat):List Nat:=(List.range k).flatMap (fun t=>if ask t then [114,49+t] else [])
theorem z5v (ask:Nat->Bool) (k:Nat):reqT ask (k+1)=reqT ask k++(if ask k then [114,49+k] else []):=by
 unfold reqT;rw[List.range_succ,List.flatMap_append];simp
theorem reqT_len (ask:Nat->Bool):∀k,(reqT ask k).length<=2*k
 | 0=>Nat.le_refl _
 | k+1=>by
  have:=reqT_len ask k;rw[z5v,List.length_append];split <;> simp <;> omega
def Wd.moveN (W:Wd) (L:Lay) (lm:ByteArray) (go:Nat->Bool):Nat->Wd
 | 0=>W
 | k+1=>if go k then (W.moveN L lm go k).move L k lm else W.moveN L lm go k
def frW (W:Wd) (L:Lay) (ask:Nat->Bool) (k:Nat):ByteArray:=z0i (W.frameT L++reqT ask k)
theorem KRun.onlyF {n:Nat} {w0 w w':World} {D R F:Nat->Prop} {gb gp:Nat} {L:Lay} {C:RBx} (h:KRun n w0 w D R gb gp L C) (ho:Only F w w') (hD:∀k,D k->¬F k) (hR:∀k,R k->¬F k) (hF:∀k,F k->n<=k) (hnw:n<=w0.heap.size):KRun n w0 w' D R gb gp L C:=
 ⟨h.box.only ho hD,h.plan.only ho hR,h.ap,h.dn,h.eL,h.sg,h.wt,h.be.trans (ho.belowK hF (h.nw hnw))⟩
theorem WAt.lt {w:World} {g gp nt ns:Nat} {B:WB} {W:Wd} (h:WAt w g gp nt ns B W):∀b,b∈g :: B.bs->b < w.heap.size:=by
 intro b hb;rcases List.mem_cons.1 hb with rfl | hb
 ·exact z0g h.obj
 ·simp only[WB.bs,List.mem_cons,List.not_mem_nil,or_false] at hb
  rcases hb with rfl | rfl | rfl | rfl | rfl | rfl | rfl
  ·exact(h.d.lt _ rfl).2
  ·exact(h.h.lt _ rfl).2
  ·exact(h.t.lt _ rfl).2
  ·exact(h.gn.lt _ rfl).2
  ·exact(h.l.lt _ rfl).2
  ·exact(h.o.lt _ rfl).2
  ·exact(h.f.lt _ rfl).2
def Off (D:Nat->Prop) (g:Nat) (B:WB):Prop:=∀b,b∈g :: B.bs->¬D b
def Wd.turned (W:Wd) (L:Lay) (C:RBx) (F:ByteArray) (slow:Nat):Wd:=(W.tickN L (z03 0 L.sw).length).turnN L (moS C F) slow (z03 0 L.sw).length
structure RoundOK (C:RBx) (W:Wd) (L:Lay) (ask go:Nat->Bool) (slow:Nat):Prop where
 ok:∀t,t < L.tns.length->WOK L W t
 lb:∀s,W.left.getD s 0<=1000
 fr:C.L.frameB (frW W L ask L.tns.length)=true
 tn:∀k,k < (z03 0 L.sw).length->pk (moS C (frW W L ask L.tns.length)) k=46\/pk (moS C (frW W L ask L.tns.length)) k=((W.tickN L (z03 0 L.sw).length).turnN L (moS C (frW W L ask L.tns.length)) slow k).aim.getD ((z03 0 L.sw).getD k 0) 0\/W.takenB L ((z03 0 L.sw).getD k 0)=false
 mv:∀t,t < L.tns.length->go t=true->(∀u,u < L.tns.length->WOK L ((W.turned L C (frW W L ask L.tns.length) slow).moveN L (laS C (frW W L ask L.tns.length)) go t) u) ∧
  (((W.turned L C (frW W L ask L.tns.length) slow).moveN L (laS C (frW W L ask L.tns.length)) go t).done.getD t 0 < (L.tn t).jny.length->((W.turned L C (frW W L ask L.tns.length) slow).moveN L (laS C (frW W L ask L.tns.length)) go t).head.getD t 0 < 0->pk (laS C (frW W L ask L.tns.length)) (((W.turned L C (frW W L ask L.tns.length) slow).moveN L (laS C (frW W L ask L.tns.length)) go t).rt L t)=103 →
    ({ (W.turned L C (frW W L ask L.tns.length) slow).moveN L (laS C (frW W L ask L.tns.length)) go t with tail:=((W.turned L C (frW W L ask L.tns.length) slow).moveN L (laS C (frW W L ask L.tns.length)) go t).tail.set t (-1) }:Wd).entOK L t 0) ∧
  (((W.turned L C (frW W L ask L.tns.length) slow).moveN L (laS C (frW W L ask L.tns.length)) go t).done.getD t 0 < (L.tn t).jny.length->0<=((W.turned L C (frW W L ask L.tns.length) slow).moveN L (laS C (frW W L ask L.tns.length)) go t).head.getD t 0->((W.turned L C (frW W L ask L.tns.length) slow).moveN L (laS C (frW W L ask L.tns.length)) go t).tail.getD t 0=((W.turned L C (frW W L ask L.tns.length) slow).moveN L (laS C (frW W L ask L.tns.length)) go t).head.getD t 0 →
    (((W.turned L C (frW W L ask L.tns.length) slow).moveN L (laS C (frW W L ask L.tns.length)) go t).head.getD t 0).toNat+1 < ((W.turned L C (frW W L ask L.tns.length) slow).moveN L (laS C (frW W L ask L.tns.length)) go t).plen L t/\((W.turned L C (frW W L ask L.tns.length) slow).moveN L (laS C (frW W L ask L.tns.length)) go t).entOK L t ((((W.turned L C (frW W L ask L.tns.length) slow).moveN L (laS C (frW W L ask L.tns.length)) go t).head.getD t 0).toNat+1))
def askC (c:Int) (t:Nat):Bool:=bits BinOp.and IntKind.i64 (c / 2 ^ (5+t)) 1==1
def goC (c:Int) (t:Nat):Bool:=bits BinOp.and IntKind.i64 (c / 2 ^ t) 1==1
set_option maxRecDepth 100000 in
set_option maxHeartbeats 16000000 in
theorem wround_some {n:Nat} {w0 w:World} {D R:Nat->Prop} {gb gp g nt ns:Nat} {B:WB} {W:Wd} {L:Lay} {C:RBx} (h:KRun n w0 w D R gb gp L C) (hnw:n<=w0.heap.size) (hW:WAt w g gp nt ns B W) (hL:LayK L) (hro:∀r,r < L.rts.length->RtOK L (L.rt r)) (hnt:nt=L.tns.length) (hns:ns=L.sw.length)
  (hfb:∀b,b∈g :: B.bs->¬D b/\¬R b/\n<=b) (c:Int) (_hc:-9223372036854775808<=c/\c<=9223372036854775807) (slow:Nat) (hsl:(bits BinOp.and IntKind.i64 (c / 1024) 255).tmod (L.T:Int)=slow) (hR:RoundOK C W L (askC c) (goC c) slow) :
  Calls Tryz.prog 26 #[.pointer (some ⟨g,0,none⟩),.pointer (some ⟨gb,0,none⟩),.int .i64 c,.bool false] w fun e w'=>e=.returned (.bool true)/\∃D',KRun n w0 w' D' R gb gp L (C.cyc (frW W L (askC c) L.tns.length)) ∧
   WAt w' g gp nt ns B ((W.turned L C (frW W L (askC c) L.tns.length) slow).moveN L (laS C (frW W L (askC c) L.tns.length)) (goC c) L.tns.length)/\Off D' g B:=by
 have hi:=h.box.inv;have hT:=hi.lay.T;rw[h.eL] at hT;have hsw:=hi.lay.sw;rw[h.eL] at hsw;have htn:=hL.tn;have HKW:=zh (show ∀wz,Only (WF g B) w wz->KRun n w0 wz D R gb gp L C from fun wz hz=>h.onlyF hz (fun k hk hf=>(hfb k hf).1 hk) (fun k hk hf=>(hfb k hf).2.1 hk) (fun k hk=>(hfb k hk).2.2) hnw);have HFR:=zh (wframe_any g gp nt ns B W L w hW (fun wz hz=>(uh HKW wz hz).plan.at) hL hnt hns (by omega) (fun u hu=>hR.ok u (by omega)) hR.lb);obtain⟨⟨o0,-⟩,hg⟩:=hW.cells;obtain⟨vh,vp,vf,va,vk,vw,vs,vj,e,-⟩:=h.plan.at;obtain⟨⟨c0,-⟩,hgp⟩:=z0k e;have HW:=zh hW;have HFB:=zh hfb;have HRO:=zh hR;have HLK:=zh hL;have HRR:=zh hro;have HK:=zh h;have HNT:=zh (And.intro hnt hns);obtain⟨T,hTe⟩:∃T,T=L.T:=⟨_,rfl⟩
 rw[<-hTe] at c0 hT hsl;have t1:((T:Int)==0)=false:=by simp; omega
 have t2:(T:Int)≠0:=by omega
 have hsT:slow < T:=by
  obtain⟨m,h1,h2⟩:=slow_lt (c / 1024) T (by omega);rw[h1] at hsl;omega
 have HN5:=zh (show nt<=5 by have:=hi.lay.good.tns; rw[h.eL] at this; omega);have HFL:=zh (show (W.frameT L).length<=100 by
  unfold Wd.frameT;rw[List.length_append,occN_len,repN_len];have h2:=z44 L.sw 0;have h3:cntT L.sw<=L.sw.length:=by unfold cntT; exact List.length_filter_le _ _
  omega)
 rw[<-hnt] at htn;clear hTe hW e h hR hL hro hi hsw hfb hnt hns;go_enter Tryz.func26,Tryz.ntmps26
 go_wp2_with fail
 refine(uh HFR).mono ?_;rintro e w1 ⟨rfl,hW1,ho1⟩;have HW1:=zh hW1;have HO1:=zh ho1;have HFS:=zh (show z0i (W.frameT L)=frW W L (askC c) 0 by unfold frW reqT; simp);rw[uh HFS];obtain⟨⟨o0,o1,o2,o3,o4,-⟩,hg⟩:=hW1.cells;clear hW1 ho1 HFR c0 hgp HFS;go_wp2
 go_loopw [10,11] (fun f i wr=>∃k:Nat,∃t:ByteArray,k<=nt/\i=.int .i64 k/\f=.string t/\t=frW W L (askC c) k/\Below w1.heap.size w1 wr) (fun _ i _=>nt - (intOf i).toNat)
 case atStart=>exact⟨0,_,Nat.zero_le _,rfl,rfl,rfl,Below.refl _ _⟩
 case round=>
  obtain⟨k,t,hk,rfl,rfl,ht,hbr⟩:=hrel;have HBR:=zh hbr;have HT:=zh ht;have hWr:=(uh HW1).below hbr;obtain⟨⟨p0,p1,p2,p3,p4,-⟩,pg⟩:=hWr.cells;by_cases hlt:k < nt
  ·have l1:(k:Int) < nt:=by omega
   obtain⟨j,hj⟩:∃j,j=5+k:=⟨_,rfl⟩
   have e5:(5:Int)+(k:Int)=j:=by omega
   have j0:(0:Int)<=j:=by omega
   have j64:(j:Int)<=64:=by have:=uh HN5; omega
   obtain⟨bv,hbv⟩:∃b,bits BinOp.and IntKind.i64 (c / 2 ^ j) 1=b:=⟨_,rfl⟩
   have hak:askC c k=(bv==1):=by unfold askC; rw[<-hj,hbv]
   have HNX:=zh (show frW W L (askC c) (k+1)=if bv==1 then (t++⟨#[114]⟩)++⟨#[UInt8.ofNat (49+k)]⟩ else t by
    unfold frW;rw[z5v,hak,<-List.append_assoc];have ht2:z0i (W.frameT L++reqT (askC c) k)=t:=ht.symm;by_cases e:(bv==1)=true
    ·rw[if_pos e,if_pos e,<-ht2,show [114,49+k]=[114]++[49+k] from rfl,<-List.append_assoc,z1v,z1v]
     rfl
    ·rw[if_neg e,if_neg e,List.append_nil,ht2])
   have hts:t.size<=1000:=by
    rw[ht]; unfold frW;rw[z0s,List.length_append];have h1:=reqT_len (askC c) k;have h2:=uh HFL;omega
   have kc:=Tryz.oneStr;have u1:=wrap8 (49+(k:Int)) (by omega) (by have:=uh HN5; omega);have u2:(49+(k:Int)).toNat=49+k:=by omega
   clear hbr ht hWr o0 o1 o2 o3 o4 hg hj hak;by_cases hb1:bv=1
   ·have HN2:=zh (show frW W L (askC c) (k+1)=(t++⟨#[114]⟩)++⟨#[UInt8.ofNat (49+k)]⟩ by rw[uh HNX,if_pos (by simpa using hb1)])
    subst hb1;clear HNX;go_wp2
    refine⟨⟨k+1,_,by omega,by go_num,rfl,?_,(uh HBR).trans ((z01 _ _).mono (uh HBR).size)⟩,by simp[intOf]; omega⟩;rw[uh HN2]
    first
     | rfl
     | simp
     | (rw[u2])
   ·have HN2:=zh (show frW W L (askC c) (k+1)=t by rw[uh HNX,if_neg (by simpa using hb1)])
    have b1:(bv==1)=false:=by simpa using hb1
    clear HNX;go_wp2
    exact⟨⟨k+1,t,by omega,by go_num,rfl,by rw[uh HN2],uh HBR⟩,by simp[intOf]; omega⟩
  ·have l1:¬(k:Int) < nt:=by omega
   have hke:k=L.tns.length:=by rw[<-(uh HNT).1]; omega
   rw[hke] at ht;subst ht;have HWr:=zh hWr;have hKr:=(uh HKW w1 (uh HO1)).below hbr hnw;have HKr:=zh hKr;have HC:=zh (hKr.cyc hnw (frW W L (askC c) L.tns.length));have hszF:(frW W L (askC c) L.tns.length).size<=maxLen:=by
    unfold frW maxLen;rw[z0s,List.length_append];have h1:=reqT_len (askC c) L.tns.length;have h2:=uh HFL;have h3:=uh HN5;have h4:=(uh HNT).1;omega
   have HSZ:=zh hszF;have HF:=zh (uh HRO).fr;have HHE:=zh (hKr.hear (uh HRO).fr);have HRT:=zh (uh HRO).tn;have HRM:=zh (uh HRO).mv;have HOK:=zh (uh HRO).ok;obtain⟨F,hFe⟩:∃F,F=frW W L (askC c) L.tns.length:=⟨_,rfl⟩
   have HFE:=zh hFe;rw[<-hFe] at HC HSZ HF HHE HRT HRM ⊢;clear hFe;clear hbr hWr hKr hszF o0 o1 o2 o3 o4 hg hke HRO HT;go_wp2_with fail
   refine(uh HC).mono ?_;rintro e w2 ⟨rfl,hK2,ho2⟩;have HK2:=zh hK2;have hW2:=(uh HWr).only ho2 (fun b hb=>((uh HFB) b hb).1);have hdl:∀b,b∈g :: B.bs->¬grow D wr w2 b:=fun b hb hd=>by
    rcases hd with hd | hd
    ·exact((uh HFB) b hb).1 hd
    ·have:=(uh HWr).lt b hb; omega
   have HDL:=zh hdl;have HW2:=zh hW2;obtain⟨⟨o0,-⟩,hg⟩:=hW2.cells;have HH:=zh (khear_any (w:=w2) (uh HKr) hK2.plan.at F (uh HSZ));clear hK2 ho2 hW2 hdl HC p0 p1 p2 p3 p4 pg;go_wp2_with fail
   refine(uh HH).mono ?_;rintro e w3 hH;rcases hH with ⟨-,gh,rfl,hgh,hho,hb3⟩ | ⟨hf,-,-⟩
   case inr=>rw[uh HF] at hf; cases hf
   have HK3:=zh ((uh HK2).below hb3 hnw);have hW3:=(uh HW2).below hb3;have HW3:=zh hW3;have HHO:=zh hho;have HKZ:=zh (show ∀wz,Only (WF g B) w3 wz->KRun n w0 wz (grow D wr w2) R gb gp L (C.cyc F) from fun wz hz=>(uh HK3).onlyF hz (fun k hk hf=>uh HDL k hf hk) (fun k hk hf=>((uh HFB) k hf).2.1 hk) (fun k hk=>((uh HFB) k hk).2.2) hnw);have HGH:=zh (show ¬WF g B gh from fun hf=>by have:=(uh HW2).lt gh hf; omega);have HHZ:=zh (fun (wz:World) (hz:Only (WF g B) w3 wz)=>(hz.block gh (z0g (uh HHO)) (uh HGH)).trans (uh HHO));have hsw:L.sw.length<=100:=by have:=(uh HK3).box.inv.lay.sw; rw[(uh HK3).eL] at this; omega
   have hmz:(moS C F).size=(z03 0 L.sw).length:=by have:=(uh HHE).s1; rw[(uh HKr).eL] at this; rw[this,z44]
   have hlz:(laS C F).size=L.rts.length:=by have:=(uh HHE).s0; rw[(uh HKr).eL] at this; exact this
   have HTU:=zh (wturn_yes g gp nt ns B (W.tickN L (z03 0 L.sw).length) L (moS C F) slow w3 hW3 (fun wz hz=>(uh HKZ wz hz).plan.at) (uh HLK) (uh HNT).1 (uh HNT).2 hsw (fun u hu=>(z2y W L _).ok (uh HOK u (by rw[<-(uh HNT).1]; exact hu))) hmz (fun k hk=>by
    rw[SameT.taken (z2y W L _)]; exact uh HRT k hk))
   change Hid (Calls _ _ _ _ (fun e w'=>e=.returned (.bool true)/\WAt w' g gp nt ns B (W.turned L C F slow)/\Only (WF g B) w3 w')) at HTU;obtain⟨⟨-,y1,-⟩,hghl⟩:=z2e hho;clear hho hb3 hW3 HH o0 hg hsw hmz;go_wp2_with fail
   refine(uh HTU).mono ?_;rintro e w4 ⟨rfl,hW4,ho4⟩;have HW4:=zh hW4;have HO4:=zh ho4;have HLZ:=zh hlz;obtain⟨WT,hWT⟩:∃X,X=W.turned L C F slow:=⟨_,rfl⟩
   have HWT:=zh hWT;rw[<-hWT] at HW4 HRM;clear hWT;clear hW4 ho4 HTU y1 hghl hlz;go_wp2
   go_loopw [14,15] (fun ok i wq=>∃j:Nat,ok=.bool true/\i=.int .i64 j/\j<=nt/\Only (WF g B) w3 wq/\WAt wq g gp nt ns B (WT.moveN L (laS C F) (goC c) j)) (fun _ i _=>nt - (intOf i).toNat)
   case atStart=>exact⟨0,rfl,rfl,Nat.zero_le _,uh HO4,uh HW4⟩
   case round=>
    clear HW4 HO4;obtain⟨j,rfl,rfl,hj,hoq,hWq⟩:=hrel;have HOQ:=zh hoq;have HWQ:=zh hWq;obtain⟨⟨q0,q1,q2,q3,q4,-⟩,qg⟩:=hWq.cells;by_cases hjt:j < nt
    ·have hjL:j < L.tns.length:=by rw[<-(uh HNT).1]; exact hjt
     have l2:(j:Int) < nt:=by omega
     have l3:(0:Int)<=j:=by omega
     have l4:(j:Int)<=64:=by have:=uh HN5; omega
     obtain⟨bv,hbv⟩:∃b,bits BinOp.and IntKind.i64 (c / 2 ^ j) 1=b:=⟨_,rfl⟩
     have hgk:goC c j=(bv==1):=by unfold goC; rw[hbv]
     obtain⟨⟨y0,-⟩,hghl⟩:=z2e (uh HHZ wr hoq);by_cases hb1:bv=1
     ·have hgt:goC c j=true:=by rw[hgk]; simpa using hb1
      obtain⟨m1,m2,m3⟩:=uh HRM j hjL hgt;have HNX:=zh (show WT.moveN L (laS C F) (goC c) (j+1)=(WT.moveN L (laS C F) (goC c) j).move L j (laS C F) by
       show (if goC c j then _ else _)=_;rw[if_pos hgt])
      have HMV:=zh (wmove_yes g gp nt ns B (WT.moveN L (laS C F) (goC c) j) L j (laS C F) wr hWq (fun wz hz=>(uh HKZ wz (hoq.trans hz)).plan.at) (uh HLK) (uh HRR) (uh HNT).1 (uh HNT).2 hjt (fun u hu=>m1 u (by rw[<-(uh HNT).1]; exact hu)) (uh HLZ) m2 m3);rw[<-uh HNX] at HMV;subst hb1;clear hoq hWq hgk hgt m1 m2 m3 HNX;go_wp2_with fail
      refine(uh HMV).mono ?_;rintro e w5 ⟨rfl,hW5,ho5⟩;have HF5:=zh (And.intro hW5 ((uh HOQ).trans ho5));clear hW5 ho5;go_wp2
      exact⟨⟨j+1,rfl,by go_num,by omega,(uh HF5).2,(uh HF5).1⟩,by simp[intOf]; omega⟩
     ·have hgt:goC c j=false:=by rw[hgk]; simpa using hb1
      have b1:(bv==1)=false:=by simpa using hb1
      have HNX:=zh (show WT.moveN L (laS C F) (goC c) (j+1)=WT.moveN L (laS C F) (goC c) j by
       show (if goC c j then _ else _)=_;rw[if_neg (by rw[hgt]; decide)])
      clear hoq hWq hgk hgt;go_wp2
      exact⟨⟨j+1,rfl,by go_num,by omega,uh HOQ,by rw[uh HNX]; exact uh HWQ⟩,by simp[intOf]; omega⟩
    ·have l2:¬(j:Int) < nt:=by omega
     have HFI:=zh (show ∃D',KRun n w0 wr D' R gb gp L (C.cyc F)/\WAt wr g gp nt ns B (WT.moveN L (laS C F) (goC c) L.tns.length)/\Off D' g B from by
      have hje:j=L.tns.length:=by rw[<-(uh HNT).1]; omega
      rw[<-hje];exact⟨_,uh HKZ wr hoq,hWq,uh HDL⟩)
     rw[uh HWT,uh HFE] at HFI;clear hoq hWq;go_wp2
     go_ret
     exact⟨rfl,uh HFI⟩
end Go.Proofs.YtkbpocecbcaiiabGreatDoor
