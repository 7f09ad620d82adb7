import Derived.Test.YtkbpocecbcaiiabGreatDoorO53
namespace Go.Proofs.YtkbpocecbcaiiabGreatDoor
open Go.RowKit
theorem neg_div (m:Int) (h:0 < m):(-1:Int) / m=-1:=by
 have h1:=Int.mul_ediv_add_emod (-1) m;have h2:=Int.emod_nonneg (-1) (show m≠0 by omega);have h3:=Int.emod_lt_of_pos (-1) h;generalize (-1:Int) / m=q at *;generalize (-1:Int) % m=r at *;by_cases hq:q < 0
 ·by_cases hq2:q < -1
  ·exfalso
   have:m*q<=m*(-2):=Int.mul_le_mul_of_nonneg_left (by omega) (by omega);omega
  ·omega
 ·exfalso
  have:0<=m*q:=Int.mul_nonneg (by omega) (by omega);omega
theorem neg_shift (j:Nat):(-1:Int) / 2 ^ j=-1:=neg_div _ (by
 have:(0:Int) < 2:=by decide
 exact Int.pow_pos this)
set_option maxRecDepth 100000 in
set_option maxHeartbeats 16000000 in
theorem wround_calm {n:Nat} {w0 w:World} {D R:Nat->Prop} {gb gp g nt ns:Nat} {B:WB} {W:Wd} {L:Lay} {C:RBx} (h:KRun n w0 w D R gb gp L C) (hnw:n<=w0.heap.size) (hW:WAt w g gp nt ns B W) (hL:LayK L) (hro:∀r,r < L.rts.length->RtOK L (L.rt r)) (hnt:nt=L.tns.length) (hns:ns=L.sw.length)
  (hfb:∀b,b∈g :: B.bs->¬D b/\¬R b/\n<=b) (c:Int) (_hc:-9223372036854775808<=c/\c<=9223372036854775807) (hR:RoundOK C W.hurry L (fun _=>true) (fun _=>true) 0) :
  Calls Tryz.prog 26 #[.pointer (some ⟨g,0,none⟩),.pointer (some ⟨gb,0,none⟩),.int .i64 c,.bool true] w fun e w'=>e=.returned (.bool true)/\∃D',KRun n w0 w' D' R gb gp L (C.cyc (frW W.hurry L (fun _=>true) L.tns.length)) ∧
   WAt w' g gp nt ns B ((W.hurry.turned L C (frW W.hurry L (fun _=>true) L.tns.length) 0).moveN L (laS C (frW W.hurry L (fun _=>true) L.tns.length)) (fun _=>true) L.tns.length)/\Off D' g B:=by
 have hi:=h.box.inv;have hT:=hi.lay.T;rw[h.eL] at hT;have hsw:=hi.lay.sw;rw[h.eL] at hsw;have htn:=hL.tn;have HKW:=zh (show ∀wz,Only (WF g B) w wz->KRun n w0 wz D R gb gp L C from fun wz hz=>h.onlyF hz (fun k hk hf=>(hfb k hf).1 hk) (fun k hk hf=>(hfb k hf).2.1 hk) (fun k hk=>(hfb k hk).2.2) hnw);have HHU:=zh (whurry_any g gp nt ns B W w hW (by omega));obtain⟨Wh,hWh⟩:∃X,X=W.hurry:=⟨_,rfl⟩
 rw[<-hWh] at hR HHU ⊢;have HFR:=zh (fun (wz:World) (hz:Only (WF g B) w wz) (hWz:WAt wz g gp nt ns B Wh)=>wframe_any g gp nt ns B Wh L wz hWz (fun wy hy=>(uh HKW wy (hz.trans hy)).plan.at) hL hnt hns (by omega) (fun u hu=>hR.ok u (by omega)) hR.lb);obtain⟨⟨o0,-⟩,hg⟩:=hW.cells;obtain⟨vh,vp,vf,va,vk,vw,vs,vj,e,-⟩:=h.plan.at;obtain⟨⟨c0,-⟩,hgp⟩:=z0k e;have HW:=zh hW;have HFB:=zh hfb;have HRO:=zh hR;have HLK:=zh hL;have HRR:=zh hro;have HK:=zh h;have HNT:=zh (And.intro hnt hns);obtain⟨T,hTe⟩:∃T,T=L.T:=⟨_,rfl⟩
 rw[<-hTe] at c0 hT;have t1:((T:Int)==0)=false:=by simp; omega
 have t2:(T:Int)≠0:=by omega
 have HN5:=zh (show nt<=5 by have:=hi.lay.good.tns; rw[h.eL] at this; omega);have HFL:=zh (show (Wh.frameT L).length<=100 by
  unfold Wd.frameT;rw[List.length_append,occN_len,repN_len];have h2:=z44 L.sw 0;have h3:cntT L.sw<=L.sw.length:=by unfold cntT; exact List.length_filter_le _ _
  omega)
 rw[<-hnt] at htn;have b9:=bits_minus;clear hTe hW e h hR hL hro hi hsw hfb hnt hns hWh;go_enter Tryz.func26,Tryz.ntmps26
 go_wp2_with fail
 refine(uh HHU).mono ?_;rintro e w9 ⟨rfl,hW9,ho9⟩;have HFR9:=zh (uh HFR w9 ho9 hW9);have HO9:=zh ho9;clear hW9 ho9 HFR HHU o0 hg c0 hgp;go_wp2_with fail
 refine(uh HFR9).mono ?_;rintro e w1 ⟨rfl,hW1,ho19⟩;have ho1:=(uh HO9).trans ho19;clear ho19;have HW1:=zh hW1;have HO1:=zh ho1;have HFS:=zh (show z0i (Wh.frameT L)=frW Wh L (fun _=>true) 0 by unfold frW reqT; simp);rw[uh HFS];obtain⟨⟨o0,o1,o2,o3,o4,-⟩,hg⟩:=hW1.cells;clear hW1 ho1 HFR9 HFS;go_wp2
 go_loopw [10,11] (fun f i wr=>∃k:Nat,∃t:ByteArray,k<=nt/\i=.int .i64 k/\f=.string t/\t=frW Wh L (fun _=>true) k/\Below w1.heap.size w1 wr) (fun _ i _=>nt - (intOf i).toNat)
 case atStart=>exact⟨0,_,Nat.zero_le _,rfl,rfl,rfl,Below.refl _ _⟩
 case round=>
  obtain⟨k,t,hk,rfl,rfl,ht,hbr⟩:=hrel;have HBR:=zh hbr;have HT:=zh ht;have hWr:=(uh HW1).below hbr;obtain⟨⟨p0,p1,p2,p3,p4,-⟩,pg⟩:=hWr.cells;by_cases hlt:k < nt
  ·have l1:(k:Int) < nt:=by omega
   obtain⟨j,hj⟩:∃j,j=5+k:=⟨_,rfl⟩
   have e5:(5:Int)+(k:Int)=j:=by omega
   have j0:(0:Int)<=j:=by omega
   have j64:(j:Int)<=64:=by have:=uh HN5; omega
   have HN2:=zh (show frW Wh L (fun _=>true) (k+1)=(t++⟨#[114]⟩)++⟨#[UInt8.ofNat (49+k)]⟩ by
    unfold frW;rw[z5v,<-List.append_assoc,if_pos rfl];have ht2:z0i (Wh.frameT L++reqT (fun _=>true) k)=t:=ht.symm;rw[<-ht2,show [114,49+k]=[114]++[49+k] from rfl,<-List.append_assoc,z1v,z1v];rfl)
   have sh:(-1:Int) / 2 ^ j=-1:=neg_shift j;have hts:t.size<=1000:=by
    rw[ht]; unfold frW;rw[z0s,List.length_append];have h1:=reqT_len (fun _=>true) k;have h2:=uh HFL;omega
   have kc:=Tryz.oneStr;have u1:=wrap8 (49+(k:Int)) (by omega) (by have:=uh HN5; omega);have u2:(49+(k:Int)).toNat=49+k:=by omega
   clear hbr ht hWr o0 o1 o2 o3 o4 hg hj;go_wp2
   refine⟨⟨k+1,_,by omega,by go_num,rfl,?_,(uh HBR).trans ((z01 _ _).mono (uh HBR).size)⟩,by simp[intOf]; omega⟩;rw[uh HN2]
   first
    | rfl
    | simp
    | (rw[u2])
  ·have l1:¬(k:Int) < nt:=by omega
   have hke:k=L.tns.length:=by rw[<-(uh HNT).1]; omega
   rw[hke] at ht;subst ht;have HWr:=zh hWr;have hKr:=(uh HKW w1 (uh HO1)).below hbr hnw;have HKr:=zh hKr;have HC:=zh (hKr.cyc hnw (frW Wh L (fun _=>true) L.tns.length));have hszF:(frW Wh L (fun _=>true) L.tns.length).size<=maxLen:=by
    unfold frW maxLen;rw[z0s,List.length_append];have h1:=reqT_len (fun _=>true) L.tns.length;have h2:=uh HFL;have h3:=uh HN5;have h4:=(uh HNT).1;omega
   have HSZ:=zh hszF;have HF:=zh (uh HRO).fr;have HHE:=zh (hKr.hear (uh HRO).fr);have HRT:=zh (uh HRO).tn;have HRM:=zh (uh HRO).mv;have HOK:=zh (uh HRO).ok;obtain⟨F,hFe⟩:∃F,F=frW Wh L (fun _=>true) L.tns.length:=⟨_,rfl⟩
   have HFE:=zh hFe;rw[<-hFe] at HC HSZ HF HHE HRT HRM ⊢;clear hFe;clear hbr hWr hKr hszF o0 o1 o2 o3 o4 hg hke HRO HT;go_wp2_with fail
   refine(uh HC).mono ?_;rintro e w2 ⟨rfl,hK2,ho2⟩;have HK2:=zh hK2;have hW2:=(uh HWr).only ho2 (fun b hb=>((uh HFB) b hb).1);have hdl:∀b,b∈g :: B.bs->¬grow D wr w2 b:=fun b hb hd=>by
    rcases hd with hd | hd
    ·exact((uh HFB) b hb).1 hd
    ·have:=(uh HWr).lt b hb; omega
   have HDL:=zh hdl;have HW2:=zh hW2;obtain⟨⟨o0,-⟩,hg⟩:=hW2.cells;have HH:=zh (khear_any (w:=w2) (uh HKr) hK2.plan.at F (uh HSZ));clear hK2 ho2 hW2 hdl HC p0 p1 p2 p3 p4 pg;go_wp2_with fail
   refine(uh HH).mono ?_;rintro e w3 hH;rcases hH with ⟨-,gh,rfl,hgh,hho,hb3⟩ | ⟨hf,-,-⟩
   case inr=>rw[uh HF] at hf; cases hf
   have HK3:=zh ((uh HK2).below hb3 hnw);have hW3:=(uh HW2).below hb3;have HW3:=zh hW3;have HHO:=zh hho;have HKZ:=zh (show ∀wz,Only (WF g B) w3 wz->KRun n w0 wz (grow D wr w2) R gb gp L (C.cyc F) from fun wz hz=>(uh HK3).onlyF hz (fun k hk hf=>uh HDL k hf hk) (fun k hk hf=>((uh HFB) k hf).2.1 hk) (fun k hk=>((uh HFB) k hk).2.2) hnw);have HGH:=zh (show ¬WF g B gh from fun hf=>by have:=(uh HW2).lt gh hf; omega);have HHZ:=zh (fun (wz:World) (hz:Only (WF g B) w3 wz)=>(hz.block gh (z0g (uh HHO)) (uh HGH)).trans (uh HHO));have hsw:L.sw.length<=100:=by have:=(uh HK3).box.inv.lay.sw; rw[(uh HK3).eL] at this; omega
   have hmz:(moS C F).size=(z03 0 L.sw).length:=by have:=(uh HHE).s1; rw[(uh HKr).eL] at this; rw[this,z44]
   have hlz:(laS C F).size=L.rts.length:=by have:=(uh HHE).s0; rw[(uh HKr).eL] at this; exact this
   have HTU:=zh (wturn_yes g gp nt ns B (Wh.tickN L (z03 0 L.sw).length) L (moS C F) 0 w3 hW3 (fun wz hz=>(uh HKZ wz hz).plan.at) (uh HLK) (uh HNT).1 (uh HNT).2 hsw (fun u hu=>(z2y Wh L _).ok (uh HOK u (by rw[<-(uh HNT).1]; exact hu))) hmz (fun k hk=>by
    rw[SameT.taken (z2y Wh L _)]; exact uh HRT k hk))
   change Hid (Calls _ _ _ _ (fun e w'=>e=.returned (.bool true)/\WAt w' g gp nt ns B (Wh.turned L C F 0)/\Only (WF g B) w3 w')) at HTU;obtain⟨⟨-,y1,-⟩,hghl⟩:=z2e hho;clear hho hb3 hW3 HH o0 hg hsw hmz;go_wp2_with fail
   refine(uh HTU).mono ?_;rintro e w4 ⟨rfl,hW4,ho4⟩;have HW4:=zh hW4;have HO4:=zh ho4;have HLZ:=zh hlz;obtain⟨WT,hWT⟩:∃X,X=Wh.turned L C F 0:=⟨_,rfl⟩
   have HWT:=zh hWT;rw[<-hWT] at HW4 HRM;clear hWT;clear hW4 ho4 HTU y1 hghl hlz;go_wp2
   go_loopw [14,15] (fun ok i wq=>∃j:Nat,ok=.bool true/\i=.int .i64 j/\j<=nt/\Only (WF g B) w3 wq/\WAt wq g gp nt ns B (WT.moveN L (laS C F) (fun _=>true) j)) (fun _ i _=>nt - (intOf i).toNat)
   case atStart=>exact⟨0,rfl,rfl,Nat.zero_le _,uh HO4,uh HW4⟩
   case round=>
    clear HW4 HO4;obtain⟨j,rfl,rfl,hj,hoq,hWq⟩:=hrel;have HOQ:=zh hoq;have HWQ:=zh hWq;obtain⟨⟨q0,q1,q2,q3,q4,-⟩,qg⟩:=hWq.cells;by_cases hjt:j < nt
    ·have hjL:j < L.tns.length:=by rw[<-(uh HNT).1]; exact hjt
     have l2:(j:Int) < nt:=by omega
     have l3:(0:Int)<=j:=by omega
     have l4:(j:Int)<=64:=by have:=uh HN5; omega
     have sh:(-1:Int) / 2 ^ j=-1:=neg_shift j;obtain⟨⟨y0,-⟩,hghl⟩:=z2e (uh HHZ wr hoq);obtain⟨m1,m2,m3⟩:=uh HRM j hjL (by first | trivial | rfl);have HNX:=zh (show WT.moveN L (laS C F) (fun _=>true) (j+1)=(WT.moveN L (laS C F) (fun _=>true) j).move L j (laS C F) from rfl);have HMV:=zh (wmove_yes g gp nt ns B (WT.moveN L (laS C F) (fun _=>true) j) L j (laS C F) wr hWq (fun wz hz=>(uh HKZ wz (hoq.trans hz)).plan.at) (uh HLK) (uh HRR) (uh HNT).1 (uh HNT).2 hjt (fun u hu=>m1 u (by rw[<-(uh HNT).1]; exact hu)) (uh HLZ) m2 m3);rw[<-uh HNX] at HMV;clear hoq hWq m1 m2 m3 HNX;go_wp2_with fail
     refine(uh HMV).mono ?_;rintro e w5 ⟨rfl,hW5,ho5⟩;have HF5:=zh (And.intro hW5 ((uh HOQ).trans ho5));clear hW5 ho5;go_wp2
     exact⟨⟨j+1,rfl,by go_num,by omega,(uh HF5).2,(uh HF5).1⟩,by simp[intOf]; omega⟩
    ·have l2:¬(j:Int) < nt:=by omega
     have HFI:=zh (show ∃D',KRun n w0 wr D' R gb gp L (C.cyc F)/\WAt wr g gp nt ns B (WT.moveN L (laS C F) (fun _=>true) L.tns.length)/\Off D' g B from by
      have hje:j=L.tns.length:=by rw[<-(uh HNT).1]; omega
      rw[<-hje];exact⟨_,uh HKZ wr hoq,hWq,uh HDL⟩)
     rw[uh HWT,uh HFE] at HFI;clear hoq hWq;go_wp2
     go_ret
     exact⟨rfl,uh HFI⟩
theorem tnsL_pos (s:ByteArray) (f p:Nat) (h:(tnsL s f p).1=true):1<=(tnsL s f p).2.2.length:=by
 cases f with
 | zero=>cases h
 | succ f=>
  unfold tnsL at h ⊢;split at h
  ·cases h
  ·rename_i h1
   rw[if_neg h1];split
   ·simp
   ·simp
theorem lay_pos (s:ByteArray) (h:(errOf s.data.toList).1=0):1<=(layOf s.data.toList).sw.length/\1<=(layOf s.data.toList).tns.length:=by
 obtain⟨hs,h2,h3,-⟩:=lay_form s h;obtain⟨-,he⟩:=z4e s h;rw[<-he];unfold layL at h2 ⊢;split at h2
 ·cases h2
 rename_i g1;rw[if_neg g1];split at h2
 ·cases h2
 rename_i g2;rw[if_neg g2];split at h2
 ·cases h2
 rename_i g3;rw[if_neg g3];split at h2
 ·cases h2
 rename_i g4;rw[if_neg g4];split at h2
 ·cases h2
 rename_i g5;rw[if_neg g5];split at h2
 ·cases h2
 rename_i g6;rw[if_neg g6];exact⟨by show 1<=(secL s 300 4).1.length; omega,tnsL_pos s _ _ h2⟩
theorem BM.at {w:World} {g gp nt ns:Nat} {V:Nat->Value} (h:BM g w g gp V (begX nt ns)) (h1:1<=nt) (h2:1<=ns) (L:Lay) (hnt:nt=L.tns.length) (hns:ns=L.sw.length):∃B,WAt w g gp nt ns B (Wd.begin L)/\∀b,b∈g :: B.bs->g<=b:=by
 obtain⟨l1,l2,l3,l4,l5,l6,l7⟩:=z4i nt ns;have hr:∀j,1<=j->j<=7->∃b c,V j=.slice (some ⟨b,0,none⟩) (begX nt ns j).length c/\g<=b:=fun j j1 j7=>by
  have hp:0 < (begX nt ns j).length:=by
   have hj:j=1\/j=2\/j=3\/j=4\/j=5\/j=6\/j=7:=by omega
   rcases hj with rfl | rfl | rfl | rfl | rfl | rfl | rfl <;> omega
  obtain⟨b,c,e,-⟩:=z2w (h.own j j1 j7) hp;exact⟨b,c,e,((h.own j j1 j7).lt b (by rw[e]; rfl)).1⟩
 obtain⟨b1,c1,e1,g1⟩:=hr 1 (by omega) (by omega);obtain⟨b2,c2,e2,g2⟩:=hr 2 (by omega) (by omega);obtain⟨b3,c3,e3,g3⟩:=hr 3 (by omega) (by omega);obtain⟨b4,c4,e4,g4⟩:=hr 4 (by omega) (by omega);obtain⟨b5,c5,e5,g5⟩:=hr 5 (by omega) (by omega);obtain⟨b6,c6,e6,g6⟩:=hr 6 (by omega) (by omega);obtain⟨b7,c7,e7,g7⟩:=hr 7 (by omega) (by omega);rw[l1] at e1;rw[l2] at e2;rw[l3] at e3;rw[l4] at e4;rw[l5] at e5;rw[l6] at e6;rw[l7] at e7;have ow:∀j b n c,1<=j->j<=7->V j=.slice (some ⟨b,0,none⟩) n c->(begX nt ns j).length=n->w.ownsRow 0 (bty j) 1 (.slice (some ⟨b,0,none⟩) n c) n (begX nt ns j):=fun j b n c j1 j7 e el=>by
  have:=h.own j j1 j7;rw[e,el] at this;exact own_baseR this (Nat.zero_le _)
 have bl:∀{j b n c},V j=.slice (some ⟨b,0,none⟩) n c->(V j).ownBlock=some b:=fun {j b n c} e=>by rw[e]; rfl
 have ne:∀{i j bi bj:Nat},1<=i->i<=7->1<=j->j<=7->(V i).ownBlock=some bi->(V j).ownBlock=some bj->i≠j->bi≠bj:=fun {i j bi bj} i1 i7 j1 j7 hi hj hij e=>hij (h.dis i j bi i1 i7 j1 j7 hi (by rw[e]; exact hj));have ng:∀{j b:Nat},1<=j->j<=7->(V j).ownBlock=some b->g≠b:=fun {j b} j1 j7 hj e=>h.ng j j1 j7 (by rw[e]; exact hj);have r1:begX nt ns 1=intsV (Wd.begin L).done:=by unfold begX Wd.begin; rw[hnt]; rfl
 have r2:begX nt ns 2=intsZ (Wd.begin L).head:=by unfold begX Wd.begin; rw[hnt]; rfl
 have r3:begX nt ns 3=intsZ (Wd.begin L).tail:=by unfold begX Wd.begin; rw[hnt]; rfl
 have r4:begX nt ns 4=z17 (Wd.begin L).gone:=by unfold begX Wd.begin; rw[hnt]; rfl
 have r5:begX nt ns 5=bytsV (Wd.begin L).lie:=by unfold begX Wd.begin; rw[hns]; rfl
 have r6:begX nt ns 6=bytsV (Wd.begin L).aim:=by unfold begX Wd.begin; rw[hns]; rfl
 have r7:begX nt ns 7=intsV (Wd.begin L).left:=by unfold begX Wd.begin; rw[hns]; rfl
 refine⟨⟨b1,b2,b3,b4,b5,b6,b7,c1,c2,c3,c4,c5,c6,c7⟩,⟨?_,?_,?_,?_,?_,?_,?_,?_,?_⟩,?_⟩
 ·have:=h.obj
  rw[e1,e2,e3,e4,e5,e6,e7] at this;exact this
 ·rw[<-r1]; exact ow 1 b1 nt c1 (by omega) (by omega) e1 l1
 ·rw[<-r2]; exact ow 2 b2 nt c2 (by omega) (by omega) e2 l2
 ·rw[<-r3]; exact ow 3 b3 nt c3 (by omega) (by omega) e3 l3
 ·rw[<-r4]; exact ow 4 b4 nt c4 (by omega) (by omega) e4 l4
 ·rw[<-r5]; exact ow 5 b5 ns c5 (by omega) (by omega) e5 l5
 ·rw[<-r6]; exact ow 6 b6 ns c6 (by omega) (by omega) e6 l6
 ·rw[<-r7]; exact ow 7 b7 ns c7 (by omega) (by omega) e7 l7
 ·have k1:=bl e1
  have k2:=bl e2;have k3:=bl e3;have k4:=bl e4;have k5:=bl e5;have k6:=bl e6;have k7:=bl e7;simp only[WB.bs,List.nodup_cons,List.mem_cons,List.not_mem_nil,not_or,or_false,not_false_eq_true,List.nodup_nil,and_true];refine⟨⟨ng (by omega) (by omega) k1,ng (by omega) (by omega) k2,ng (by omega) (by omega) k3,ng (by omega) (by omega) k4,ng (by omega) (by omega) k5,ng (by omega) (by omega) k6,ng (by omega) (by omega) k7⟩,⟨?_,?_,?_,?_,?_,?_⟩,⟨?_,?_,?_,?_,?_⟩,⟨?_,?_,?_,?_⟩,⟨?_,?_,?_⟩,⟨?_,?_⟩,?_⟩
  ·exact ne (by omega) (by omega) (by omega) (by omega) k1 k2 (by omega)
  ·exact ne (by omega) (by omega) (by omega) (by omega) k1 k3 (by omega)
  ·exact ne (by omega) (by omega) (by omega) (by omega) k1 k4 (by omega)
  ·exact ne (by omega) (by omega) (by omega) (by omega) k1 k5 (by omega)
  ·exact ne (by omega) (by omega) (by omega) (by omega) k1 k6 (by omega)
  ·exact ne (by omega) (by omega) (by omega) (by omega) k1 k7 (by omega)
  ·exact ne (by omega) (by omega) (by omega) (by omega) k2 k3 (by omega)
  ·exact ne (by omega) (by omega) (by omega) (by omega) k2 k4 (by omega)
  ·exact ne (by omega) (by omega) (by omega) (by omega) k2 k5 (by omega)
  ·exact ne (by omega) (by omega) (by omega) (by omega) k2 k6 (by omega)
  ·exact ne (by omega) (by omega) (by omega) (by omega) k2 k7 (by omega)
  ·exact ne (by omega) (by omega) (by omega) (by omega) k3 k4 (by omega)
  ·exact ne (by omega) (by omega) (by omega) (by omega) k3 k5 (by omega)
  ·exact ne (by omega) (by omega) (by omega) (by omega) k3 k6 (by omega)
  ·exact ne (by omega) (by omega) (by omega) (by omega) k3 k7 (by omega)
  ·exact ne (by omega) (by omega) (by omega) (by omega) k4 k5 (by omega)
  ·exact ne (by omega) (by omega) (by omega) (by omega) k4 k6 (by omega)
  ·exact ne (by omega) (by omega) (by omega) (by omega) k4 k7 (by omega)
  ·exact ne (by omega) (by omega) (by omega) (by omega) k5 k6 (by omega)
  ·exact ne (by omega) (by omega) (by omega) (by omega) k5 k7 (by omega)
  ·exact ne (by omega) (by omega) (by omega) (by omega) k6 k7 (by omega)
 ·intro b hb
  simp only[WB.bs,List.mem_cons,List.not_mem_nil,or_false] at hb;rcases hb with rfl | rfl | rfl | rfl | rfl | rfl | rfl | rfl
  ·exact Nat.le_refl _
  all_goals assumption
def calmN (L:Lay) (k:Nat):Nat:=32+32*((List.range k).map (fun t=>(L.tn t).jny.length)).sum
theorem calmN_succ (L:Lay) (k:Nat):calmN L (k+1)=calmN L k+32*(L.tn k).jny.length:=by
 unfold calmN;rw[List.range_succ,List.map_append,List.sum_append];simp;omega
structure Thru (L:Lay) (P:RBx->Wd->Prop) (M:Nat->RBx->Wd->Prop):Prop where
 p0:P (RBx.init L) (Wd.begin L)
 pr:∀C W ask go slow,P C W->slow < L.T->RoundOK C W L ask go slow/\P (C.cyc (frW W L ask L.tns.length)) ((W.turned L C (frW W L ask L.tns.length) slow).moveN L (laS C (frW W L ask L.tns.length)) go L.tns.length)
 m0:∀C W,P C W->M (calmN L L.tns.length) C W
 mr:∀m C W,M (m+1) C W->RoundOK C W.hurry L (fun _=>true) (fun _=>true) 0/\M m (C.cyc (frW W.hurry L (fun _=>true) L.tns.length)) ((W.hurry.turned L C (frW W.hurry L (fun _=>true) L.tns.length) 0).moveN L (laS C (frW W.hurry L (fun _=>true) L.tns.length)) (fun _=>true) L.tns.length)
 mE:∀C W,M 0 C W->KJ C/\C.waits=[]/\(∀t,t < L.tns.length->W.gone.getD t false=true)/\(∀t,t < L.tns.length->C.sta.getD t 0=(L.tn t).jny.length)/\∀r,r < L.rts.length->(C.line r).ph=46
def ChsIn (w:World) (ao:Option Addr) (len:Nat) (zs:List Int):Prop:=len<=maxLen/\(len=0\/∃g off,ao=some ⟨g,off,none⟩/\∀j,j < len->w.cell? ⟨g,off+j,none⟩=some (.int .i64 (zs.getD j 0)))/\∀j,-9223372036854775808<=zs.getD j 0/\zs.getD j 0<=9223372036854775807
structure LayT (L:Lay):Prop where
 ft:∀r,r < L.rts.length->(L.rt r).foot ∉ secs (L.rt r).path
 f0:∀t,t < L.tns.length->0 < (L.tn t).jny.length->(L.rt ((L.tn t).jny.getD 0 0)).foot=(L.tn t).start
 f1:∀t,t < L.tns.length->∀d,d+1 < (L.tn t).jny.length->(L.rt ((L.tn t).jny.getD (d+1) 0)).foot=L.endOf ((L.tn t).jny.getD d 0)
 st:∀t u,t < L.tns.length->u < L.tns.length->(L.tn t).start=(L.tn u).start->t=u
 fs:∀r x t,r < L.rts.length->t < L.tns.length->has (L.rt r).flank x=true->(L.tn t).start≠x
 fe:∀r x q,r < L.rts.length->q < L.rts.length->has (L.rt r).flank x=true->L.endOf q≠x
 jr:∀t,t < L.tns.length->∀d,d < (L.tn t).jny.length->(L.tn t).jny.getD d 0 < L.rts.length
 ok:∀r,r < L.rts.length->RtOK L (L.rt r)
 s0:L.sound (List.replicate L.tns.length 0)=true
 sg:L.Signs
 T1:1<=L.T
 tn:L.tns.length<=5
 jl:∀t,t < L.tns.length->(L.tn t).jny.length<=8
 sw:L.sw.length<=16
theorem joins_at (L:Lay):∀(l:List Nat) (s:Nat),L.joins s l=true->(0 < l.length->(L.rt (l.getD 0 0)).foot=s)/\∀d,d+1 < l.length->(L.rt (l.getD (d+1) 0)).foot=L.endOf (l.getD d 0)
 | [],s,_=>⟨fun h=>absurd h (Nat.lt_irrefl _),fun d h=>by simp at h⟩
 | r :: l,s,h=>by
  unfold Lay.joins at h;simp only[Bool.and_eq_true,beq_iff_eq,decide_eq_true_eq] at h;obtain⟨i1,i2⟩:=joins_at L l _ h.2;refine⟨fun _=>h.1.2,fun d hd=>?_⟩;cases d with
  | zero=>exact i1 (by simpa using hd)
  | succ d=>exact i2 d (by simpa using hd)
theorem any_has {L:Lay} {x:Nat} (h:L.flankedB x=false) {r:Nat} (hr:r < L.rts.length):has (L.rt r).flank x=false:=by
 unfold Lay.flankedB at h;rw[List.any_eq_false] at h;have hm:L.rt r∈L.rts:=by unfold Lay.rt; rw[z05 hr]; exact List.getElem_mem hr
 simpa using h _ hm
theorem layT_of (s:ByteArray) (h:(errOf s.data.toList).1=0):LayT (layOf s.data.toList):=by
 obtain⟨-,-,-,hc,hs,h0⟩:=err0 _ h;obtain⟨hO,he⟩:=z4e s h;have hsg:=layL_signs s;rw[he] at hsg;generalize layOf s.data.toList=L at *;have hst:∀t,t < L.tns.length->(L.flankedB (L.tn t).start=false/\(∀i,i < t->(L.tn i).start≠(L.tn t).start))/\L.joins (L.tn t).start (L.tn t).jny=true:=fun t ht=>by
  have:=hs t ht;unfold Lay.stray at this;simp only[Bool.or_eq_false_iff,Bool.not_eq_false',List.any_eq_false,List.mem_range] at this;exact⟨⟨this.1.1.2,fun i hi e=>this.1.2 i hi (by simpa using e)⟩,this.2⟩
 have hm:∀r,r < L.rts.length->L.rt r∈L.rts:=fun r hr=>by unfold Lay.rt; rw[z05 hr]; exact List.getElem_mem hr
 have htm:∀t,t < L.tns.length->L.tn t∈L.tns:=fun t ht=>by unfold Lay.tn; rw[z05 ht]; exact List.getElem_mem ht
 refine⟨fun r hr hf=>?_,fun t ht hp=>(joins_at L _ _ (hst t ht).2).1 hp,fun t ht d hd=>(joins_at L _ _ (hst t ht).2).2 d hd,fun t u ht hu e=>?_,fun r x t hr ht hx e=>?_,fun r x q hr hq hx e=>?_,fun t ht d hd=>?_,fun r hr=>hO.rts _ (hm r hr),h0,hsg,hO.T.1,hO.good.tns,fun t ht=>hO.good.jl _ (htm t ht),hO.sw⟩
 ·have:=hc r hr
  unfold Lay.crooked at this;simp only[Bool.or_eq_false_iff,List.any_eq_false,List.mem_range] at this;obtain⟨i,hi,e⟩:=List.mem_iff_getElem.1 hf;have hi':i < (L.rt r).path.length:=by rw[<-z0o]; exact hi
  have hb:=this.1.2 i hi';unfold Lay.badPath at hb;simp only[Bool.or_eq_true,not_or] at hb;apply hb.1.2;rw[List.getD_eq_getElem?_getD,List.getElem?_eq_getElem hi'];have e':(secs (L.rt r).path)[i]=(L.rt r).path[i].1:=by simp[secs]
  rw[e'] at e
  simpa using e
 ·rcases Nat.lt_trichotomy t u with h1 | h1 | h1
  ·exact absurd e ((hst u hu).1.2 t h1)
  ·exact h1
  ·exact absurd e.symm ((hst t ht).1.2 u h1)
 ·have:=any_has (hst t ht).1.1 hr
  rw[e,hx] at this;cases this
 ·have:=hc r hr
  unfold Lay.crooked at this;simp only[Bool.or_eq_false_iff,List.any_eq_false,List.mem_range] at this;unfold has at hx;have hx':x∈secs (L.rt r).flank:=by simpa using hx
  obtain⟨i,hi,e1⟩:=List.mem_iff_getElem.1 hx';have hi':i < (L.rt r).flank.length:=by rw[<-z0o]; exact hi
  have hb:=this.2 i hi';unfold Lay.badFlank at hb;simp only[Bool.or_eq_true,not_or] at hb;apply hb.1.2;have e2:((L.rt r).flank.getD i (0,0)).1=x:=by
   rw[List.getD_eq_getElem?_getD,List.getElem?_eq_getElem hi'];have e':(secs (L.rt r).flank)[i]=(L.rt r).flank[i].1:=by simp[secs]
   rw[e'] at e1
   simpa using e1
  rw[e2];unfold Lay.endsB;rw[List.any_eq_true];exact⟨_,hm q hq,by simpa [Lay.endOf] using e⟩
 ·have:(L.tn t).jny.getD d 0∈(L.tn t).jny:=by rw[z05 hd]; exact List.getElem_mem hd
  exact hO.good.jnys _ (htm t ht) _ this
theorem z3k {L:Lay} (hT:LayT L) {W:Wd} {t:Nat} (ht:t < L.tns.length) (hd:W.done.getD t 0 < (L.tn t).jny.length):W.stand L t=(L.rt (W.rt L t)).foot:=by
 unfold Wd.stand Wd.rt;by_cases h0:W.done.getD t 0=0
 ·rw[if_pos h0,h0]
  exact(hT.f0 t ht (by omega)).symm
 ·rw[if_neg h0]
  have:=hT.f1 t ht (W.done.getD t 0 - 1) (by omega);rw[show W.done.getD t 0 - 1+1=W.done.getD t 0 by omega] at this;exact this.symm
theorem z4a {L:Lay} {W:Wd} {t s:Nat}:W.onB L t s=true↔W.gone.getD t false=false/\((W.head.getD t 0 < 0/\W.stand L t=s)\/(0<=W.head.getD t 0/\∃i:Int,W.tail.getD t 0<=i/\i<=W.head.getD t 0/\W.place L t i=s)):=by
 unfold Wd.onB;cases hg:W.gone.getD t false with
 | true=>simp
 | false=>
  rw[if_neg (by simp)];by_cases h:W.head.getD t 0 < 0
  ·rw[if_pos h]
   simp only[beq_iff_eq,true_and];refine⟨fun e=>.inl ⟨h,e⟩,fun e=>?_⟩;rcases e with e | e
   ·exact e.2
   ·omega
  ·rw[if_neg h]
   simp only[List.any_eq_true,List.mem_range,beq_iff_eq,true_and];refine⟨fun ⟨k,hk,e⟩=>.inr ⟨by omega,W.tail.getD t 0+k,by omega,by omega,e⟩,fun e=>?_⟩;rcases e with e | ⟨h0,i,h1,h2,e⟩
   ·exact absurd e.1 h
   ·refine⟨(i - W.tail.getD t 0).toNat,by omega,?_⟩
    rw[show W.tail.getD t 0+((i - W.tail.getD t 0).toNat:Int)=i by omega];exact e
theorem z28 {L:Lay} {W:Wd} {s:Nat}:W.takenB L s=true↔∃t,t < L.tns.length/\W.onB L t s=true:=by
 unfold Wd.takenB;simp[List.any_eq_true,List.mem_range]
theorem place_at {L:Lay} {W:Wd} {t k:Nat}:W.place L t (k:Int)=(secs (L.rt (W.rt L t)).path).getD k 0:=by
 unfold Wd.place;rw[if_neg (by omega),Int.toNat_natCast]
theorem place_neg {L:Lay} {W:Wd} {t:Nat}:W.place L t (-1)=(L.rt (W.rt L t)).foot:=by
 unfold Wd.place;rw[if_pos (by omega)]
def tkA (a f:Nat):Nat:=if a≠0/\0 < f then a else 0
def tkL (a l f:Nat):Nat:=if a≠0/\0 < f then l else if a≠0 then a else l
def tkF (a f:Nat):Nat:=if a≠0/\0 < f then f - 1 else f
def rp (a l f:Nat):Nat:=if a≠0/\0 < f then 63 else if a≠0 then a else l
structure SwLen (L:Lay) (W:Wd):Prop where
 l:W.lie.length=L.sw.length
 a:W.aim.length=L.sw.length
 f:W.left.length=L.sw.length
def SameAt (W V:Wd) (x:Nat):Prop:=V.aim.getD x 0=W.aim.getD x 0/\V.lie.getD x 0=W.lie.getD x 0/\V.left.getD x 0=W.left.getD x 0
def TickAt (W V:Wd) (x:Nat):Prop:=V.aim.getD x 0=tkA (W.aim.getD x 0) (W.left.getD x 0)/\V.lie.getD x 0=tkL (W.aim.getD x 0) (W.lie.getD x 0) (W.left.getD x 0)/\V.left.getD x 0=tkF (W.aim.getD x 0) (W.left.getD x 0)
theorem tick1_len {L:Lay} {W:Wd} (h:SwLen L W) (x:Nat):SwLen L (W.tick1 x):=by
 unfold Wd.tick1;split
 ·exact⟨h.l,h.a,by simp[h.f]⟩
 ·split
  ·exact⟨by simp[h.l],by simp[h.a],h.f⟩
  ·exact h
theorem tickN_len {L:Lay} {W:Wd} (h:SwLen L W):∀k,SwLen L (W.tickN L k)
 | 0=>h
 | k+1=>tick1_len (tickN_len h k) _
theorem tick1_at {L:Lay} {W:Wd} (h:SwLen L W) {x:Nat} (hx:x < L.sw.length):TickAt W (W.tick1 x) x:=by
 unfold Wd.tick1 TickAt tkA tkL tkF;by_cases h1:W.aim.getD x 0≠0/\0 < W.left.getD x 0
 ·rw[if_pos h1,if_pos h1,if_pos h1,if_pos h1]
  refine⟨rfl,rfl,?_⟩;show (W.left.set x _).getD x 0=_;rw[z0d _ _ _ _ _ (by rw[h.f]; exact hx),if_pos rfl]
 ·rw[if_neg h1,if_neg h1,if_neg h1,if_neg h1]
  by_cases h2:W.aim.getD x 0≠0
  ·rw[if_pos h2,if_pos h2]
   refine⟨?_,?_,rfl⟩
   ·show (W.aim.set x _).getD x 0=_
    rw[z0d _ _ _ _ _ (by rw[h.a]; exact hx),if_pos rfl]
   ·show (W.lie.set x _).getD x 0=_
    rw[z0d _ _ _ _ _ (by rw[h.l]; exact hx),if_pos rfl]
  ·rw[if_neg h2,if_neg h2]
   exact⟨by omega,rfl,rfl⟩
theorem tick1_oth (W:Wd) {x y:Nat} (hx:x≠y):SameAt W (W.tick1 y) x:=by
 unfold Wd.tick1 SameAt;split
 ·exact⟨rfl,rfl,z0h _ _ _ _ _ hx⟩
 ·split
  ·exact⟨z0h _ _ _ _ _ hx,z0h _ _ _ _ _ hx,rfl⟩
  ·exact⟨rfl,rfl,rfl⟩
theorem pts_inj {l:List Bool} {i j:Nat} (hi:i < (z03 0 l).length) (hj:j < (z03 0 l).length) (e:(z03 0 l)[i]=(z03 0 l)[j]):i=j:=by
 have h1:=(pts_get l 0 i hi).2.2.2;have h2:=(pts_get l 0 j hj).2.2.2;rw[e] at h1;omega
theorem tickN_at {L:Lay} {W:Wd} (h:SwLen L W) (x:Nat):∀k,k<=(z03 0 L.sw).length->((∀j (hj:j < (z03 0 L.sw).length),j < k->(z03 0 L.sw)[j]≠x)->SameAt W (W.tickN L k) x)/\∀j (hj:j < (z03 0 L.sw).length),j < k->(z03 0 L.sw)[j]=x->TickAt W (W.tickN L k) x
 | 0,_=>⟨fun _=>⟨rfl,rfl,rfl⟩,fun j _ hj=>absurd hj (Nat.not_lt_zero _)⟩
 | k+1,hk=>by
  obtain⟨i1,i2⟩:=tickN_at h x k (by omega);have hkl:k < (z03 0 L.sw).length:=hk;have e:W.tickN L (k+1)=(W.tickN L k).tick1 (z03 0 L.sw)[k]:=by
   show (W.tickN L k).tick1 ((z03 0 L.sw).getD k 0)=_;rw[z05 hkl]
  rw[e];refine⟨fun hn=>?_,fun j hj hjk ej=>?_⟩
  ·obtain⟨a1,a2,a3⟩:=i1 (fun j hj hjk=>hn j hj (by omega))
   obtain⟨b1,b2,b3⟩:=tick1_oth (W.tickN L k) (x:=x) (fun ee=>hn k hkl (by omega) ee.symm);exact⟨b1.trans a1,b2.trans a2,b3.trans a3⟩
  ·by_cases hjk2:j=k
   ·subst hjk2
    subst ej;obtain⟨a1,a2,a3⟩:=i1 (fun i hi hik ee=>by have:=pts_inj hi hj ee; omega);have hb:=tick1_at (tickN_len h j) (x:=(z03 0 L.sw)[j]) (by have:=(pts_get L.sw 0 j hj).2.1; omega);unfold TickAt at hb ⊢;rw[a1,a2,a3] at hb;exact hb
   ·have hi:=i2 j hj (by omega) ej
    obtain⟨b1,b2,b3⟩:=tick1_oth (W.tickN L k) (x:=x) (y:=(z03 0 L.sw)[k]) (fun ee=>hjk2 (pts_inj hj hkl (ej.trans ee)));unfold TickAt at hi ⊢;rw[b1,b2,b3];exact hi
theorem pts_ix {L:Lay} {x:Nat} (hx:L.sw.getD x false=true):∃k,∃hk:k < (z03 0 L.sw).length,(z03 0 L.sw)[k]=x:=by
 have:x∈z03 0 L.sw:=(pts_mem L.sw 0 x).2 ⟨Nat.zero_le _,by rw[Nat.sub_zero]; exact hx⟩;obtain⟨k,hk,e⟩:=List.mem_iff_getElem.1 this;exact⟨k,hk,e⟩
theorem sw_lt {L:Lay} {x:Nat} (hx:L.sw.getD x false=true):x < L.sw.length:=by
 rcases Nat.lt_or_ge x L.sw.length with h | h
 ·exact h
 ·rw[List.getD_eq_getElem?_getD,List.getElem?_eq_none h] at hx; cases hx
theorem tick_all {L:Lay} {W:Wd} (h:SwLen L W) {x:Nat} (hx:L.sw.getD x false=true):TickAt W (W.tickN L (z03 0 L.sw).length) x:=by
 obtain⟨k,hk,e⟩:=pts_ix hx;exact(tickN_at h x _ (Nat.le_refl _)).2 k hk hk e
theorem repN_at {L:Lay} {W:Wd} (h:SwLen L W) {k:Nat} (hk:k < (z03 0 L.sw).length):(W.repN L (z03 0 L.sw).length).getD k 0=rp (W.aim.getD (z03 0 L.sw)[k] 0) (W.lie.getD (z03 0 L.sw)[k] 0) (W.left.getD (z03 0 L.sw)[k] 0):=by
 unfold Wd.repN;rw[z05 (by simpa using hk),List.getElem_map,List.getElem_range,z05 hk];obtain⟨a1,a2,a3⟩:=(tickN_at h (z03 0 L.sw)[k] k (by omega)).1 (fun j hj hjk e=>by have:=pts_inj hj hk e; omega);unfold Wd.rep1 rp;rw[a1,a2,a3]
structure SwVal (L:Lay) (W:Wd):Prop where
 lie:∀x,L.sw.getD x false=true->W.lie.getD x 0=43\/W.lie.getD x 0=45
 aim:∀x,L.sw.getD x false=true->W.aim.getD x 0=0\/W.aim.getD x 0=43\/W.aim.getD x 0=45
theorem rp_val {L:Lay} {W:Wd} (h:SwVal L W) {x:Nat} (hx:L.sw.getD x false=true):rp (W.aim.getD x 0) (W.lie.getD x 0) (W.left.getD x 0)=43\/rp (W.aim.getD x 0) (W.lie.getD x 0) (W.left.getD x 0)=45\/rp (W.aim.getD x 0) (W.lie.getD x 0) (W.left.getD x 0)=63:=by
 have h1:=h.lie x hx;have h2:=h.aim x hx;unfold rp;split
 ·omega
 ·split <;> omega
theorem reqT_at (ask:Nat->Bool):∀k,(reqT ask k).length % 2=0/\∀j,j < (reqT ask k).length / 2->(reqT ask k).getD (2*j) 0=114/\49<=(reqT ask k).getD (2*j+1) 0/\(reqT ask k).getD (2*j+1) 0 - 49 < k
 | 0=>⟨rfl,fun j hj=>by simp[reqT] at hj⟩
 | k+1=>by
  obtain⟨a,b⟩:=reqT_at ask k;rw[z5v];cases ask k with
  | false=>
   simp only[Bool.false_eq_true,if_false,List.append_nil];exact⟨a,fun j hj=>by have:=b j hj; omega⟩
  | true=>
   simp only[if_true];refine⟨by simp; omega,fun j hj=>?_⟩;rw[List.length_append] at hj;simp only[List.length_cons,List.length_nil] at hj;by_cases hl:j < (reqT ask k).length / 2
   ·have:=b j hl
    simp only[List.getD_eq_getElem?_getD] at this ⊢;rw[List.getElem?_append_left (by omega),List.getElem?_append_left (by omega)];omega
   ·have hj2:2*j=(reqT ask k).length:=by omega
    simp only[List.getD_eq_getElem?_getD];rw[List.getElem?_append_right (by omega),List.getElem?_append_right (by omega),hj2];simp
theorem reqT_all:∀k,(reqT (fun _=>true) k).length=2*k/\∀j,j < k->(reqT (fun _=>true) k).getD (2*j+1) 0=49+j
 | 0=>⟨rfl,fun j hj=>absurd hj (Nat.not_lt_zero _)⟩
 | k+1=>by
  obtain⟨a,b⟩:=reqT_all k;rw[z5v];simp only[if_true];refine⟨by simp[a]; omega,fun j hj=>?_⟩;simp only[List.getD_eq_getElem?_getD] at b ⊢;by_cases hl:j < k
  ·rw[List.getElem?_append_left (by omega)]
   exact b j hl
  ·have:j=k:=by omega
   subst this;rw[List.getElem?_append_right (by omega),a];simp
structure FrFact (L:Lay) (W:Wd) (F:ByteArray):Prop where
 good:L.frameB F=true
 occ:∀x,x < L.sw.length->(L.frOf F).occ.getD x false=W.takenB L x
 rep:∀x,L.sw.getD x false=true->(L.frOf F).rep.getD x 0=rp (W.aim.getD x 0) (W.lie.getD x 0) (W.left.getD x 0)
 cm:∀j,j < (L.frOf F).cmds.size / 2->pk (L.frOf F).cmds (2*j)=114/\49<=pk (L.frOf F).cmds (2*j+1)/\pk (L.frOf F).cmds (2*j+1) - 49 < L.tns.length
theorem frW_fact {L:Lay} {W:Wd} (hT:LayT L) (h:SwLen L W) (hv:SwVal L W) (ask:Nat->Bool):FrFact L W (frW W L ask L.tns.length)/\((∀t,ask t=true)->(L.frOf (frW W L ask L.tns.length)).cmds.size / 2=L.tns.length/\∀j,j < L.tns.length->pk (L.frOf (frW W L ask L.tns.length)).cmds (2*j+1)=49+j):=by
 have hol:=occN_len W L L.sw.length;have hrl:=repN_len W L (z03 0 L.sw).length;have hpl:(z03 0 L.sw).length=cntT L.sw:=z44 _ _;have hps:(z03 0 L.sw).length<=16:=by
  have h1:=hT.sw;have:cntT L.sw<=L.sw.length:=by
   unfold cntT
   first | exact List.countP_le_length | exact List.length_filter_le _ _
  omega
 obtain⟨r1,r2⟩:=reqT_at ask L.tns.length;have r3:=reqT_len ask L.tns.length;have hln:(W.frameT L++reqT ask L.tns.length).length=L.sw.length+cntT L.sw+(reqT ask L.tns.length).length:=by
  unfold Wd.frameT;simp only[List.length_append];omega
 have hsm:∀x,x∈W.frameT L++reqT ask L.tns.length->x < 256:=by
  intro x hx;rcases List.mem_append.1 hx with hx | hx
  ·unfold Wd.frameT at hx
   rcases List.mem_append.1 hx with hx | hx
   ·unfold Wd.occN at hx
    obtain⟨y,-,rfl⟩:=List.mem_map.1 hx;split <;> omega
   ·obtain⟨k,hk,rfl⟩:=List.mem_iff_getElem.1 hx
    have hk':k < (z03 0 L.sw).length:=by omega
    rw[<-z05 (d:=0) hk,repN_at h hk'];have:=rp_val hv (pts_sw (List.getElem_mem hk'));omega
  ·obtain⟨k,hk,rfl⟩:=List.mem_iff_getElem.1 hx
   rw[<-z05 (d:=0) hk];have:=hT.tn;rcases Nat.mod_two_eq_zero_or_one k with e | e
   ·have:=(r2 (k / 2) (by omega)).1
    rw[show 2*(k / 2)=k by omega] at this;omega
   ·have:=(r2 (k / 2) (by omega)).2
    rw[show 2*(k / 2)+1=k by omega] at this;omega
 have hz:(frW W L ask L.tns.length).size=L.sw.length+cntT L.sw+(reqT ask L.tns.length).length:=by unfold frW; rw[z0s,hln]
 have hp:∀i,pk (frW W L ask L.tns.length) i=(W.frameT L++reqT ask L.tns.length).getD i 0:=fun i=>z2j hsm i;have p1:∀i,i < L.sw.length->pk (frW W L ask L.tns.length) i=if W.takenB L i then 49 else 48:=fun i hi=>by
  rw[hp];unfold Wd.frameT;rw[List.getD_eq_getElem?_getD,List.getElem?_append_left (by rw[List.length_append]; omega),List.getElem?_append_left (by omega)];unfold Wd.occN;rw[List.getElem?_map,List.getElem?_range hi];rfl
 have p2:∀k (hk:k < (z03 0 L.sw).length),pk (frW W L ask L.tns.length) (L.sw.length+k)=rp (W.aim.getD (z03 0 L.sw)[k] 0) (W.lie.getD (z03 0 L.sw)[k] 0) (W.left.getD (z03 0 L.sw)[k] 0):=fun k hk=>by
  rw[hp,<-repN_at h hk];unfold Wd.frameT;rw[List.getD_eq_getElem?_getD,List.getElem?_append_left (by rw[List.length_append]; omega),List.getElem?_append_right (by omega),hol,Nat.add_sub_cancel_left,List.getD_eq_getElem?_getD]
 have p3:∀i,i < (reqT ask L.tns.length).length->pk (frW W L ask L.tns.length) (L.bgn+i)=(reqT ask L.tns.length).getD i 0:=fun i hi=>by
  rw[hp];unfold Lay.bgn;have hfl:(W.frameT L).length=L.sw.length+cntT L.sw:=by unfold Wd.frameT; rw[List.length_append]; omega
  rw[List.getD_eq_getElem?_getD,List.getElem?_append_right (by omega),hfl,Nat.add_sub_cancel_left,List.getD_eq_getElem?_getD]
 have hbz:(frW W L ask L.tns.length).size - L.bgn=(reqT ask L.tns.length).length:=by unfold Lay.bgn; omega
 have hg:L.frameB (frW W L ask L.tns.length)=true:=by
  rw[z53];refine⟨?_,by unfold Lay.bgn; omega,by rw[hbz]; exact r1,fun i hi=>?_,fun k hk=>?_,fun j hj=>?_⟩
  ·have:=hT.sw
   have:=hT.tn;omega
  ·unfold okO
   rw[p1 i hi];split <;> rfl
  ·rw[p2 k (by omega)]
   have:=rp_val hv (pts_sw (List.getElem_mem (show k < (z03 0 L.sw).length by omega)));unfold isRep;rcases this with e | e | e <;> rw[e] <;> rfl
  ·rw[hbz] at hj
   have:=r2 j hj;unfold Lay.okP;rw[show L.bgn+2*j+1=L.bgn+(2*j+1) by omega,p3 _ (by omega),p3 _ (by omega),this.1];unfold Lay.cmdB numF;rw[if_pos rfl,if_pos (by omega)];rfl
 have hcs:(L.frOf (frW W L ask L.tns.length)).cmds.size=(reqT ask L.tns.length).length:=by
  rw[(z4r L _ hg).2.2.1,hbz]
 have hck:∀i,i < (reqT ask L.tns.length).length->pk (L.frOf (frW W L ask L.tns.length)).cmds i=(reqT ask L.tns.length).getD i 0:=fun i hi=>by
  rw[<-p3 i hi];exact pk_ext _ _ _ (by omega)
 refine⟨⟨hg,fun x hx=>?_,fun x hx=>?_,fun j hj=>?_⟩,fun ha=>?_⟩
 ·rw[occ_at x hx,p1 x hx]
  cases W.takenB L x <;> rfl
 ·obtain⟨k,hk,e⟩:=pts_ix hx
  subst e;rw[(rep_pts hk).2.1,p2 k hk]
 ·rw[hcs] at hj
  rw[hck _ (by omega),hck _ (by omega)];exact r2 j hj
 ·have ea:ask=fun _=>true:=funext ha
  subst ea;obtain⟨q1,q2⟩:=reqT_all L.tns.length;refine⟨by rw[hcs,q1]; omega,fun j hj=>?_⟩;rw[hck _ (by omega)];exact q2 j hj
theorem set_lock {C:RBx} (hi:Inv C) {r:Nat} (hr:r < C.L.rts.length) (h:(C.line r).ph≠46):∃x,x < C.L.sw.length/\x∈secs (C.L.rt r).path/\C.lockB x r=true:=by
 have hro:=hi.rt hr;have hg:(C.line r).gone < (secs (C.L.rt r).path).length:=by
  rw[z0o];by_cases e:(C.line r).ph=116
  ·exact((hi.li r hr).ps e).2
  ·rw[(hi.li r hr).g0 e]
   exact List.length_pos_iff.2 hro.ne
 have hm:(secs (C.L.rt r).path)[(C.line r).gone]∈(secs (C.L.rt r).path).drop (C.line r).gone:=by
  rw[List.drop_eq_getElem_cons hg]; exact List.mem_cons_self ..
 refine⟨(secs (C.L.rt r).path)[(C.line r).gone],?_,List.getElem_mem hg,?_⟩
 ·obtain⟨y,hy,e⟩:=List.mem_map.1 (show (secs (C.L.rt r).path)[(C.line r).gone]∈(C.L.rt r).path.map (·.1) from List.getElem_mem hg)
  rw[<-e]; exact(hro.ps y hy).1
 ·unfold RBx.lockB
  simp only[Bool.and_eq_true,bne_iff_ne,ne_eq,List.contains_iff_mem];exact⟨h,hm⟩
theorem grant_keeps {C:RBx} {q:List Nat} (hi:Inv { C with waits:=q }) {f:Fr} {t r:Nat} (h:(C.line r).ph≠46):(C.grant f t).line r=C.line r:=by
 rcases z3i C f t r with e | ⟨e,hb,-⟩
 ·exact e
 ·exfalso
  have hfree:=z4g hb;rw[<-e] at hfree;have hll:C.lines.length=C.L.rts.length:=hi.ll;have hr:r < C.L.rts.length:=by rw[<-hll]; exact z14 h
  obtain⟨x,hx1,hx2,hx3⟩:=set_lock hi hr h;have hno:=z3j (z4v hfree hx1 hx2).1 r;have hyes:C.lockB x r=true:=hx3;rw[hyes] at hno;cases hno
theorem grantN_keeps {C:RBx} {f:Fr} (hg:∀k,k<=C.waits.length->Inv { C.grantN f k with waits:=C.leftN f k++C.waits.drop k }) {r:Nat} (h:(C.line r).ph≠46):∀k,k<=C.waits.length->(C.grantN f k).line r=C.line r
 | 0,_=>rfl
 | k+1,hk=>by
  have ih:=grantN_keeps hg h k (by omega);show ((C.grantN f k).grant f (C.waits.getD k 0)).line r=_;rw[grant_keeps (hg k (by omega)) (by rw[ih]; exact h),ih]
theorem s4_keeps {C:RBx} {f:Fr} (S:Stgs C f) {r:Nat} (h:((C.s3 f).line r).ph≠46):(C.s4 f).line r=(C.s3 f).line r:=grantN_keeps S.g h (C.s3 f).waits.length (Nat.le_refl _)
theorem s2_line {C:RBx} {f:Fr} (S:Stgs C f) {r:Nat} (hr:r < C.L.rts.length):(C.s2 f).line r=(((C.s1 f).stepN f r).step f r).line r/\((C.s1 f).stepN f r).line r=C.line r/\((C.s1 f).stepN f r).L=C.L/\r < ((C.s1 f).stepN f r).lines.length:=by
 have h1l:(C.s1 f).line r=C.line r:=by unfold RBx.line; exact congrArg (fun l=>l.getD r RLn0) (z0l C f C.L.sw.length).2.2.1
 have hL:((C.s1 f).stepN f r).L=C.L:=(z27 (C.s1 f) f r).2.1.trans S.l1;refine⟨?_,(z4t (C.s1 f) f r r (Nat.le_refl _)).trans h1l,hL,by rw[(S.t r (by omega)).ll,hL]; exact hr⟩;rw[S.n2];exact z4u (C.s1 f) f r C.L.rts.length hr
def plen (L:Lay) (r:Nat):Nat:=(secs (L.rt r).path).length
def psec (L:Lay) (r i:Nat):Nat:=(secs (L.rt r).path).getD i 0
def Ahead (L:Lay) (W:Wd) (s t r:Nat):Prop:=s=W.done.getD t 0+1/\W.done.getD t 0 < (L.tn t).jny.length/\W.rt L t=r
structure OnIt (x:RLn) (h tl:Int) (n:Nat) (e:Bool):Prop where
 ph:x.ph=116
 h0:0<=h
 hl:h < n
 tt:tl=h\/tl=h - 1
 tn:tl=h->h+1 < n
 g:x.gone=0\/(x.gone:Int)<=tl
 m1:∀i:Nat,x.gone<=i->(i:Int)<=(if e then tl else h)->x.marks.getD i false=true
 m2:∀i:Nat,x.gone<=i->x.marks.getD i false=true->(i:Int)<=h
structure PastIt (L:Lay) (W:Wd) (s t r:Nat) (x:RLn):Prop where
 ph:x.ph=116
 es:s=W.done.getD t 0
 d:1<=W.done.getD t 0
 er:(L.tn t).jny.getD (W.done.getD t 0 - 1) 0=r
 h:W.head.getD t 0 < 0
 m:∀i,x.gone<=i->i < plen L r->x.marks.getD i false=true
def TrL (L:Lay) (W:Wd) (s t r:Nat) (x:RLn) (e:Bool):Prop:=
 ((x.ph=119\/x.ph=103)/\Ahead L W s t r/\W.head.getD t 0 < 0) ∨
 (e=true/\x.ph=103/\Ahead L W s t r/\W.head.getD t 0=0/\W.tail.getD t 0=-1) ∨
 (Ahead L W s t r/\OnIt x (W.head.getD t 0) (W.tail.getD t 0) (plen L r) e) ∨
 PastIt L W s t r x
structure Trs (L:Lay) (C:RBx) (W:Wd) (e:Nat->Bool):Prop where
 ln:∀r,(C.line r).ph≠46->TrL L W (C.sta.getD (C.line r).train 0) (C.line r).train r (C.line r) (e (C.line r).train)
 no:∀t,t < L.tns.length->(∀r,(C.line r).ph≠46->(C.line r).train≠t)->C.sta.getD t 0=W.done.getD t 0/\W.head.getD t 0 < 0
 gn:∀t,t < L.tns.length->W.gone.getD t false=true->(L.tn t).jny.length<=W.done.getD t 0
 dl:∀t,t < L.tns.length->W.done.getD t 0<=(L.tn t).jny.length
 hb:∀t,t < L.tns.length->-1<=W.head.getD t 0
 A:∀r s t,C.lockB s r=true->t < L.tns.length->W.onB L t s=true->t=(C.line r).train
 po:∀t u s,t < L.tns.length->u < L.tns.length->W.onB L t s=true->W.onB L u s=true->t=u
theorem SameT.gd {W V:Wd} (h:SameT W V) (t:Nat):V.done.getD t 0=W.done.getD t 0/\V.head.getD t 0=W.head.getD t 0/\V.tail.getD t 0=W.tail.getD t 0/\V.gone.getD t false=W.gone.getD t false:=by
 obtain⟨a,b,c,d⟩:=h;rw[a,b,c,d]; exact⟨rfl,rfl,rfl,rfl⟩
theorem TrL.congr {L:Lay} {W V:Wd} {s t r:Nat} {x:RLn} {e:Bool} (hd:V.done.getD t 0=W.done.getD t 0) (hh:V.head.getD t 0=W.head.getD t 0) (ht:V.tail.getD t 0=W.tail.getD t 0) (h:TrL L W s t r x e):TrL L V s t r x e:=by
 have hr:V.rt L t=W.rt L t:=by unfold Wd.rt; rw[hd]
 unfold TrL Ahead at *;rw[hh,ht,hd,hr];rcases h with h | h | h | h
 ·exact .inl h
 ·exact .inr (.inl h)
 ·exact .inr (.inr (.inl h))
 ·exact .inr (.inr (.inr ⟨h.ph,by rw[hd]; exact h.es,by rw[hd]; exact h.d,by rw[hd]; exact h.er,by rw[hh]; exact h.h,h.m⟩))
theorem TrL.up {L:Lay} {W:Wd} {s t r:Nat} {x:RLn} (h:TrL L W s t r x false) (e:Bool):TrL L W s t r x e:=by
 rcases h with h | h | h | h
 ·exact .inl h
 ·cases h.1
 ·refine .inr (.inr (.inl ⟨h.1,h.2.ph,h.2.h0,h.2.hl,h.2.tt,h.2.tn,h.2.g,fun i hi hl=>h.2.m1 i hi ?_,h.2.m2⟩))
  have:=h.2.tt;cases e with
  | false=>exact hl
  | true=>
   rw[if_pos rfl] at hl;rw[if_neg (by decide)];omega
 ·exact .inr (.inr (.inr h))
theorem Trs.sameT {L:Lay} {C:RBx} {W V:Wd} {e:Nat->Bool} (h:Trs L C W e) (hs:SameT W V):Trs L C V e:=by
 refine⟨fun r hr=>?_,fun t ht hn=>?_,fun t ht hg=>?_,fun t ht=>?_,fun t ht=>?_,fun r s t hl ht ho=>?_,fun t u s ht hu h1 h2=>?_⟩
 ·obtain⟨a,b,c,-⟩:=hs.gd (C.line r).train
  exact(h.ln r hr).congr a b c
 ·obtain⟨a,b,-⟩:=hs.gd t
  rw[a,b]; exact h.no t ht hn
 ·obtain⟨a,b,c,d⟩:=hs.gd t
  rw[a]; exact h.gn t ht (by rw[<-d]; exact hg)
 ·rw[(hs.gd t).1]; exact h.dl t ht
 ·rw[(hs.gd t).2.1]; exact h.hb t ht
 ·rw[hs.on] at ho; exact h.A r s t hl ht ho
 ·rw[hs.on] at h1 h2; exact h.po t u s ht hu h1 h2
theorem psec_mem {L:Lay} {r i:Nat} (hi:i < plen L r):psec L r i∈secs (L.rt r).path:=by
 unfold psec;rw[z05 hi];exact List.getElem_mem hi
theorem psec_inj {L:Lay} (hT:LayT L) {r i j:Nat} (hr:r < L.rts.length) (hi:i < plen L r) (hj:j < plen L r) (e:psec L r i=psec L r j):i=j:=by
 unfold psec at e;rw[z05 hi,z05 hj] at e;have hp:=List.pairwise_iff_getElem.1 (hT.ok r hr).pn;rcases Nat.lt_trichotomy i j with h | h | h
 ·exact absurd e (hp i j hi hj h)
 ·exact h
 ·exact absurd e.symm (hp j i hj hi h)
theorem z4x {L:Lay} (hT:LayT L) {r i:Nat} (hr:r < L.rts.length) (hi:i < plen L r):psec L r i≠(L.rt r).foot:=fun e=>hT.ft r hr (by rw[<-e]; exact psec_mem hi)
theorem plen_pos {L:Lay} (hT:LayT L) {r:Nat} (hr:r < L.rts.length):0 < plen L r:=by
 have:=(hT.ok r hr).ne;unfold plen;rw[z0o];exact List.length_pos_iff.2 this
theorem plen_le {L:Lay} (hT:LayT L) {r:Nat} (hr:r < L.rts.length):plen L r<=6:=by
 unfold plen;rw[z0o];exact(hT.ok r hr).pl
theorem psec_lt {L:Lay} (hT:LayT L) {r i:Nat} (hr:r < L.rts.length) (hi:i < plen L r):psec L r i < L.sw.length:=by
 have:=psec_mem hi;unfold secs at this;obtain⟨y,hy,e⟩:=List.mem_map.1 this;rw[<-e];exact((hT.ok r hr).ps y hy).1
theorem psec_end {L:Lay} (hT:LayT L) {r:Nat} (hr:r < L.rts.length):L.endOf r=psec L r (plen L r - 1):=by
 have hp:=plen_pos hT hr;unfold psec Lay.endOf;rw[z05 (by unfold plen at *; omega)];exact(lastN_secs _ hp).symm
theorem lock_iff {L:Lay} {C:RBx} (hL:C.L=L) {r i:Nat} (hi:i < plen L r) (hp:(C.line r).ph≠46) (hg:(C.line r).gone<=i):C.lockB (psec L r i) r=true:=by
 unfold RBx.lockB;simp only[Bool.and_eq_true,bne_iff_ne,ne_eq,List.contains_iff_mem];refine⟨hp,?_⟩;rw[hL];unfold psec;rw[z05 hi,List.mem_iff_getElem];unfold plen at hi;refine⟨i - (C.line r).gone,by rw[List.length_drop]; omega,?_⟩;rw[List.getElem_drop]
 congr 1
 omega
theorem lock_ix {L:Lay} {C:RBx} (hL:C.L=L) {r s:Nat} (h:C.lockB s r=true):(C.line r).ph≠46/\∃i,(C.line r).gone<=i/\i < plen L r/\psec L r i=s:=by
 unfold RBx.lockB at h;simp only[Bool.and_eq_true,bne_iff_ne,ne_eq,List.contains_iff_mem] at h;refine⟨h.1,?_⟩;obtain⟨j,hj,e⟩:=List.mem_iff_getElem.1 h.2;rw[hL,List.length_drop] at hj;refine⟨(C.line r).gone+j,by omega,by unfold plen; omega,?_⟩;unfold psec;rw[z05 (by omega),<-e,List.getElem_drop];simp only[hL]
theorem on_path {L:Lay} (hT:LayT L) {W:Wd} {t r s:Nat} (hr:r < L.rts.length) (hg:W.gone.getD t false=false) (hA:Ahead L W s t r) (h0:0<=W.head.getD t 0) (hl:W.head.getD t 0 < plen L r) (ht:-1<=W.tail.getD t 0) {i:Nat} (hi:i < plen L r):W.onB L t (psec L r i)=true↔W.tail.getD t 0<=i/\(i:Int)<=W.head.getD t 0:=by
 rw[z4a];refine⟨fun ⟨_,h⟩=>?_,fun ⟨h1,h2⟩=>⟨hg,.inr ⟨h0,i,h1,h2,?_⟩⟩⟩
 ·rcases h with h | ⟨-,j,h1,h2,e⟩
  ·omega
  ·rcases Int.lt_or_le j 0 with hj | hj
   ·have:j=-1:=by omega
    rw[this,place_neg,hA.2.2] at e;exact absurd e.symm (z4x hT hr hi)
   ·obtain⟨k,hk⟩:∃k:Nat,j=k:=⟨j.toNat,by omega⟩
    subst hk;rw[place_at,hA.2.2] at e;have:=psec_inj hT hr (i:=k) (j:=i) (by omega) hi e;omega
 ·rw[place_at,hA.2.2]; rfl
theorem on_foot {L:Lay} {W:Wd} {t r s:Nat} (hg:W.gone.getD t false=false) (hA:Ahead L W s t r) (h0:0<=W.head.getD t 0) (ht:W.tail.getD t 0=-1):W.onB L t (L.rt r).foot=true:=by
 rw[z4a];exact⟨hg,.inr ⟨h0,-1,by omega,by omega,by rw[place_neg,hA.2.2]⟩⟩
theorem on_stand {L:Lay} (hT:LayT L) {W:Wd} {t r s:Nat} (ht:t < L.tns.length) (hg:W.gone.getD t false=false) (hA:Ahead L W s t r) (h0:W.head.getD t 0 < 0):W.onB L t (L.rt r).foot=true:=by
 rw[z4a];exact⟨hg,.inl ⟨h0,by rw[z3k hT ht hA.2.1,hA.2.2]⟩⟩
theorem Trs.notGone {L:Lay} {C:RBx} {W:Wd} {e:Nat->Bool} (h:Trs L C W e) {s t r:Nat} (ht:t < L.tns.length) (hA:Ahead L W s t r):W.gone.getD t false=false:=by
 cases hg:W.gone.getD t false with
 | false=>rfl
 | true=>have:=h.gn t ht hg; have:=hA.2.1; omega
theorem step_e119 {C:RBx} (f:Fr) {r:Nat} (h:(C.line r).ph=119) (hb:C.broken r=false):C.step f r=if C.right f r&&!C.busy f r then C.put r ⟨103,(C.line r).train,true,(C.line r).marks,(C.line r).gone,(C.line r).count⟩ else C:=by
 unfold RBx.step;rw[if_pos h,if_neg (by rw[hb]; decide)]
theorem step_e103 {C:RBx} (f:Fr) {r:Nat} (h:(C.line r).ph=103) (hb:C.broken r=false):C.step f r=if C.inB f r then C.overtaken r else if !C.right f r||C.busy f r then C.put r ((C.line r).withP 119) else C:=by
 unfold RBx.step;rw[if_neg (by omega),if_pos h,if_neg (show ¬C.broken r=true by rw[hb]; decide)]
theorem step_e116 {C:RBx} (f:Fr) {r:Nat} (h:(C.line r).ph=116):C.step f r=C.passed f r:=by
 unfold RBx.step;rw[if_neg (by omega),if_neg (by omega),if_pos h]
def bef (L:Lay) (r i:Nat):Nat:=if 0 < i then psec L r (i - 1) else (L.rt r).foot
def Stood (L:Lay) (W:Wd) (s t r:Nat) (x:RLn):Prop:=(x.ph=119\/x.ph=103)/\Ahead L W s t r/\W.head.getD t 0 < 0
def Going (L:Lay) (W:Wd) (s t r:Nat) (x:RLn) (e:Bool):Prop:=Ahead L W s t r/\OnIt x (W.head.getD t 0) (W.tail.getD t 0) (plen L r) e
def Enter0 (L:Lay) (W:Wd) (s t r:Nat) (x:RLn):Prop:=x.ph=103/\Ahead L W s t r/\W.head.getD t 0=0/\W.tail.getD t 0=-1
def StepT (L:Lay) (W:Wd) (f:Fr) (C:RBx) (s t r:Nat) (x y:RLn):Prop:=
 (Stood L W s t r x/\Stood L W s t r y/\y.train=t/\y.gone=x.gone/\(C.right f r=true->C.busy f r=false->y.ph=103)) ∨
 ((Enter0 L W s t r x\/Going L W s t r x true)/\Going L W s t r y false/\y.train=t) ∨
 (PastIt L W s t r x/\y=RLn0) ∨
 (PastIt L W s t r x/\PastIt L W s t r y/\y.train=t/\(x.gone+1 < plen L r->y.gone=x.gone+1)/\(x.gone+1=plen L r->W.takenB L (bef L r x.gone)=true/\y.gone=x.gone))
theorem ov_get (n i:Nat) (h:(z1x n).getD i false=true):i=0:=by
 unfold z1x at h;by_cases e:i=0
 ·exact e
 ·rw[z0h _ _ _ _ _ e,List.getD_eq_getElem?_getD,List.getElem?_replicate] at h
  split at h <;> cases h
theorem ov_zero (n:Nat) (h:0 < n):(z1x n).getD 0 false=true:=by
 unfold z1x;rw[z0d _ _ _ _ _ (by simpa using h),if_pos rfl]
theorem step_tr {L:Lay} {C C':RBx} {W:Wd} {f:Fr} (hT:LayT L) (hi:Inv C) (hL:C.L=L) (hTr:Trs L C W (fun _=>true)) (hoc:∀x,x < L.sw.length->f.occ.getD x false=W.takenB L x) {r:Nat} (hl:C'.line r=C.line r) (hL':C'.L=L) (hr':r < C'.lines.length) (hb:C'.broken r=false) (hp:(C.line r).ph≠46) :
  StepT L W f C' (C.sta.getD (C.line r).train 0) (C.line r).train r (C.line r) ((C'.step f r).line r):=by
 have hr:r < L.rts.length:=by rw[<-hL,<-hi.ll]; exact z14 hp
 have hrC:r < C.L.rts.length:=by rw[hL]; exact hr
 have hpt:C'.pth r=secs (L.rt r).path:=by unfold RBx.pth; rw[hL']
 have hpu:∀x,(C'.put r x).line r=x:=fun x=>by rw[z13 C' r r x hr',if_pos rfl]
 have htr:=(hi.tr r hrC hp).1;rw[hL] at htr;have hA:=hTr.A r;have hli:=hi.li r hrC;have hln:=hTr.ln r hp;have hpp:=plen_pos hT hr;obtain⟨x,hx⟩:∃x,x=C.line r:=⟨_,rfl⟩
 obtain⟨t,ht⟩:∃t,t=x.train:=⟨_,rfl⟩
 have hlk:∀i,x.gone<=i->i < plen L r->C.lockB (psec L r i) r=true:=fun i h1 h2=>lock_iff hL h2 hp (by rw[<-hx]; exact h1);have hon:∀i,x.gone<=i->i < plen L r->f.occ.getD (psec L r i) false=true->W.onB L t (psec L r i)=true:=fun i h1 h2 h3=>by
  rw[hoc _ (psec_lt hT hr h2),z28] at h3;obtain⟨u,hu,ho⟩:=h3;have:=hA (psec L r i) u (hlk i h1 h2) hu ho;rw[<-hx,<-ht] at this;rw[<-this]; exact ho
 rw[<-hx] at hl hp htr hli hln ⊢;rw[<-ht] at htr hln ⊢;obtain⟨s,hs⟩:∃s,s=C.sta.getD t 0:=⟨_,rfl⟩
 rw[<-hs] at hln ⊢;have hof:∀y,y < L.sw.length->W.onB L t y=true->f.occ.getD y false=true:=fun y hy ho=>by
  rw[hoc y hy,z28]; exact⟨t,htr,ho⟩
 rcases hln with hS | ⟨-,hE1,hE2,hE3,hE4⟩ | hO | hP
 ·have hg0:x.gone=0:=hli.g0 (by omega)
  have hng:=hTr.notGone htr hS.2.1;have hno:∀i,i < plen L r->f.occ.getD (psec L r i) false=false:=fun i h2=>by
   cases hoo:f.occ.getD (psec L r i) false with
   | false=>rfl
   | true=>
    exfalso;have:=hon i (by omega) h2 hoo;rw[z4a] at this;rcases this.2 with ⟨-,e⟩ | ⟨e,-⟩
    ·rw[z3k hT htr hS.2.1.2.1,hS.2.1.2.2] at e
     exact z4x hT hr h2 e.symm
    ·have:=hS.2.2; omega
  refine .inl ⟨hS,?_⟩;rcases hS.1 with e | e
  ·rw[step_e119 f (by rw[hl]; exact e) hb]
   by_cases hc:(C'.right f r&&!C'.busy f r)=true
   ·rw[if_pos hc,hpu,hl]
    exact⟨⟨.inr rfl,hS.2⟩,ht.symm,rfl,fun _ _=>rfl⟩
   ·rw[if_neg hc,hl]
    refine⟨hS,ht.symm,rfl,fun h1 h2=>?_⟩;rw[h1,h2] at hc;exact absurd rfl hc
  ·have hin:C'.inB f r=false:=by
    unfold RBx.inB;rw[hpt];exact hno 0 hpp
   rw[step_e103 f (by rw[hl]; exact e) hb,if_neg (by rw[hin]; decide)];by_cases hc:(!C'.right f r||C'.busy f r)=true
   ·rw[if_pos hc,hpu,hl]
    refine⟨⟨.inl rfl,hS.2⟩,ht.symm,rfl,fun h1 h2=>?_⟩;rw[h1,h2] at hc;cases hc
   ·rw[if_neg hc,hl]
    exact⟨hS,ht.symm,rfl,fun _ _=>e⟩
 ·have hg0:x.gone=0:=hli.g0 (by omega)
  have hng:=hTr.notGone htr hE2;have h0:W.onB L t (psec L r 0)=true:=(on_path hT hr hng hE2 (by omega) (by omega) (by omega) hpp).2 ⟨by omega,by omega⟩;have hin:C'.inB f r=true:=by
   unfold RBx.inB;rw[hpt];exact hof _ (psec_lt hT hr hpp) h0
  refine .inr (.inl ⟨.inl ⟨hE1,hE2,hE3,hE4⟩,?_⟩);rw[step_e103 f (by rw[hl]; exact hE1) hb,if_pos hin];have e:(C'.overtaken r).line r={ C'.line r with marks:=z1x (C'.L.rt r).path.length,ph:=116 }:=by
   unfold RBx.overtaken RBx.line;rw[z0d _ _ _ _ _ hr',if_pos rfl]
  rw[e,hl,hL'];refine⟨⟨hE2,rfl,by omega,by omega,by omega,by omega,.inl hg0,fun i _ h2=>?_,fun i _ h2=>?_⟩,ht.symm⟩
  ·simp only[Bool.false_eq_true,if_false] at h2
   have:i=0:=by omega
   subst this;exact ov_zero _ (by rw[<-z0o]; exact hpp)
  ·have:=ov_get _ _ h2
   omega
 ·obtain⟨hAh,hO⟩:=hO
  have hng:=hTr.notGone htr hAh;have hml:=(hli.ps hO.ph).1;rw[hL] at hml;have hgl:=(hli.ps hO.ph).2;rw[hL] at hgl;have hpl:plen L r=(L.rt r).path.length:=by unfold plen; rw[z0o]
  have htt:=hO.tt;have hh0:=hO.h0;have hhl:=hO.hl;have hop:∀i,x.gone<=i->i < plen L r->(f.occ.getD (psec L r i) false=true↔W.tail.getD t 0<=i/\(i:Int)<=W.head.getD t 0):=fun i h1 h2=>
   ⟨fun h=>(on_path hT hr hng hAh hh0 hhl (by omega) h2).1 (hon i h1 h2 h),fun h=>hof _ (psec_lt hT hr h2) ((on_path hT hr hng hAh hh0 hhl (by omega) h2).2 h)⟩
  obtain⟨m,hm⟩:∃m,m=markN x.marks (secs (L.rt r).path) f.occ (secs (L.rt r).path).length:=⟨_,rfl⟩
  have hmg:∀i,i < plen L r->m.getD i false=(x.marks.getD i false||f.occ.getD (psec L r i) false):=fun i h2=>by
   rw[hm,markN_get _ _ _ i (by omega)];have:decide (i < (secs (L.rt r).path).length)=true:=by simpa [plen] using h2
   rw[this,Bool.true_and]; rfl
  have hm1:∀i:Nat,x.gone<=i->(i:Int)<=W.head.getD t 0->m.getD i false=true:=fun i h1 h2=>by
   rw[hmg i (by omega)];rcases Int.lt_or_le (W.tail.getD t 0) i with h3 | h3
   ·rw[(hop i h1 (by omega)).2 ⟨by omega,h2⟩,Bool.or_true]
   ·rw[hO.m1 i h1 (by simpa using h3),Bool.true_or]
  have hm2:∀i:Nat,x.gone<=i->m.getD i false=true->(i:Int)<=W.head.getD t 0:=fun i h1 h2=>by
   rcases Nat.lt_or_ge i (plen L r) with h3 | h3
   ·rw[hmg i h3] at h2
    rcases Bool.or_eq_true _ _ ▸ h2 with h4 | h4
    ·exact hO.m2 i h1 h4
    ·exact((hop i h1 h3).1 h4).2
   ·rw[List.getD_eq_getElem?_getD,List.getElem?_eq_none (by rw[hm,markN_len]; omega)] at h2
    cases h2
  have hk:C'.mkd f r={ x with marks:=m }:=by
   unfold RBx.mkd;rw[hl,hpt,<-hm]
  refine .inr (.inl ⟨.inr ⟨hAh,hO⟩,?_⟩);rw[step_e116 f (by rw[hl]; exact hO.ph)];have same:Going L W s t r { x with marks:=m } false/\({ x with marks:=m }:RLn).train=t:=⟨⟨hAh,hO.ph,hO.h0,hO.hl,hO.tt,hO.tn,hO.g,fun i h1 h2=>hm1 i h1 (by simpa using h2),hm2⟩,ht.symm⟩
  unfold RBx.passed;rw[hk,hl,hpt];by_cases c1:m.getD x.gone false=false
  ·rw[if_pos c1,hpu]; exact same
  ·rw[if_neg c1]
   by_cases c2:x.gone+1 < (secs (L.rt r).path).length
   ·rw[if_pos c2]
    by_cases c3:f.occ.getD ((secs (L.rt r).path).getD x.gone 0) false=false/\m.getD (x.gone+1) false=true
    ·rw[if_pos c3,hpu]
     have h1:=hm2 (x.gone+1) (by omega) c3.2;have h2:¬(W.tail.getD t 0<=(x.gone:Nat)/\((x.gone:Nat):Int)<=W.head.getD t 0):=fun h=>by
      have:=(hop x.gone (Nat.le_refl _) (by unfold plen; omega)).2 h;have h3:=c3.1;unfold psec at this;rw[this] at h3;cases h3
     have h3:(x.gone:Int)+1<=W.tail.getD t 0:=by omega
     exact⟨⟨hAh,hO.ph,hO.h0,hO.hl,hO.tt,hO.tn,.inr (by show ((x.gone+1:Nat):Int)<=_; omega),fun i h4 h5=>hm1 i (by have h4':x.gone+1<=i:=h4; omega) (by simpa using h5),fun i h4 h5=>hm2 i (by have h4':x.gone+1<=i:=h4; omega) h5⟩,ht.symm⟩
    ·rw[if_neg c3,hpu]; exact same
   ·rw[if_neg c2]
    have hge:x.gone+1=plen L r:=by unfold plen at hpl ⊢; omega
    have c1':m.getD x.gone false=true:=by simpa using c1
    have h1:=hm2 x.gone (Nat.le_refl _) c1';have h2:W.tail.getD t 0=W.head.getD t 0 - 1:=by
     rcases htt with e | e
     ·have:=hO.tn e; omega
     ·exact e
    have hbo:f.occ.getD (if 0 < x.gone then (secs (L.rt r).path).getD (x.gone - 1) 0 else (L.rt r).foot) false=true:=by
     by_cases g0:0 < x.gone
     ·rw[if_pos g0]
      refine hof _ (psec_lt hT hr (i:=x.gone - 1) (by omega)) ((on_path hT hr hng hAh hh0 hhl (by omega) (by omega)).2 ⟨by omega,by omega⟩)
     ·rw[if_neg g0]
      exact hof _ (hT.ok r hr).foot (on_foot hng hAh hh0 (by omega))
    rw[hL',if_pos hbo,hpu]; exact same
 ·have hml:=(hli.ps hP.ph).1
  rw[hL] at hml;have hgl:=(hli.ps hP.ph).2;rw[hL] at hgl;have hpl:plen L r=(L.rt r).path.length:=by unfold plen; rw[z0o]
  obtain⟨m,hm⟩:∃m,m=markN x.marks (secs (L.rt r).path) f.occ (secs (L.rt r).path).length:=⟨_,rfl⟩
  have hm1:∀i,x.gone<=i->i < plen L r->m.getD i false=true:=fun i h1 h2=>by
   rw[hm,markN_get _ _ _ i (by omega),hP.m i h1 h2,Bool.true_or]
  have hk:C'.mkd f r={ x with marks:=m }:=by
   unfold RBx.mkd;rw[hl,hpt,<-hm]
  rw[step_e116 f (by rw[hl]; exact hP.ph)];unfold RBx.passed;rw[hk,hl,hpt];have hc1:m.getD x.gone false=true:=hm1 _ (Nat.le_refl _) (by omega);rw[if_neg (by show ¬m.getD x.gone false=false; rw[hc1]; decide)];by_cases c2:x.gone+1 < (secs (L.rt r).path).length
  ·rw[if_pos c2]
   have hno:f.occ.getD ((secs (L.rt r).path).getD x.gone 0) false=false:=by
    cases hoo:f.occ.getD ((secs (L.rt r).path).getD x.gone 0) false with
    | false=>rfl
    | true=>
     exfalso;have h1:=hon x.gone (Nat.le_refl _) (by omega) hoo;rw[z4a] at h1;rcases h1.2 with ⟨-,e⟩ | ⟨e,-⟩
     ·unfold Wd.stand at e
      rw[if_neg (by have:=hP.d; omega),hP.er,psec_end hT hr] at e;have:=psec_inj hT hr (by omega) (by omega) e;unfold plen at this;omega
     ·have:=hP.h; omega
   rw[if_pos ⟨hno,hm1 (x.gone+1) (by omega) c2⟩,hpu];refine .inr (.inr (.inr ⟨hP,⟨hP.ph,hP.es,hP.d,hP.er,hP.h,fun i h1 h2=>hm1 i (by have h1':x.gone+1<=i:=h1; omega) h2⟩,ht.symm,fun _=>rfl,fun e=>?_⟩));unfold plen at e;omega
  ·rw[if_neg c2]
   have hge:x.gone+1=plen L r:=by unfold plen at hpl ⊢; omega
   rw[hL'];by_cases c3:f.occ.getD (if 0 < x.gone then (secs (L.rt r).path).getD (x.gone - 1) 0 else (L.rt r).foot) false=true
   ·rw[if_pos c3,hpu]
    refine .inr (.inr (.inr ⟨hP,⟨hP.ph,hP.es,hP.d,hP.er,hP.h,hm1⟩,ht.symm,fun e=>by omega,fun _=>⟨?_,rfl⟩⟩));have hlt:bef L r x.gone < L.sw.length:=by
     unfold bef;split
     ·exact psec_lt hT hr (by omega)
     ·exact(hT.ok r hr).foot
    rw[<-hoc _ hlt];exact c3
   ·rw[if_neg c3,hpu]
    exact .inr (.inr (.inl ⟨hP,rfl⟩))
theorem grant_fl (C:RBx) (f:Fr) (t:Nat):(C.grant f t).failed=C.failed/\(C.grant f t).late=C.late:=by
 unfold RBx.grant;split
 ·have h:=rwantN_pres ({ C with sta:=C.more t }:RBx) (C.nxt t) C.L.sw.length
  exact⟨h.2.2.2.2.2.1,h.2.2.2.2.2.2⟩
 ·exact⟨rfl,rfl⟩
theorem grantN_fl (C:RBx) (f:Fr):∀k,(C.grantN f k).failed=C.failed/\(C.grantN f k).late=C.late
 | 0=>⟨rfl,rfl⟩
 | k+1=>by
  obtain⟨a,b⟩:=grantN_fl C f k;obtain⟨a',b'⟩:=grant_fl (C.grantN f k) f (C.waits.getD k 0);exact⟨a'.trans a,b'.trans b⟩
theorem s4_late (C:RBx) (f:Fr):(C.s4 f).late=(C.s1 f).late/\(C.s4 f).failed=(C.s3 f).failed/\(C.s2 f).failed=(C.s1 f).failed:=by
 obtain⟨a,b⟩:=grantN_fl (C.s3 f) f (C.s3 f).waits.length;have h3:(C.s3 f).late=(C.s2 f).late:=(z56 (C.s2 f) f _).2.2.1;have h2:=z27 (C.s1 f) f (C.s1 f).lines.length;exact⟨(b.trans h3).trans h2.2.2.2.1,a,h2.2.2.1⟩
theorem watch1_other (C:RBx) (f:Fr) {k s:Nat} (h:s≠k):(C.watch1 f k).late.getD s 0=C.late.getD s 0/\(C.watch1 f k).failed.getD s false=C.failed.getD s false:=by
 unfold RBx.watch1;split
 ·simp only
  exact⟨by rw[z0h _ _ _ _ _ h,z0h _ _ _ _ _ h],z0h _ _ _ _ _ h⟩
 ·exact⟨z0h _ _ _ _ _ h,rfl⟩
theorem held_same {C C':RBx} (hl:C'.lines=C.lines) (hL:C'.L=C.L) (s:Nat):C'.heldB s=C.heldB s:=by
 unfold RBx.heldB RBx.lockedBy RBx.lockB RBx.flankB RBx.line;rw[hl,hL]
theorem watchN_before (C:RBx) (f:Fr) (s:Nat):∀k,k<=s->(C.watchN f k).late.getD s 0=C.late.getD s 0/\(C.watchN f k).failed.getD s false=C.failed.getD s false
 | 0,_=>⟨rfl,rfl⟩
 | k+1,hk=>by
  obtain⟨a,b⟩:=watchN_before C f s k (by omega);obtain⟨a',b'⟩:=watch1_other (C.watchN f k) f (k:=k) (s:=s) (by omega);exact⟨a'.trans a,b'.trans b⟩
theorem watchN_at (C:RBx) (f:Fr) {s:Nat} (hf:s < C.failed.length) (hd:s < C.late.length):∀k,s < k →
  (C.watchN f k).late.getD s 0=(if C.lateF f s=C.L.T then 0 else C.lateF f s)/\(C.watchN f k).failed.getD s false=(C.failed.getD s false||decide (C.lateF f s=C.L.T))
 | 0,h=>absurd h (Nat.not_lt_zero _)
 | k+1,h=>by
  by_cases e:s=k
  ·subst e
   obtain⟨a,b⟩:=watchN_before C f s s (Nat.le_refl _);obtain⟨p1,p2,p3,-,-,p6,p7⟩:=watchN_pres C f s;show ((C.watchN f s).watch1 f s).late.getD s 0=_/\((C.watchN f s).watch1 f s).failed.getD s false=_;have el:(C.watchN f s).lateF f s=C.lateF f s:=by
    unfold RBx.lateF;rw[a,b,p3,p1,held_same p2 p1]
   unfold RBx.watch1;rw[el,p1];by_cases ht:C.lateF f s=C.L.T
   ·rw[if_pos ht,if_pos ht]
    simp only;rw[z0d _ _ _ _ _ (by rw[List.length_set,p7]; exact hd),if_pos rfl,z0d _ _ _ _ _ (by rw[p6]; exact hf),if_pos rfl];simp[ht]
   ·rw[if_neg ht,if_neg ht]
    simp only;rw[z0d _ _ _ _ _ (by rw[p7]; exact hd),if_pos rfl,b];simp[ht]
  ·obtain⟨a,b⟩:=watchN_at C f hf hd k (by omega)
   obtain⟨a',b'⟩:=watch1_other (C.watchN f k) f (k:=k) (s:=s) e;exact⟨a'.trans a,b'.trans b⟩
end Go.Proofs.YtkbpocecbcaiiabGreatDoor
