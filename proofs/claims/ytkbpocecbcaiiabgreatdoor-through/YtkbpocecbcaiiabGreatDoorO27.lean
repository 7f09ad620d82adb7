import Derived.Test.YtkbpocecbcaiiabGreatDoorO25
namespace Go.Proofs.YtkbpocecbcaiiabGreatDoor
open Go.RowKit
def RBx.canc (C:RBx) (r:Nat):Bool:=(C.line r).ph==119||(C.line r).ph==103||(C.line r).ph==102
def RBx.cancel (C:RBx) (f:Fr) (r:Nat):RBx:=
 if C.canc r then C.put r ⟨100,(C.line r).train,(C.line r).been,(C.line r).marks,(C.line r).gone,if (C.line r).been&&f.occ.getD (C.L.rt r).foot false then C.L.D else 0⟩ else C
theorem only_grown {w w1:World} {o:Obj} {row:Option Nat} (h:(w.alloc o).grownBy w1 row):Only (fun b=>row=some b) w w1:=
 ⟨h.os,h.tape,h.output,by have:=h.size; simp at this; omega,fun k hk hf=>by
  rw[h.block k (by simp; omega) (fun e=>hf e.symm)];exact Below.heap_alloc _ _ _ hk⟩
def RBx.askA (C:RBx) (t:Nat):Nat:=
 if C.sta.getD t 0=(C.L.tn t).jny.length then 100 else if 0 < z26 C.waits t then 116 else if C.waits.length=C.L.Q then 102 else 113
def RBx.ask (C:RBx) (t:Nat):RBx:=if C.askA t=113 then { C with waits:=C.waits++[t] } else C
def PBx.nextR (B:PBx) (t:Nat):Option Nat:=if t < B.L.tns.length/\t < B.sta.length then (B.L.tn t).jny[B.sta.getD t 0]? else none
set_option maxRecDepth 100000 in
set_option maxHeartbeats 2000000 in
theorem nextRoute_any (g:Nat) (B:PBx) (t:Nat) (w:World) (h:PBoxAt w g B) :
  Calls Tryz.prog 110 #[.pointer (some ⟨g,0,none⟩),.int .i64 t] w fun e w'=>e=.returned (.tuple #[.int .i64 (optN (B.nextR t)),.bool (B.nextR t).isSome])/\Below w.heap.size w w':=by
 obtain⟨vs,vr,vt,vl,vw,va,vq,hB,hCL,-,-,hA,-⟩:=h;have HHT:=zh (HasTrain_any _ B.L t w hCL);obtain⟨_,_,_,he,hS,hRo,hT⟩:=hCL;simp only[Value.agg.injEq,Array.mk.injEq,List.cons.injEq,and_true,true_and] at he;obtain⟨rfl,rfl,rfl⟩:=he;obtain⟨⟨q0,q1,q2,q3,q4,q5,-,-,q8,-⟩,-,qg⟩:=box10 hB;obtain⟨b1,e1,rfl,-⟩:=SlAt.open hS;obtain⟨b2,e2,rfl,-⟩:=SlAt.open hRo;obtain⟨b3,e3,rfl,-,m3,t3⟩:=SlAt.open hT;obtain⟨b4,e4,rfl,-,m4,a3⟩:=SlAt.open hA;unfold maxLen at m3 m4;obtain⟨Z,hZ⟩:∃Z,Z=B.nextR t:=⟨_,rfl⟩
 rw[<-hZ];unfold PBx.nextR at hZ;have HBX:=zh (And.intro q5 q8);have l0:(0:Int)<=t:=by omega
 clear hS hRo hT hA hB;by_cases ht:t < B.L.tns.length
 ·rw[decide_eq_true ht] at HHT
  have l1:(t:Int) < B.L.tns.length:=by omega
  by_cases hs:t < B.sta.length
  ·rw[if_pos ⟨ht,hs⟩,tn_eq B.L t ht,z1f _ _ _ hs] at hZ
   obtain⟨gt,ot,rfl,hgt,cs,-,hC,hc⟩:=t3 t ht;obtain⟨vj,rfl,hJ⟩:=hC;obtain⟨aj,cj,rfl,-,mj,j3⟩:=SlAt.open hJ;unfold maxLen at mj;have d1:=hc 1 (by omega);simp at d1;obtain⟨ga,oa,rfl,hga,csa,-,hCa,hca⟩:=a3 t hs;unfold CInt at hCa;subst hCa;have x0:=hca 0 (by omega);simp at x0;have l2:(t:Int) < B.sta.length:=by omega
   have l2':¬(B.sta.length:Int)<=t:=by omega
   have J3:=zh j3;have HC:=zh (And.intro d1 x0);clear hc hca t3 a3 hJ j3 d1 x0;generalize B.L.tns[t].jny=J at *;generalize B.sta[t]=c at *;generalize B.L.tns.length=nt at *;generalize B.sta.length=ns at *;clear ht hs;go_enter Tryz.func110,Tryz.ntmps110
   go_wp2_with fail
   refine(uh HHT).mono ?_;rintro e w1 ⟨rfl,hb1⟩;have HB1:=zh hb1;clear q0 q1 q2 q3 q4 q5 q8;obtain⟨q5,q8⟩:=uh HBX;obtain⟨d1,x0⟩:=uh HC;rw[<-hb1.cell (p:=⟨g,_,none⟩) qg] at q5 q8;rw[<-hb1.cell (p:=⟨gt,_,none⟩) hgt] at d1;rw[<-hb1.cell (p:=⟨ga,_,none⟩) hga] at x0;by_cases hcl:c < J.length
   ·rw[List.getElem?_eq_getElem hcl] at hZ
    obtain⟨gj,oj,hj,hgj,csj,-,hCj,hcj⟩:=uh J3 c hcl;subst hj;unfold CInt at hCj;subst hCj;have z0:=hcj 0 (by omega);simp at z0;rw[<-hb1.cell (p:=⟨gj,_,none⟩) hgj] at z0;have l3:(c:Int) < J.length:=by omega
    have l4:¬(c:Int) < 0:=by omega
    have l5:(0:Int)<=c:=by omega
    have l6:¬(J.length:Int)<=c:=by omega
    have HZ:=zh hZ;clear hcj hb1 hZ;generalize J[c]=r at *;clear hcl;go_wp2
    go_ret2
    exact⟨by rw[uh HZ]; rfl,uh HB1⟩
   ·have hz:Z=none:=by rw[hZ,List.getElem?_eq_none (by omega)]
    have HZ:=zh hz;have l4:¬(c:Int) < 0:=by omega
    have l6:(J.length:Int)<=c:=by omega
    clear hb1 hZ hcl hz;go_wp2
    go_ret2
    exact⟨by rw[uh HZ]; rfl,uh HB1⟩
  ·rw[if_neg (fun h=>hs h.2)] at hZ
   have HZ:=zh hZ;have l2:(B.sta.length:Int)<=t:=by omega
   clear t3 a3 ht hs hZ;generalize B.L.tns.length=nt at *;generalize B.sta.length=ns at *;go_enter Tryz.func110,Tryz.ntmps110
   go_wp2_with fail
   refine(uh HHT).mono ?_;rintro e w1 ⟨rfl,hb1⟩;have HB1:=zh hb1;clear q0 q1 q2 q3 q4 q5 q8;obtain⟨q5,q8⟩:=uh HBX;rw[<-hb1.cell (p:=⟨g,_,none⟩) qg] at q5 q8;clear hb1;go_wp2
   go_ret2
   exact⟨by rw[uh HZ]; rfl,uh HB1⟩
 ·rw[if_neg (fun h=>ht h.1)] at hZ
  have HZ:=zh hZ;rw[decide_eq_false ht] at HHT;clear t3 a3 ht hZ;go_enter Tryz.func110,Tryz.ntmps110
  go_wp2_with fail
  refine(uh HHT).mono ?_;rintro e w1 ⟨rfl,hb1⟩;have HB1:=zh hb1;clear q0 q1 q2 q3 q4 q5 q8 hb1;go_wp2
  go_ret2
  exact⟨by rw[uh HZ]; rfl,uh HB1⟩
theorem PM.appendWaits {w w1:World} {R:Nat->Prop} {g:Nat} {B:PBx} {vs vr vt vl vw va vq:Value} {qs:List Q3} {o:Obj} {g' cap t:Nat} (h:PM w R g B vs vr vt vl vw va vq qs)
  (hown:w1.ownsRow 0 3 1 (.slice (some ⟨g',0,none⟩) (B.waits.length+1) cap) (B.waits.length+1) (intsV B.waits++[.int .i64 t])) (hg:(w.alloc o).grownBy w1 vq.ownBlock) (hat:vq.ownBlock=some g'\/g'=w.heap.size+1) :
  PM (w1.setCell ⟨g,9,none⟩ (.slice (some ⟨g',0,none⟩) (B.waits.length+1) cap)) R g { B with waits:=B.waits++[t] } vs vr vt vl vw va (.slice (some ⟨g',0,none⟩) (B.waits.length+1) cap) qs:=by
 have hk:∀e,3≠e->Keeps e w w1:=fun e he=>z0f h.waits hg he;have hbox:w1.heap[g]?=_:=(hk _ (by decide) _ _ _ h.box).trans h.box;have hT:Typed w1 g 86:=⟨_,_,hbox⟩
 have ks:∀e,86≠e->Keeps e w1 (w1.setCell ⟨g,9,none⟩ (.slice (some ⟨g',0,none⟩) (B.waits.length+1) cap)):=fun e he=>Keeps.setCell _ _ hT he;have kk:=fun e (h1:3≠e) (h2:86≠e)=>(hk e h1).trans (ks e h2);have hblk:∀k,k < w.heap.size->vq.ownBlock≠some k->w1.heap[k]?=w.heap[k]?:=fun k hk hn=>by
  rw[hg.block k (by simp; omega) (fun e=>hn e.symm)];exact Below.heap_alloc _ _ _ hk
 have hsz:w.heap.size<=w1.heap.size:=by have:=hg.size; simp at this; omega
 have hsR:SameOn R w (w1.setCell ⟨g,9,none⟩ (.slice (some ⟨g',0,none⟩) (B.waits.length+1) cap)):=fun k hkR=>by
  rw[Below.heap_setCell _ _ _ _ (fun e=>h.out g (.inl rfl) (by have e':k=g:=e; rw[e'] at hkR; exact hkR))];exact hblk k (h.plan.1 k hkR) (fun e=>h.out k (.inr (.inr (.inr (.inr (.inl e))))) hkR)
 refine { box:=?_,plan:=?_,items:=?_,routes:=?_,qlen:=h.qlen,marks:=?_,sws:=?_,sta:=?_,waits:=?_,smm:=h.smm,saq:=?_,out:=?_ }
 ·exact z0b _ hbox
 ·exact h.plan.same hsR (by simp[World.setCell]; exact hsz)
 ·exact h.items.same hsR
 ·exact z06 h.routes (kk _ (by decide) (by decide))
 ·exact fun i a b=>z06 (h.marks i a b) (kk _ (by decide) (by decide))
 ·exact z06 h.sws (kk _ (by decide) (by decide))
 ·have h1:=(h.sta.alloc o).kept hg (by
   cases hv:va.ownBlock with
   | none=>exact .inl rfl
   | some b=>exact .inr (fun e=>h.saq b hv e.symm))
  exact z06 h1 (ks _ (by decide))
 ·have h1:=z06 hown (ks _ (by decide))
  have e:intsV B.waits++[.int .i64 (t:Int)]=intsV (B.waits++[t]):=(z0x _ _).symm;rw[e] at h1
  simpa using h1
 ·intro b hb e
  have e':g'=b:=by simpa [Value.ownBlock] using e
  rcases hat with h1 | h1
  ·exact h.saq b hb (by rw[<-e']; exact h1)
  ·have:=(h.sta.lt b hb).2; omega
 ·intro b hb
  rcases hb with hb | hb | hb | hb | hb | hb
  ·exact h.out b (.inl hb)
  ·exact h.out b (.inr (.inl hb))
  ·exact h.out b (.inr (.inr (.inl hb)))
  ·exact h.out b (.inr (.inr (.inr (.inl hb))))
  ·have e':g'=b:=by simpa [Value.ownBlock] using hb
   subst e';rcases hat with h1 | h1
   ·exact h.out g' (.inr (.inr (.inr (.inr (.inl h1)))))
   ·intro hR
    have:=h.plan.1 _ hR;omega
  ·exact h.out b (.inr (.inr (.inr (.inr (.inr hb)))))
def PBx.askA (B:PBx) (t:Nat):Nat:=if (B.nextR t).isSome then (if B.waits.contains t then 116 else if B.L.Q<=B.waits.length then 102 else 113) else 100
def PBx.ask (B:PBx) (t:Nat):PBx:=if B.askA t=113 then { B with waits:=B.waits++[t] } else B
set_option maxRecDepth 100000 in
set_option maxHeartbeats 4000000 in
theorem request_any (R:Nat->Prop) (g:Nat) (B:PBx) (vs vr vt vl vw va vq:Value) (qs:List Q3) (t:Nat) (w:World) (h:PM w R g B vs vr vt vl vw va vq qs) (hwl:B.waits.length<=1000) :
  Calls Tryz.prog 76 #[.pointer (some ⟨g,0,none⟩),.int .i64 t] w fun e w'=>e=.returned (.int .u8 (B.askA t)) ∧
   (∃vq',PM w' R g (B.ask t) vs vr vt vl vw va vq' qs/\∀b,vq'.ownBlock=some b->vq.ownBlock=some b\/w.heap.size<=b)/\Only (fun b=>b=g\/vq.ownBlock=some b) w w':=by
 have HNR:=zh (nextRoute_any g B t w h.at);obtain⟨aq,cq,hvq⟩:=z02 h.waits;subst hvq;have HM:=zh h;have HAS:=zh (PBx.ask.eq_1 B t);have HAA:=zh (PBx.askA.eq_1 B t);obtain⟨i0,hi0⟩:=info_parts Tryz.infoInt;have HII:=zh hi0;have hqi:Ints w (.slice aq B.waits.length cq) B.waits:=Ints.ofOwn h.waits rfl;obtain⟨aq',cq',he,hcq1,hcq2,w3⟩:=SlAt.open hqi;simp only[Value.slice.injEq,true_and] at he;obtain⟨rfl,rfl⟩:=he;unfold maxLen at hcq2;obtain⟨nw,hnw⟩:∃n,n=B.waits.length:=⟨_,rfl⟩
 have HNW:=zh hnw;have HW3:=zh w3;have qg:=z0g h.box;obtain⟨Z,hZ⟩:∃Z,B.askA t=Z:=⟨_,rfl⟩
 rw[hZ] at HAS HAA ⊢;rw[<-hnw] at HAA hwl hcq1 HM ⊢;clear hZ hi0 h hqi w3 hnw;go_enter Tryz.func76,Tryz.ntmps76
 go_wp2_with fail
 refine(uh HNR).mono ?_;rintro e w1 ⟨rfl,hb1⟩;have HB1:=zh hb1;have HM1:=zh ((uh HM).below hb1);obtain⟨⟨-,-,q2,-,-,-,-,-,-,q9⟩,⟨-,-,-,f9⟩,qg1⟩:=box10 (uh HM1).box;clear hb1 HNR;obtain⟨o,ho⟩:∃o,B.nextR t=o:=⟨_,rfl⟩
 rw[ho] at HAA ⊢;clear ho;have HSAME:=zh (show ∀n,PM (w1.drewN n) R g B vs vr vt vl vw va (.slice aq nw cq) qs/\Only (fun b=>b=g\/(Value.slice aq nw cq).ownBlock=some b) w (w1.drewN n) from fun n=>
  ⟨(uh HM1).below (below_drewN (Below.refl _ _) n),Only.of_below (below_drewN (uh HB1) n)⟩)
 cases o with
 | none=>
  have hz:Z=100:=uh HAA;subst hz;rw[if_neg (by simp)] at HAS;clear q2 q9 f9;simp only[optN,Option.isSome];go_wp2
  go_ret
  exact⟨rfl,⟨_,by rw[uh HAS]; exact uh HM1,fun b hb=>Or.inl hb⟩,Only.of_below (uh HB1)⟩
 | some r=>
  rw[show (some r).isSome=true from rfl,if_pos rfl] at HAA;simp only[optN,Option.isSome];go_wp2
  go_loopw [22] (fun i wr=>∃k:Nat,i=.int .i64 k/\k<=nw/\(∀j,j < k->∀h:j < B.waits.length,B.waits[j]≠t)/\wr=w1) (fun i _=>nw - (intOf i).toNat)
  case atStart=>exact⟨0,rfl,Nat.zero_le _,fun j h=>by omega,rfl⟩
  case round=>
   obtain⟨k,rfl,hk,hno,rfl⟩:=hrel;have HNO:=zh hno;clear hno;by_cases hlt:k < nw
   ·have hkB:k < B.waits.length:=by rw[<-uh HNW]; exact hlt
    obtain⟨gq,oq,hq,hgq,csq,-,hCq,hcq⟩:=uh HW3 k hkB;subst hq;unfold CInt at hCq;subst hCq;have x0:=hcq 0 (by omega);simp at x0;rw[<-(uh HB1).cell (p:=⟨gq,_,none⟩) hgq] at x0;have l1:(k:Int) < nw:=by omega
    have l0:(0:Int)<=k:=by omega
    have HFD:=zh (show B.waits[k]=t->Z=116 by
     intro he;rw[uh HAA,if_pos];rw[List.contains_iff_mem];rw[<-he]; exact List.getElem_mem hkB)
    have HNN:=zh (show B.waits[k]≠t->∀j,j < k+1->∀h:j < B.waits.length,B.waits[j]≠t by
     intro h j hj hj2;by_cases hj':j < k
     ·exact uh HNO j hj' hj2
     ·obtain rfl:j=k:=by omega
      exact h)
    clear hcq;generalize B.waits[k]=x at *;clear hkB;by_cases hxt:x=t
    ·have hz:=uh HFD hxt
     have b1:((x:Int)==t)=true:=by simp[hxt]
     subst hz;rw[if_neg (by simp)] at HAS;clear hxt;go_wp2
     go_ret
     exact⟨rfl,⟨_,by rw[uh HAS]; exact uh HM1,fun b hb=>Or.inl hb⟩,Only.of_below (uh HB1)⟩
    ·have HN2:=zh (uh HNN hxt)
     have b1:((x:Int)==t)=false:=by simp; omega
     go_wp2
     exact⟨⟨k+1,by go_num,by omega,uh HN2,by trivial⟩,by simp[intOf]; omega⟩
   ·obtain rfl:k=nw:=by omega
    have HA2:=zh (show Z=if B.L.Q<=k then 102 else 113 by
     rw[uh HAA,if_neg];rw[List.contains_iff_mem];intro hm;obtain⟨j,hj,he⟩:=List.getElem_of_mem hm;exact uh HNO j (by rw[uh HNW]; exact hj) hj he)
    have l1:¬(k:Int) < k:=by omega
    have HBOX:=zh (uh HM1).box;have hown1:=(uh HM1).waits;rw[<-uh HNW] at hown1;have HOWN:=zh (show ∀n,(wr.drewN n).ownsRow 0 3 1 (.slice aq k cq) k (intsV B.waits) from fun n=>hown1);have HBXN:=zh (show ∀n,(wr.drewN n).heap[g]?=_ from fun n=>uh HBOX);clear hown1;obtain⟨qq,hqq⟩:∃n,B.L.Q=n:=⟨_,rfl⟩
    rw[hqq] at HA2 q2;clear hqq;by_cases h3:qq<=k
    ·have hz:Z=102:=by rw[uh HA2,if_pos h3]
     have b3:(qq:Int)<=k:=by omega
     subst hz;rw[if_neg (by simp)] at HAS;clear h3;go_wp2
     go_quiet (fail)
     go_wp2
     go_ret
     exact⟨rfl,⟨_,by rw[uh HAS]; exact(uh HSAME _).1,fun b hb=>Or.inl hb⟩,(uh HSAME _).2⟩
    ·have hz:Z=113:=by rw[uh HA2,if_neg h3]
     have b3:¬(qq:Int)<=k:=by omega
     subst hz;rw[if_pos rfl] at HAS;clear h3;go_wp2
     go_quiet (fail)
     go_wp2_with (at_builtin; refine wpList_append_lies _ rfl _ _ 49 rfl 0 3 i0 (.int .i64 0) 1 8 Tryz.underlying49 (uh HII).1 (uh HII).2.1 (uh HII).2.2.1 (uh HII).2.2.2 rfl (by decide) (.slice aq k cq) k (intsV B.waits) rfl (World.ownsRow.alloc (uh HOWN _) _) ⟨wr.heap.size,0,none⟩ 1 1 [.int .i64 t] rfl rfl (z0q _ _ _) (z0a rfl) (by decide) (by unfold maxLen; omega) (by omega) (Nat.zero_le _) _ rfl ?_; intro g4 c4 w4 hown4 hgrow4 hat4 hlt4; have hbx4:=(z0f (uh HOWN _) hgrow4 (by decide) _ _ _ (uh HBXN _)).trans (uh HBXN _); obtain⟨⟨p0,p1,p2,p3,p4,p5,p6,p7,p8,p9⟩,⟨-,-,-,f49⟩,qg4⟩:=box10 hbx4)
     have hn:=uh HNW;have hat5:=hat4.imp (fun e=>e) (fun e=>show g4=wr.heap.size+1 by rw[e]; simp);have hPM:=((uh HSAME _).1).appendWaits (t:=t) (by rw[<-hn]; exact hown4) hgrow4 hat5;rw[<-hn] at hPM;have hO:=((uh HSAME _).2.trans ((only_grown hgrow4).mono (G:=fun b=>b=g\/(Value.slice aq k cq).ownBlock=some b) (fun k hk=>Or.inr hk))).trans (Only.setCell (a:=⟨g,9,none⟩) (Or.inl rfl) (.slice (some ⟨g4,0,none⟩) (k+1) c4));have hws:=(uh HB1).size;have HFIN:=zh (And.intro hPM (And.intro hO hat5));clear hPM hO hat5 hat4 hgrow4 hown4 hbx4 hn;go_ret
     refine⟨rfl,⟨_,by rw[uh HAS]; exact(uh HFIN).1,fun b hb=>?_⟩,(uh HFIN).2.1⟩;have e':g4=b:=by simpa [Value.ownBlock] using hb
     subst e';rcases (uh HFIN).2.2 with h | h
     ·exact .inl h
     ·exact .inr (by omega)
end Go.Proofs.YtkbpocecbcaiiabGreatDoor
