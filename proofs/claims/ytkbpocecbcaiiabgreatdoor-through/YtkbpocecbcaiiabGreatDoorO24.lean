import Derived.Test.YtkbpocecbcaiiabGreatDoorO23
namespace Go.Proofs.YtkbpocecbcaiiabGreatDoor
open Go.RowKit
def PBx.back (B:PBx) (t:Nat):PBx:={ B with sta:=B.sta.set t (B.sta.getD t 0 - 1) }
set_option maxRecDepth 100000 in
set_option maxHeartbeats 1000000 in
theorem putBack_any (R:Nat->Prop) (g:Nat) (B:PBx) (vs vr vt vl vw va vq:Value) (qs:List Q3) (t:Nat) (w:World) (h:PM w R g B vs vr vt vl vw va vq qs) (h1:0 < B.sta.getD t 0) (h9:B.sta.getD t 0<=1000) :
  Calls Tryz.prog 75 #[.pointer (some ⟨g,0,none⟩),.int .i64 t] w fun e w'=>e=.returned (.tuple #[])/\PM w' R g (B.back t) vs vr vt vl vw va vq qs/\Only (fun b=>va.ownBlock=some b) w w':=by
 have ht:t < B.sta.length:=by
  apply Classical.byContradiction;intro hn;rw[List.getD_eq_getElem?_getD,List.getElem?_eq_none (by omega)] at h1;simp at h1
 obtain⟨ga,ca,rfl,ha1,ha2,hga⟩:=z2w h.sta (by omega);obtain⟨⟨-,-,-,-,-,-,-,-,q8,-⟩,-,qg⟩:=box10 h.box;have xt:w.cell? ⟨ga,t,none⟩=some (.int .i64 (B.sta[t]:Nat)):=by rw[h.sta.cellAt t (by omega)]; simp[intsV,ht]
 have ft:=h.sta.frozenAt t;have hgd:B.sta.getD t 0=B.sta[t]:=z1f _ _ _ ht;rw[hgd] at h1 h9;have HST:=zh (h.setSta rfl t (B.sta[t] - 1));have HE:=zh (show (B.sta[t]:Int) - 1=((B.sta[t] - 1:Nat):Int) by omega);have HBK:=zh (show B.back t={ B with sta:=B.sta.set t (B.sta[t] - 1) } by unfold PBx.back; rw[hgd]);have l1:(t:Int) < B.sta.length:=by omega
 have l0:(0:Int)<=t:=by omega
 unfold maxLen at ha2;clear h hgd;generalize B.sta[t]=x at *;generalize B.sta.length=m at *;go_enter Tryz.func75,Tryz.ntmps75
 go_wp2
 refine bodyPost_end (v:=.tuple #[]) (by simp[results,Tryz.results75,go_sem]) rfl ?_;rw[uh HE];exact⟨rfl,by rw[uh HBK]; exact uh HST,Only.setCell (F:=fun b=>(Value.slice (some ⟨ga,0,none⟩) m ca).ownBlock=some b) (a:=⟨ga,t,none⟩) rfl _⟩
def PBx.step1 (B:PBx) (f:PFr) (k:Nat):PBx:=
 if (B.route k).gave f then (B.putR k ((B.route k).step f (B.anyF (swsOf (B.route k).rt)))).back (B.route k).train else B.putR k ((B.route k).step f (B.anyF (swsOf (B.route k).rt)))
def PBx.stepN (B:PBx) (f:PFr):Nat->PBx
 | 0=>B
 | k+1=>(B.stepN f k).step1 f k
theorem step1_pres (B:PBx) (f:PFr) (k:Nat):(B.step1 f k).L=B.L/\(B.step1 f k).sws=B.sws/\(B.step1 f k).waits=B.waits/\(B.step1 f k).rts.length=B.rts.length/\(B.step1 f k).sta.length=B.sta.length/\∀j,k < j->(B.step1 f k).rts[j]?=B.rts[j]?:=by
 unfold PBx.step1;split
 ·refine⟨rfl,rfl,rfl,by simp[PBx.putR,PBx.back],by simp[PBx.putR,PBx.back],fun j hj=>?_⟩
  simp only[PBx.putR,PBx.back];rw[List.getElem?_set_ne (by omega)]
 ·refine⟨rfl,rfl,rfl,by simp[PBx.putR],rfl,fun j hj=>?_⟩
  simp only[PBx.putR];rw[List.getElem?_set_ne (by omega)]
theorem stepN_pres (B:PBx) (f:PFr) (k:Nat):(B.stepN f k).L=B.L/\(B.stepN f k).sws=B.sws/\(B.stepN f k).waits=B.waits/\(B.stepN f k).rts.length=B.rts.length/\(B.stepN f k).sta.length=B.sta.length/\∀j,k<=j->(B.stepN f k).rts[j]?=B.rts[j]?:=by
 induction k with
 | zero=>exact⟨rfl,rfl,rfl,rfl,rfl,fun _ _=>rfl⟩
 | succ k ih=>
  obtain⟨a,b,c,d,d2,e⟩:=step1_pres (B.stepN f k) f k;exact⟨a.trans ih.1,b.trans ih.2.1,c.trans ih.2.2.1,d.trans ih.2.2.2.1,d2.trans ih.2.2.2.2.1,fun j hj=>(e j (by omega)).trans (ih.2.2.2.2.2 j (by omega))⟩
theorem step_train (y:PRt) (f:PFr) (b:Bool):(y.step f b).train=y.train:=by
 unfold PRt.step PRt.stepW PRt.stepG PRt.stepP PRt.stepD PRt.enter PRt.mark
 repeat' split
 all_goals rfl
theorem getElem_of_opt {α:Type} {l m:List α} {k:Nat} (h:l[k]?=m[k]?) (h1:k < l.length) (h2:k < m.length):l[k]=m[k]:=by
 rw[List.getElem?_eq_getElem h1,List.getElem?_eq_getElem h2] at h;exact Option.some.inj h
def stF (vl va:Value) (qs:List Q3) (b:Nat):Prop:=vl.ownBlock=some b\/va.ownBlock=some b\/∃q,q∈qs/\q.2.2.ownBlock=some b
set_option maxRecDepth 100000 in
set_option maxHeartbeats 8000000 in
theorem stepRoutes_any (R P:Nat->Prop) (g:Nat) (B:PBx) (vs vr vt vl vw va vq:Value) (qs:List Q3) (vfr:Value) (f:PFr) (w:World) (h:PM w R g B vs vr vt vl vw va vq qs) (hf:FrPIn P w vfr f)
  (hP:∀b,P b->¬stF vl va qs b) (hr:B.rts.length<=1000) (hok:∀y,y∈B.rts->PRtOK y)
  (hgv:∀k (hk:k < B.rts.length),B.rts[k].gave f=true->0 < (B.stepN f k).sta.getD B.rts[k].train 0/\(B.stepN f k).sta.getD B.rts[k].train 0<=1000) :
  Calls Tryz.prog 35 #[.pointer (some ⟨g,0,none⟩),vfr] w fun e w'=>e=.returned (.tuple #[])/\PM w' R g (B.stepN f B.rts.length) vs vr vt vl vw va vq qs/\FrPIn P w' vfr f/\Only (stF vl va qs) w w':=by
 obtain⟨vc,vo,vp,rfl,hc1,ho1,hp1⟩:=hf.at;obtain⟨ac,cc,rfl,-⟩:=SlAt.open hc1;obtain⟨ao,co,rfl,-⟩:=SlAt.open ho1;obtain⟨ap,cp,rfl,-⟩:=SlAt.open hp1;obtain⟨al,cl,hvl⟩:=z02 h.routes;subst hvl;obtain⟨⟨q0,q1,q2,q3,q4,q5,q6,q7,q8,q9⟩,-,qg⟩:=box10 h.box;obtain⟨n,hn⟩:∃n,n=B.rts.length:=⟨_,rfl⟩
 have HFX:=zh (And.intro hok hgv);have HP:=zh hP;have HW0:=zh (z01 w (z0r (.slice ac f.cmds.length cc) (.slice ao f.occ.length co) (.slice ap f.rep.length cp)));have HQL:=zh h.qlen;have HLT:=zh (show ∀b,stF (.slice al n cl) va qs b->b < w.heap.size by
  rintro b (hb | hb | ⟨q,hq,hb⟩)
  ·rw[hn] at hb; exact(h.routes.lt b hb).2
  ·exact(h.sta.lt b hb).2
  ·obtain⟨i,hi,rfl⟩:=List.getElem_of_mem hq
   exact((h.marks i hi (by rw[<-h.qlen]; exact hi)).lt b hb).2)
 have HS0:=zh (And.intro h (And.intro hf (heap_alloc_new w (z0r (.slice ac f.cmds.length cc) (.slice ao f.occ.length co) (.slice ap f.rep.length cp)))));have HN:=zh hn;rw[<-hn];rw[<-hn] at q6 HS0 HP HQL;clear h hf hc1 ho1 hp1 hP hok hgv;have hn1:n<=1000:=by rw[hn]; exact hr
 clear hn hr;go_enter Tryz.func35,Tryz.ntmps35
 go_wp2
 go_loopw [12] (fun i wr=>∃k:Nat,i=.int .i64 k/\k<=n/\PM wr R g (B.stepN f k) vs vr vt (.slice al n cl) vw va vq qs/\FrPIn P wr (.agg #[.slice ac f.cmds.length cc,.slice ao f.occ.length co,.slice ap f.rep.length cp]) f ∧
   Only (stF (.slice al n cl) va qs) w wr/\wr.heap[w.heap.size]?=some (z0r (.slice ac f.cmds.length cc) (.slice ao f.occ.length co) (.slice ap f.rep.length cp))) (fun i _=>n - (intOf i).toNat)
 case atStart=>exact⟨0,rfl,Nat.zero_le _,(uh HS0).1.below (uh HW0),(uh HS0).2.1.below (uh HW0),Only.of_below (uh HW0),(uh HS0).2.2⟩
 case round=>
  clear HS0 HW0 q0 q1 q2 q3 q4 q5 q6 q7 q8 q9;obtain⟨k,rfl,hk,hM,hFr,hO,hfb⟩:=hrel;obtain⟨p1,p2,p3,p4,p4b,p5⟩:=stepN_pres B f k;obtain⟨D,hD⟩:∃D,D=B.stepN f k:=⟨_,rfl⟩
  rw[<-hD] at hM p1 p2 p3 p4 p4b p5;have hnD:n=D.rts.length:=by rw[p4]; exact uh HN
  obtain⟨⟨q0,q1,q2,q3,q4,q5,q6,q7,q8,q9⟩,-,qg2⟩:=box10 hM.box;obtain⟨⟨y0,y1,y2⟩,-,qf⟩:=tri0 hfb;have hO2:=hO.size;by_cases hlt:k < n
  ·have hkD:k < D.rts.length:=by omega
   have hkq:k < qs.length:=by rw[uh HQL]; exact hlt
   have hkB:k < B.rts.length:=by rw[<-uh HN]; exact hlt
   have hyB:D.rts[k]=B.rts[k]:=getElem_of_opt (p5 k (Nat.le_refl _)) hkD hkB;obtain⟨gl,cl',hal,hl1,hl2,hgl⟩:=z2w hM.routes (by omega);simp only[Value.slice.injEq] at hal;obtain⟨rfl,-,rfl⟩:=hal;unfold maxLen at hl2;have hMp:PM wr R g (D.putR k D.rts[k]) vs vr vt (.slice (some ⟨gl,0,none⟩) n cl) vw va vq qs:=by rw[putR_self D k hkD]; exact hM
   obtain⟨hc,hC,hz,-,-⟩:=hMp.rAt hnD hkD hkq;obtain⟨vp0,vf0,vm0,hcs,hPP,hFF,-⟩:=hC;have x0:=hc 0 (by omega);have x1:=hc 1 (by omega);have x2:=hc 2 (by omega);have x4:=hc 4 (by omega);rw[hcs] at x0 x1 x2 x4;simp at x0 x1 x2 x4;have hokk:=(uh HFX).1 _ (List.getElem_mem hkB);rw[<-hyB] at hokk;have HSW:=zh (fun (wz:World) (hz:Below wr.heap.size wr wz)=>z2m D.rts[k].rt vp0 vf0 wz (hPP.keep (Keeps.below hz)) (hFF.keep (Keeps.below hz)) hokk.path hokk.flank);have HAF:=zh (fun (v:Value) (wz:World) (hz:Below wr.heap.size wr wz) (hv:Items wz v (swsOf D.rts[k].rt))=>anyFailed_any g D v _ wz (hM.at.below hz) hv);have HST:=zh (fun (bk:Bool) (wz:World) (hz:Below wr.heap.size wr wz)=>step_any R P g D vs vr vt vw va vq qs gl n cl k D.rts[k] _ f bk wz (hMp.below hz) (hFr.below hz) hnD hkD hkq (fun b hb=>⟨fun e=>uh HP b hb (Or.inl (by rw[e]; rfl)),fun e=>uh HP b hb (Or.inr (Or.inr ⟨_,List.getElem_mem hkq,e⟩))⟩) hokk);have hrt:D.route k=D.rts[k]:=z1f _ _ _ hkD;have HNX:=zh (show B.stepN f (k+1)=if D.rts[k].gave f then (D.putR k (D.rts[k].step f (D.anyF (swsOf D.rts[k].rt)))).back D.rts[k].train else D.putR k (D.rts[k].step f (D.anyF (swsOf D.rts[k].rt))) by
    rw[show B.stepN f (k+1)=D.step1 f k by rw[hD]; rfl];unfold PBx.step1;rw[hrt])
   have HGV:=zh (show D.rts[k].gave f=true->0 < D.sta.getD D.rts[k].train 0/\D.sta.getD D.rts[k].train 0<=1000 by
    intro hg;have:=(uh HFX).2 k hkB (by rw[<-hyB]; exact hg);rw[<-hD,<-hyB] at this;exact this)
   have HSD:=zh (fun (z:PRt)=>show (D.putR k z).sta=D.sta from rfl);obtain⟨ap0,cp0,rfl,-⟩:=SlAt.open hPP;obtain⟨af0,cf0,rfl,-⟩:=SlAt.open hFF;have HM:=zh hM;have HO:=zh hO;have HFB:=zh hfb;have HFr:=zh hFr;have hwz:w.heap.size < wr.heap.size:=z0g hfb;have HWB:=zh (show ∀b,stF (.slice (some ⟨gl,0,none⟩) n cl) va qs b->b≠w.heap.size from fun b hb e=>by
    have:=uh HLT b hb;omega)
   have l1:(k:Int) < n:=by omega
   have l0:(0:Int)<=k:=by omega
   have HND:=zh (And.intro hnD (And.intro hkD hkq));clear hc hz hcs hPP hFF hM hMp hO hFr hfb hD hrt hokk p1 p2 p3 p4 p4b p5 hnD hyB hkB q0 q1 q2 q3 q4 q5 q7 q8 q9;go_wp2_with fail
   refine(uh HSW wr (Below.refl _ _)).mono ?_;rintro e w1 ⟨a1,n1,d1,rfl,hI1,hb1⟩;have HB1:=zh hb1;have HAF1:=zh (uh HAF _ w1 hb1 hI1);clear hI1 hb1;go_wp2_with fail
   refine(uh HAF1).mono ?_;rintro e w2 ⟨rfl,hb2⟩;have hB2:=(uh HB1).trans (hb2.mono (uh HB1).size);have HB2:=zh hB2;rw[<-hB2.cell (p:=⟨g,_,none⟩) qg2] at q6;clear y0 y1 y2;obtain⟨⟨y0,y1,y2⟩,-,qf2⟩:=tri0 ((hB2.block _ hwz).trans (uh HFB));have hg2:g < w2.heap.size:=Nat.lt_of_lt_of_le qg2 hB2.size;clear hb2 hB2 HSW HAF HAF1 HB1 x0 x1 x2 x4;obtain⟨bk,hbk⟩:∃b,D.anyF (swsOf D.rts[k].rt)=b:=⟨_,rfl⟩
   rw[hbk] at HNX ⊢;clear hbk;go_wp2
   go_cut [6] from 26 to 46 (fun v wx=>v=.bool (D.rts[k].gave f)/\StepR R P g D vs vr vt vw va vq qs gl n cl k hkq (.agg #[.slice ac f.cmds.length cc,.slice ao f.occ.length co,.slice ap f.rep.length cp]) f w2 wx (D.rts[k].step f bk))
   case first=>
    go_region_with (go_at_call 74; refine(uh HST bk _ ?_).mono ?_; (first | exact(uh HB2) | exact(uh HB2).drew | exact(uh HB2).drew.drew); rintro e w3 ⟨rfl,hs3⟩)
    all_goals
     have HS3:=zh (show StepR R P g D vs vr vt vw va vq qs gl n cl k hkq (.agg #[.slice ac f.cmds.length cc,.slice ao f.occ.length co,.slice ap f.rep.length cp]) f w2 w3 (D.rts[k].step f bk) from ⟨hs3.1,hs3.2.1,(Only.of_below (Below.refl w2.heap.size w2).drew).trans hs3.2.2⟩);clear hs3;go_wp2_with fail
     go_meet
     exact⟨rfl,uh HS3⟩
   case rest=>
    obtain⟨rfl,hs3⟩:=hcut;have hO3:Only (stF (.slice (some ⟨gl,0,none⟩) n cl) va qs) w wc:=((uh HO).trans (Only.of_below (uh HB2))).trans (hs3.2.2.mono (fun b hb=>by
     rcases hb with hb | hb
     ·exact Or.inl (by rw[hb]; rfl)
     ·exact Or.inr (Or.inr ⟨_,List.getElem_mem hkq,hb⟩)))
    have hfb3:wc.heap[w.heap.size]?=some (z0r (.slice ac f.cmds.length cc) (.slice ao f.occ.length co) (.slice ap f.rep.length cp)):=by
     rw[hs3.2.2.block w.heap.size qf2 (fun hb=>by
      rcases hb with hb | hb
      ·exact uh HWB w.heap.size (Or.inl (by rw[hb]; rfl)) rfl
      ·exact uh HWB w.heap.size (Or.inr (Or.inr ⟨_,List.getElem_mem hkq,hb⟩)) rfl),(uh HB2).block _ hwz]
     exact uh HFB
    have HO3:=zh hO3;have HF3:=zh hfb3;have HS3:=zh hs3;clear hO3 hfb3 hs3 q6 y0 y1 y2;obtain⟨bg,hbg⟩:∃b,D.rts[k].gave f=b:=⟨_,rfl⟩
    rw[hbg] at HNX HGV ⊢;clear hbg;cases bg with
    | false=>
     have HNX2:=zh (show B.stepN f (k+1)=D.putR k (D.rts[k].step f bk) from uh HNX);go_wp2
     exact⟨⟨k+1,by go_num,by omega,by rw[uh HNX2]; exact(uh HS3).1,(uh HS3).2.1,uh HO3,uh HF3⟩,by simp[intOf]; omega⟩
    | true=>
     have HNX2:=zh (show B.stepN f (k+1)=(D.putR k (D.rts[k].step f bk)).back D.rts[k].train from uh HNX);have hgv:=uh HGV rfl;have HPB:=zh (putBack_any R g (D.putR k (D.rts[k].step f bk)) vs vr vt (.slice (some ⟨gl,0,none⟩) n cl) vw va vq qs D.rts[k].train wc (uh HS3).1 hgv.1 hgv.2);obtain⟨hc,-,-,-,-⟩:=(uh HS3).1.rAt (uh HND).1 (uh HND).2.1 hkq;have x4:=hc 4 (by omega);simp[prtV,step_train] at x4;obtain⟨⟨-,-,-,-,-,-,q6,-⟩,-,qg3⟩:=box10 (uh HS3).1.box;clear hc hgv;go_wp2_with fail
     refine(uh HPB).mono ?_;rintro e w4 ⟨rfl,hp4,ho4⟩;have HP4:=zh (And.intro hp4 ho4);have HF4:=zh (show w4.heap[w.heap.size]?=some (z0r (.slice ac f.cmds.length cc) (.slice ao f.occ.length co) (.slice ap f.rep.length cp)) from (ho4.block w.heap.size (z0g (uh HF3)) (fun hb=>uh HWB w.heap.size (Or.inr (Or.inl hb)) rfl)).trans (uh HF3));clear hp4 ho4 x4 q6 HPB;go_wp2
     exact⟨⟨k+1,by go_num,by omega,by rw[uh HNX2]; exact(uh HP4).1,(uh HS3).2.1.only (uh HP4).2 (fun b hb hh=>uh HP b hb (Or.inr (Or.inl hh))),(uh HO3).trans ((uh HP4).2.mono (fun b hb=>Or.inr (Or.inl hb))),uh HF4⟩,by simp[intOf]; omega⟩
  ·obtain rfl:k=n:=by omega
   have l1:¬(k:Int) < k:=by omega
   have HM:=zh hM;have HFr:=zh hFr;have HO:=zh hO;have HD:=zh hD;clear hM hFr hO hfb hD q0 q1 q2 q3 q4 q5 q6 q7 q8 q9 y0 y1 y2 p1 p2 p3 p4 p4b p5 hnD;go_wp2
   refine bodyPost_end (v:=.tuple #[]) (by simp[results,Tryz.results35,go_sem]) rfl ?_;exact⟨rfl,by rw[<-uh HD]; exact uh HM,uh HFr,uh HO⟩
def grow (D:Nat->Prop) (w w':World) (b:Nat):Prop:=D b\/(w.heap.size<=b/\b < w'.heap.size)
structure BoxF (w:World) (D P:Nat->Prop) (g:Nat) (B:PBx) (vfr:Value) (f:PFr):Prop where
 box:PBoxIn w D g B
 frame:FrPIn P w vfr f
 apart:∀b,P b->¬D b
theorem PBoxIn.mono {w:World} {D D':Nat->Prop} {g:Nat} {B:PBx} (h:PBoxIn w D g B) (hd:∀b,D b->D' b) (hz:∀b,D' b->b < w.heap.size):PBoxIn w D' g B:=by
 obtain⟨R,vs,vr,vt,vl,vw,va,vq,qs,h,h1,h2,h3⟩:=h;exact⟨R,vs,vr,vt,vl,vw,va,vq,qs,h,fun b hb=>hd b (h1 b hb),hz,fun b hb=>hd b (h3 b hb)⟩
theorem PBoxIn.lt {w:World} {D:Nat->Prop} {g:Nat} {B:PBx} (h:PBoxIn w D g B):∀b,D b->b < w.heap.size:=by
 obtain⟨R,vs,vr,vt,vl,vw,va,vq,qs,h,h1,h2,h3⟩:=h;exact h2
theorem Only.far {F G:Nat->Prop} {a b c:World} (h:Only F a b) (k:Only G b c) (hG:∀i,i < a.heap.size->G i->F i):Only F a c:=
 ⟨k.os.trans h.os,k.tape.trans h.tape,k.output.trans h.output,Nat.le_trans h.size k.size,fun i hi hf=>(k.block i (Nat.lt_of_lt_of_le hi h.size) (fun hg=>hf (hG i hi hg))).trans (h.block i hi hf)⟩
theorem grow_lt {w:World} {D:Nat->Prop} (hD:∀b,D b->b < w.heap.size) {w':World} (hz:w.heap.size<=w'.heap.size):∀b,grow D w w' b->b < w'.heap.size:=fun b hb=>by
 rcases hb with hb | hb
 ·have:=hD b hb; omega
 ·exact hb.2
theorem BoxF.below {w w':World} {D P:Nat->Prop} {g:Nat} {B:PBx} {vfr:Value} {f:PFr} (h:BoxF w D P g B vfr f) (hb:Below w.heap.size w w'):BoxF w' D P g B vfr f:=
 ⟨h.box.only (Only.of_below (F:=fun _=>False) hb) (fun _ _ h=>h),h.frame.below hb,h.apart⟩
theorem BoxF.up {w w':World} {D P:Nat->Prop} {g:Nat} {B:PBx} {vfr:Value} {f:PFr} (h:BoxF w D P g B vfr f) (hb:Below w.heap.size w w'):BoxF w' (grow D w w') P g B vfr f:=
 ⟨(h.below hb).box.mono (fun b hb=>Or.inl hb) (grow_lt h.box.lt hb.size),(h.below hb).frame,fun b hbP hh=>by
   rcases hh with hh | hh
   ·exact h.apart b hbP hh
   ·have:=h.frame.1 b hbP; omega⟩
theorem BoxF.make {w w':World} {D P F:Nat->Prop} {g:Nat} {B:PBx} {vfr:Value} {f:PFr} {R:Nat->Prop} {vs vr vt vl vw va vq:Value} {qs:List Q3} (hD:∀b,D b->b < w.heap.size) (hA:∀b,P b->¬D b) (hPl:∀b,P b->b < w.heap.size) (hF:FrPIn P w' vfr f) (ho:Only F w w') (hFD:∀b,F b->D b)
  (h:PM w' R g B vs vr vt vl vw va vq qs) (hR:∀b,R b->D b) (hown:∀b,(b=g\/vl.ownBlock=some b\/vw.ownBlock=some b\/va.ownBlock=some b\/vq.ownBlock=some b\/∃q,q∈qs/\q.2.2.ownBlock=some b)->D b\/w.heap.size<=b) :
  BoxF w' (grow D w w') P g B vfr f/\Only D w w':=by
 have hlt:∀b,(b=g\/vl.ownBlock=some b\/vw.ownBlock=some b\/va.ownBlock=some b\/vq.ownBlock=some b\/∃q,q∈qs/\q.2.2.ownBlock=some b)->b < w'.heap.size:=by
  rintro b (rfl | hb | hb | hb | hb | ⟨q,hq,hb⟩)
  ·exact z0g h.box
  ·exact(h.routes.lt b hb).2
  ·exact(h.sws.lt b hb).2
  ·exact(h.sta.lt b hb).2
  ·exact(h.waits.lt b hb).2
  ·obtain⟨i,hi,rfl⟩:=List.getElem_of_mem hq
   exact((h.marks i hi (by rw[<-h.qlen]; exact hi)).lt b hb).2
 refine⟨⟨⟨R,vs,vr,vt,vl,vw,va,vq,qs,h,fun b hb=>Or.inl (hR b hb),grow_lt hD ho.size,fun b hb=>?_⟩,hF,fun b hb hh=>?_⟩,ho.mono hFD⟩
 ·rcases hown b hb with h1 | h1
  ·exact Or.inl h1
  ·exact Or.inr ⟨h1,hlt b hb⟩
 ·rcases hh with hh | hh
  ·exact hA b hb hh
  ·have:=hPl b hb; omega
theorem countLate_f (D P:Nat->Prop) (g:Nat) (B:PBx) (vfr:Value) (f:PFr) (w:World) (h:BoxF w D P g B vfr f) (hr:B.rts.length<=1000) (hfr:∀x,x∈B.rts->x.freed<=1000) (hT:B.L.T<=1000) (hlb:∀x,x∈B.sws->x.late<=1000) :
  Calls Tryz.prog 34 #[.pointer (some ⟨g,0,none⟩),vfr] w fun e w'=>e=.returned (.tuple #[])/\BoxF w' (grow D w w') P g (B.lateN f B.sws.length) vfr f/\Only D w w':=by
 obtain⟨R,vs,vr,vt,vl,vw,va,vq,qs,hM,h1,h2,h3⟩:=h.box;refine(countLate_any R P g B vs vr vt vl vw va vq qs vfr f w hM h.frame (fun b hb e=>h.apart b hb (h3 b (.inr (.inr (.inl e))))) hr hfr hT hlb).mono ?_;rintro e w' ⟨rfl,hM',hF',hO'⟩;exact⟨rfl,BoxF.make h2 h.apart h.frame.1 hF' hO' (fun b hb=>h3 b (.inr (.inr (.inl hb)))) hM' h1 (fun b hb=>Or.inl (h3 b hb))⟩
theorem stepRoutes_f (D P:Nat->Prop) (g:Nat) (B:PBx) (vfr:Value) (f:PFr) (w:World) (h:BoxF w D P g B vfr f) (hr:B.rts.length<=1000) (hok:∀y,y∈B.rts->PRtOK y)
  (hgv:∀k (hk:k < B.rts.length),B.rts[k].gave f=true->0 < (B.stepN f k).sta.getD B.rts[k].train 0/\(B.stepN f k).sta.getD B.rts[k].train 0<=1000) :
  Calls Tryz.prog 35 #[.pointer (some ⟨g,0,none⟩),vfr] w fun e w'=>e=.returned (.tuple #[])/\BoxF w' (grow D w w') P g (B.stepN f B.rts.length) vfr f/\Only D w w':=by
 obtain⟨R,vs,vr,vt,vl,vw,va,vq,qs,hM,h1,h2,h3⟩:=h.box;have hst:∀b,stF vl va qs b->D b:=fun b hb=>by
  rcases hb with hb | hb | hb
  ·exact h3 b (.inr (.inl hb))
  ·exact h3 b (.inr (.inr (.inr (.inl hb))))
  ·exact h3 b (.inr (.inr (.inr (.inr (.inr hb)))))
 refine(stepRoutes_any R P g B vs vr vt vl vw va vq qs vfr f w hM h.frame (fun b hb e=>h.apart b hb (hst b e)) hr hok hgv).mono ?_;rintro e w' ⟨rfl,hM',hF',hO'⟩;exact⟨rfl,BoxF.make h2 h.apart h.frame.1 hF' hO' hst hM' h1 (fun b hb=>Or.inl (h3 b hb))⟩
def RBx.put (C:RBx) (r:Nat) (x:RLn):RBx:={ C with lines:=C.lines.set r x }
end Go.Proofs.YtkbpocecbcaiiabGreatDoor
