import Derived.Test.YtkbpocecbcaiiabGreatDoorO37
namespace Go.Proofs.YtkbpocecbcaiiabGreatDoor
open Go.RowKit
def Lay.safeL (L:Lay) (at_:List Nat):Bool:=(z1s L.tns.length (L.stsAt at_)).2.all (·.done)
def PBx.wantN (B:PBx) (l:List (Nat×Nat)):Nat->PBx
 | 0=>B
 | k+1=>(B.wantN l k).want1 (l.getD k (0,0))
def PBx.given (B:PBx) (r t:Nat):PBx:=({ B with sta:=oneM B.sta t }.putR r ((B.route r).set t)).wantN (swsOf (B.route r).rt) (swsOf (B.route r).rt).length
def PBx.grantR (B:PBx) (f:PFr) (r t:Nat):Bool:=!B.setFor t&&(B.lockOK (B.route r).rt.path&&f.freeB (B.route r).rt.path)&&B.wantOK f (swsOf (B.route r).rt)&&B.L.safeL (oneM B.sta t)
def PBx.grantB (B:PBx) (f:PFr) (t:Nat):Bool:=match B.nextR t with
 | none=>false
 | some r=>decide (r < B.rts.length)&&B.grantR f r t
def PBx.grant (B:PBx) (f:PFr) (t:Nat):PBx:=match B.nextR t with
 | none=>B
 | some r=>if decide (r < B.rts.length)&&B.grantR f r t then B.given r t else B
structure PGd (B:PBx):Prop where
 good:B.L.Good
 rl:B.rts.length<=1000
 ok:∀y,y∈B.rts->PRtOK y
 sl:B.sta.length=B.L.tns.length
 s9:∀x,x∈B.sta->x<=500
theorem oneM_le {l:List Nat} {t:Nat} (h:∀x,x∈l->x<=500):∀x,x∈oneM l t->x<=1000:=by
 intro x hx;rcases List.mem_or_eq_of_mem_set hx with h1 | h1
 ·have:=h x h1; omega
 ·subst h1
  rw[List.getD_eq_getElem?_getD];cases hk:l[t]? with
  | none=>simp
  | some y=>have:=h y (List.mem_of_getElem? hk); simp; omega
theorem keeps_only {F:Nat->Prop} {w w':World} {e e':TypeId} (ho:Only F w w') (hF:∀b,F b->Typed w b e') (hne:e'≠e):Keeps e w w':=by
 intro b cur fr hb;refine ho.block b (z0g hb) (fun hf=>?_);obtain⟨c,f,h'⟩:=hF b hf;rw[hb] at h'; simp at h'; exact hne h'.2.1.symm
set_option maxRecDepth 100000 in
set_option maxHeartbeats 8000000 in
theorem grantNext_q (D P:Nat->Prop) (g:Nat) (B:PBx) (vfr:Value) (f:PFr) (vq:Value) (t:Nat) (w:World) (h:BoxQ w D P g B vfr f vq) (hgd:PGd B) :
  Calls Tryz.prog 79 #[.pointer (some ⟨g,0,none⟩),.int .i64 t,vfr] w fun e w'=>e=.returned (.bool (B.grantB f t))/\BoxQ w' (grow D w w') P g (B.grant f t) vfr f vq/\Only D w w':=by
 obtain⟨R,vs,vr,vt,vl,vw,va,qs,hM,h1,h2,h3⟩:=h.box;obtain⟨vc,vo,vp,rfl,hc1,ho1,hp1⟩:=h.frame.at;obtain⟨ac,cc,rfl,-⟩:=SlAt.open hc1;obtain⟨ao,co,rfl,-⟩:=SlAt.open ho1;obtain⟨ap,cp,rfl,-⟩:=SlAt.open hp1;have HB0:=zh (z01 w (z0r (.slice ac f.cmds.length cc) (.slice ao f.occ.length co) (.slice ap f.rep.length cp)));have HFB:=zh (heap_alloc_new w (z0r (.slice ac f.cmds.length cc) (.slice ao f.occ.length co) (.slice ap f.rep.length cp)));have HUP:=zh (fun (w':World) (hb:Below w.heap.size w w')=>And.intro (h.up hb) (Only.of_below (F:=D) hb));have HNR:=zh (fun (wz:World) (hz:Below w.heap.size w wz)=>nextRoute_any g B t wz (hM.at.below hz));have HGB:=zh (PBx.grantB.eq_1 B f t);have HGR:=zh (PBx.grant.eq_1 B f t);have HM:=zh hM;have HF:=zh h.frame;have HGD:=zh hgd;have HX:=zh (And.intro h1 (And.intro h2 (And.intro h3 h.apart)));have hgw:=z0g hM.box;obtain⟨al,cl,hvl⟩:=z02 hM.routes;subst hvl;have hrl:=hgd.rl;obtain⟨Z,hZ⟩:∃Z,B.grantB f t=Z:=⟨_,rfl⟩
 rw[hZ] at HGB ⊢;clear hZ hc1 ho1 hp1 h h1 h2 h3 hM hgd;go_enter Tryz.func79,Tryz.ntmps79
 go_wp2_with fail
 refine(uh HNR _ (uh HB0)).mono ?_;rintro e w1 ⟨rfl,hb1⟩;have hB1:=(uh HB0).trans (hb1.mono (by simp));have HB1:=zh hB1;have HF1:=zh ((hb1.block w.heap.size (by simp)).trans (uh HFB));have hM1:=(uh HM).below hB1;obtain⟨⟨q0,q1,q2,q3,q4,q5,q6,q7,q8,q9⟩,-,qg⟩:=box10 hM1.box;have HM1:=zh hM1;clear hb1 hB1 hM1 HFB HB0 HNR;obtain⟨o,ho⟩:∃o,B.nextR t=o:=⟨_,rfl⟩
 rw[ho] at HGB HGR ⊢;clear ho;cases o with
 | none=>
  have hz:Z=false:=uh HGB;subst hz;have HG2:=zh (show B.grant f t=B from uh HGR);simp only[optN,Option.isSome];go_wp2
  go_ret
  have e:=uh HUP _ (uh HB1);exact⟨rfl,by rw[uh HG2]; exact e.1,e.2⟩
 | some r=>
  have HGB1:=zh (show Z=(decide (r < B.rts.length)&&B.grantR f r t) from uh HGB);have HGR1:=zh (show B.grant f t=if decide (r < B.rts.length)&&B.grantR f r t then B.given r t else B from uh HGR);clear HGB HGR;have d0:¬(r:Int) < 0:=by omega
  have l0:(0:Int)<=r:=by omega
  simp only[optN,Option.isSome];by_cases hr:r < B.rts.length
  rotate_left
  ·have hz:Z=false:=by rw[uh HGB1,decide_eq_false hr]; rfl
   subst hz;have HG2:=zh (show B.grant f t=B by rw[uh HGR1,decide_eq_false hr]; rfl);have l2:(B.rts.length:Int)<=r:=by omega
   generalize B.rts.length=n at *;go_wp2
   go_ret
   have e:=uh HUP _ (uh HB1);exact⟨rfl,by rw[uh HG2]; exact e.1,e.2⟩
  rw[decide_eq_true hr,Bool.true_and] at HGB1 HGR1;have l1:(r:Int) < B.rts.length:=by omega
  have l2:¬(B.rts.length:Int)<=r:=by omega
  have hrq:r < qs.length:=by rw[(uh HM).qlen]; exact hr
  obtain⟨gl,cl',hal,hl1,hl2,hgl⟩:=z2w (uh HM1).routes (by omega);simp only[Value.slice.injEq,true_and] at hal;obtain⟨rfl,rfl⟩:=hal;unfold maxLen at hl2;have hMp:PM w1 R g (B.putR r B.rts[r]) vs vr vt (.slice (some ⟨gl,0,none⟩) B.rts.length cl) vw va vq qs:=by rw[putR_self B r hr]; exact uh HM1
  obtain⟨hc,hC,-,-,-⟩:=hMp.rAt rfl hr hrq;obtain⟨vp0,vf0,vm0,hcs,hPP,hFF,-⟩:=hC;have x0:=hc 0 (by omega);have x1:=hc 1 (by omega);have x2:=hc 2 (by omega);rw[hcs] at x0 x1 x2;simp at x0 x1 x2;have hrt:B.route r=B.rts[r]:=z1f _ _ _ hr;have hok:=(uh HGD).ok _ (List.getElem_mem hr);have HSW:=zh (fun (wz:World) (hz:Below w1.heap.size w1 wz)=>z2m B.rts[r].rt vp0 vf0 wz (hPP.keep (Keeps.below hz)) (hFF.keep (Keeps.below hz)) hok.path hok.flank);have HML:=zh (fun (wz:World) (hz:Below w1.heap.size w1 wz)=>mayLock_any g B vp0 _ B.rts[r].rt.path f wz ((uh HM1).at.below hz) (hPP.keep (Keeps.below hz)) ((uh HF).at.below ((uh HB1).trans (hz.mono (uh HB1).size))) (uh HGD).rl (fun x hx=>((uh HGD).ok x hx).freed));have HMW:=zh (fun (v:Value) (wz:World) (hz:Below w1.heap.size w1 wz) (hv:Items wz v (swsOf B.rts[r].rt))=>mayWant_any g B v _ (swsOf B.rts[r].rt) f wz ((uh HM1).at.below hz) hv ((uh HF).at.below ((uh HB1).trans (hz.mono (uh HB1).size))) (uh HGD).rl (fun x hx=>((uh HGD).ok x hx).freed));have HHS:=zh (fun (wz:World) (hz:Below w1.heap.size w1 wz)=>hasRouteSet_any g B t wz ((uh HM1).at.below hz) (uh HGD).rl);have HOM:=zh (fun (wz:World) (hz:Below w1.heap.size w1 wz)=>oneMore_any va B.sta t wz (Ints.ofOwn ((uh HM1).below hz).sta rfl) (by have:=(uh HGD).sl; have:=(uh HGD).good.tns; omega) (fun x hx=>by have:=(uh HGD).s9 x hx; omega));have HSO:=zh (fun (v:Value) (wz:World) (hz:Below w1.heap.size w1 wz) (hv:Ints wz v (oneM B.sta t))=>sOrder_any _ v B.L (oneM B.sta t) wz (((uh HM1).below hz).plan.2 wz (fun _ _=>rfl)) hv (by simp[oneM]; exact(uh HGD).sl) (uh HGD).good.paths (uh HGD).good.jnys (by have:=(uh HGD).good.tns; omega) (fun t ht=>by have:=(uh HGD).good.jl t ht; omega) (uh HGD).good.pl (oneM_le (uh HGD).s9));have HGX:=zh (And.intro (PBx.grantR.eq_1 B f r t) (PBx.given.eq_1 B r t));rw[hrt] at HGX;have HRT:=zh (show B.rts[r].rt.path.length<=1000 from hok.path);obtain⟨ap0,cp0,rfl,-⟩:=SlAt.open hPP;obtain⟨af0,cf0,rfl,-⟩:=SlAt.open hFF;clear hc hcs hPP hFF hMp hrt hok;have HR:=zh (And.intro hr hrq);have hgw1:g < w1.heap.size:=qg;have hwz1:w.heap.size < w1.heap.size:=z0g (uh HF1);obtain⟨n,hn⟩:∃n,n=B.rts.length:=⟨_,rfl⟩
  rw[<-hn] at l1 l2 q6;have HN:=zh hn;obtain⟨y,hy⟩:∃y,B.rts[r]=y:=⟨_,rfl⟩
  rw[hy] at x0 x1 x2 HSW HML HMW HGX HRT;have HY:=zh hy;clear hn hy;go_wp2_with fail
  refine(uh HSW _ (z01 w1 _)).mono ?_;rintro e w2 ⟨a2,n2,d2,rfl,hI2,hb2⟩;have hB2:Below w1.heap.size w1 w2:=(z01 w1 _).trans (hb2.mono (by simp));have hrb:w2.heap[w1.heap.size]?=some (.cells #[.int .i64 y.rt.foot,.slice ap0 y.rt.path.length cp0,.slice af0 y.rt.flank.length cf0] 113 (0,0)):=(hb2.block _ (by simp)).trans (heap_alloc_new _ _);have HB2:=zh hB2;have HRB:=zh hrb;have HI2:=zh hI2;have HF2:=zh ((hB2.block _ hwz1).trans (uh HF1));clear hb2 hB2 hrb hI2 x0 x1 x2 q0 q1 q2 q3 q4 q5 q6 q7 q8 q9;go_wp2_with fail
  refine(uh HHS w2 (uh HB2)).mono ?_;rintro e w2' ⟨rfl,hw2⟩;subst hw2;obtain⟨bs,hbs⟩:∃b,B.setFor t=b:=⟨_,rfl⟩
  rw[hbs] at HGX ⊢;clear hbs;cases bs with
  | true=>
   have hgr:B.grantR f r t=false:=(uh HGX).1;rw[hgr] at HGB1 HGR1;have hz:Z=false:=uh HGB1;subst hz;have HG2:=zh (show B.grant f t=B from uh HGR1);clear hgr;go_wp2
   go_ret
   have e:=uh HUP _ ((uh HB1).trans ((uh HB2).mono (uh HB1).size));exact⟨rfl,by rw[uh HG2]; exact e.1,e.2⟩
  | false=>
   obtain⟨⟨z0,z1,z2⟩,-,qz⟩:=tri0 (uh HRB);obtain⟨⟨y0,y1,y2⟩,-,qf⟩:=tri0 (uh HF2);go_wp2_with fail
   refine(uh HML _ (uh HB2)).mono ?_;rintro e w3 ⟨rfl,hb3⟩;have HB3:=zh ((uh HB2).trans (hb3.mono (uh HB2).size));have HI3:=zh ((uh HI2).keep (Keeps.below hb3));have HF3:=zh ((hb3.block _ qf).trans (uh HF2));clear hb3 z0 z1 z2 y0 y1 y2;obtain⟨bl,hbl⟩:∃b,(B.lockOK y.rt.path&&f.freeB y.rt.path)=b:=⟨_,rfl⟩
   rw[hbl] at HGX ⊢;clear hbl;cases bl with
   | false=>
    have hgr:B.grantR f r t=false:=(uh HGX).1;rw[hgr] at HGB1 HGR1;have hz:Z=false:=uh HGB1;subst hz;have HG2:=zh (show B.grant f t=B from uh HGR1);clear hgr;go_wp2
    go_ret
    have e:=uh HUP _ ((uh HB1).trans ((uh HB3).mono (uh HB1).size));exact⟨rfl,by rw[uh HG2]; exact e.1,e.2⟩
   | true=>
    obtain⟨⟨y0,y1,y2⟩,-,qf3⟩:=tri0 (uh HF3);go_wp2_with fail
    refine(uh HMW _ w3 (uh HB3) (uh HI3)).mono ?_;rintro e w4 ⟨rfl,hb4⟩;have hB4:=(uh HB3).trans (hb4.mono (uh HB3).size);have HB4:=zh hB4;have HI4:=zh ((uh HI3).keep (Keeps.below hb4));obtain⟨⟨q0,q1,q2,q3,q4,q5,q6,q7,q8,q9⟩,-,qg4⟩:=box10 ((uh HM1).below hB4).box;clear hb4 hB4 y0 y1 y2;obtain⟨bw,hbw⟩:∃b,B.wantOK f (swsOf y.rt)=b:=⟨_,rfl⟩
    rw[hbw] at HGX ⊢;clear hbw;cases bw with
    | false=>
     have hgr:B.grantR f r t=false:=(uh HGX).1;rw[hgr] at HGB1 HGR1;have hz:Z=false:=uh HGB1;subst hz;have HG2:=zh (show B.grant f t=B from uh HGR1);clear hgr;go_wp2
     go_ret
     have e:=uh HUP _ ((uh HB1).trans ((uh HB4).mono (uh HB1).size));exact⟨rfl,by rw[uh HG2]; exact e.1,e.2⟩
    | true=>
     go_wp2_with fail
     refine(uh HOM w4 (uh HB4)).mono ?_;rintro e w5 ⟨a5,n5,d5,rfl,ho5,hb5⟩;have hB5:=(uh HB4).trans (hb5.mono (uh HB4).size);have HB5:=zh hB5;have HI5:=zh ((uh HI4).keep (Keeps.below hb5));have HO5:=zh ho5;have hl5:B.sta.length=(oneM B.sta t).length:=by simp[oneM]
     have HSO5:=zh (uh HSO _ w5 hB5 (Ints.ofOwn ho5 hl5));clear q0 q1 q2 q3 q4 q5 q6 q7 q8 q9;obtain⟨⟨q0,q1,q2,q3,q4,q5,q6,q7,q8,q9⟩,-,qg5⟩:=box10 ((uh HM1).below hB5).box;clear hb5 hB5 ho5 hl5;go_wp2_with fail
     refine(uh HSO5).mono ?_;rintro e w6 ⟨a6,m6,d6,rfl,-,hb6⟩;have hB6:=(uh HB5).trans (hb6.mono (uh HB5).size);have HB6:=zh hB6;have HI6:=zh ((uh HI5).keep (Keeps.below hb6));have HO6:=zh (z0j (uh HO5) hb6);clear q0 q1 q2 q3 q4 q5 q6 q7 q8 q9;have hM6:=(uh HM1).below hB6;obtain⟨⟨q0,q1,q2,q3,q4,q5,q6,q7,q8,q9⟩,⟨-,-,f8,-⟩,qg6⟩:=box10 hM6.box;have HM6:=zh hM6;clear hb6 hB6 hM6 HSO5;obtain⟨bf,hbf⟩:∃b,(z1s B.L.tns.length (B.L.stsAt (oneM B.sta t))).2.all (·.done)=b:=⟨_,rfl⟩
     have hsl:B.L.safeL (oneM B.sta t)=bf:=hbf;rw[hsl] at HGX;rw[hbf];clear hbf hsl;cases bf with
     | false=>
      have hgr:B.grantR f r t=false:=(uh HGX).1;rw[hgr] at HGB1 HGR1;have hz:Z=false:=uh HGB1;subst hz;have HG2:=zh (show B.grant f t=B from uh HGR1);clear hgr;go_wp2
      go_ret
      have e:=uh HUP _ ((uh HB1).trans ((uh HB6).mono (uh HB1).size));exact⟨rfl,by rw[uh HG2]; exact e.1,e.2⟩
     | true=>
      have hgr:B.grantR f r t=true:=(uh HGX).1;rw[hgr] at HGB1 HGR1;have hz:Z=true:=uh HGB1;subst hz;have HG2:=zh (show B.grant f t=({ B with sta:=oneM B.sta t }.putR r (y.set t)).wantN (swsOf y.rt) (swsOf y.rt).length by rw[uh HGR1,if_pos rfl,(uh HGX).2]);clear hgr;obtain⟨hr',hrq'⟩:=uh HR;have hws:w.heap.size<=w4.heap.size:=Nat.le_trans (uh HB1).size (uh HB4).size;have hown6:=uh HO6;rw[show B.sta.length=(oneM B.sta t).length by simp[oneM]] at hown6;have hf6:∀b,(Value.slice a5 n5 d5).ownBlock=some b->w4.heap.size<=b:=fun b hb=>(hown6.lt b hb).1;have h7:=(uh HM6).newSta (.slice a5 n5 d5) (oneM B.sta t) (z3a hown6 (Nat.zero_le _)) (fun b hb=>⟨fun hRb=>by have:=(uh HM).plan.1 b hRb; have:=hf6 b hb; omega,fun e=>by have:=((uh HM).waits.lt b e).2; have:=hf6 b hb; omega⟩);obtain⟨B7,hB7⟩:∃B7,B7={ B with sta:=oneM B.sta t }:=⟨_,rfl⟩
      have hr7:r < B7.rts.length:=by rw[hB7]; exact hr'
      have hy7:B7.rts[r]=y:=by subst hB7; exact uh HY
      rw[<-hB7] at h7 HG2;have hn7:n=B7.rts.length:=by rw[hB7]; exact uh HN
      have h7':PM (w6.setCell ⟨g,8,none⟩ (.slice a5 n5 d5)) R g (B7.putR r y) vs vr vt (.slice (some ⟨gl,0,none⟩) n cl) vw (.slice a5 n5 d5) vq qs:=by
       rw[<-hy7,putR_self B7 r hr7];have e:B.rts.length=n:=(uh HN).symm;rw[e] at h7; exact h7
      have HST:=zh (set_any R g B7 vs vr vt vw (.slice a5 n5 d5) vq qs gl n cl r y t _ h7' hn7 hr7 hrq' (uh HRT));have HO7:=zh (Only.setCell (F:=fun b=>b=g) (w:=w6) (a:=⟨g,8,none⟩) rfl (.slice a5 n5 d5));have HK7:=zh (Keeps.setCell (e:=168) (w:=w6) ⟨g,8,none⟩ (.slice a5 n5 d5) ⟨_,_,(uh HM6).box⟩ (by decide));have HT7:=zh (z2f h7'.routes (k:=gl) rfl);have hg7:g < (w6.setCell ⟨g,8,none⟩ (.slice a5 n5 d5)).heap.size:=by simpa [World.setCell] using qg6
      have q67:(w6.setCell ⟨g,8,none⟩ (.slice a5 n5 d5)).cell? ⟨g,6,none⟩=some (.slice (some ⟨gl,0,none⟩) n cl):=(box10 h7'.box).1.2.2.2.2.2.2.1;have HH7:=zh (And.intro hB7 (And.intro hn7 (And.intro hr7 hf6)));have hrn:r < n:=by omega
      clear h7 h7' hown6 hf6 hB7 hn7 hy7 q0 q1 q2 q3 q4 q5 q9;rw[show B.rts.length=n from (uh HN).symm] at q6 hrl;go_wp2_with fail
      refine(uh HST).mono ?_;rintro e w8 ⟨rfl,⟨m,hM8,hm8⟩,ho8⟩;have hz8:=ho8.size;simp[World.setCell] at hz8;have HI8:=zh ((uh HI6).keep ((uh HK7).trans (keeps_only ho8 (fun b hb=>by rw[hb]; exact uh HT7) (by decide))));have HM8:=zh hM8;have HO8:=zh (show Only (fun b=>b=g\/b=gl) w w8 from ((Only.of_below ((uh HB1).trans ((uh HB6).mono (uh HB1).size))).trans ((uh HO7).mono (fun b hb=>Or.inl hb))).trans (ho8.mono (fun b hb=>Or.inr hb)));have HMF:=zh (show ∀b,m.ownBlock=some b->w.heap.size<=b from fun b hb=>by
       have h5:=hm8 b hb;simp[World.setCell] at h5;have:=Nat.le_trans (uh HB1).size (uh HB6).size;omega)
      obtain⟨a2',d2',he2,hcn,hcm,-⟩:=SlAt.open (uh HI8);simp only[Value.slice.injEq] at he2;obtain⟨rfl,hn2,rfl⟩:=he2;unfold maxLen at hcm;rw[<-hn2] at hcn HG2;have HN2:=zh hn2;clear hM8 hm8 ho8 HST q6 q67 q7 q8 f8 hg7 hn2;obtain⟨l,hl⟩:∃l,swsOf y.rt=l:=⟨_,rfl⟩
      rw[hl] at HI8 HG2 HN2;obtain⟨B8,hB8⟩:∃B8,B7.putR r (y.set t)=B8:=⟨_,rfl⟩
      rw[hB8] at HM8 HG2;clear hl hB8;go_wp2
      go_loopw [96] (fun i wr=>∃k:Nat,i=.int .i64 k/\k<=n2/\PM wr R g (B8.wantN l k) vs vr vt (.slice (some ⟨gl,0,none⟩) n cl) vw (.slice a5 n5 d5) vq (qs.set r (qs[r].1,qs[r].2.1,m))/\Items wr (.slice a2 n2 d2) l/\Only (fun b=>b=g\/b=gl\/vw.ownBlock=some b) w wr) (fun i _=>n2 - (intOf i).toNat)
      case atStart=>exact⟨0,rfl,Nat.zero_le _,uh HM8,uh HI8,(uh HO8).mono (fun b hb=>by rcases hb with hb | hb; exact Or.inl hb; exact Or.inr (Or.inl hb))⟩
      case round=>
       clear HM8 HI8 HO8 hz8;obtain⟨k,rfl,hk,hMk,hIk,hOk⟩:=hrel;by_cases hlt:k < n2
       ·have hkl:k < l.length:=by rw[<-uh HN2]; exact hlt
        obtain⟨a2',d2',he2,-,-,i3⟩:=SlAt.open hIk;simp only[Value.slice.injEq] at he2;obtain⟨gi,oi,hai,hgi,csi,-,hCi,hci⟩:=i3 k hkl;rw[<-he2.1] at hai;subst hai;unfold CItem itemV at hCi;subst hCi;have x0:=hci 0 (by omega);have x1:=hci 1 (by omega);simp at x0 x1;have l3:(k:Int) < n2:=by omega
        have l4:(0:Int)<=k:=by omega
        have HNX:=zh (show B8.wantN l (k+1)=(B8.wantN l k).want1 l[k] by
         show (B8.wantN l k).want1 (l.getD k (0,0))=_;rw[z1f _ _ _ hkl])
        have HWN:=zh (fun (s c:Nat) (wz:World) (hz:Below wr.heap.size wr wz)=>want_any R g (B8.wantN l k) vs vr vt (.slice (some ⟨gl,0,none⟩) n cl) vw (.slice a5 n5 d5) vq (qs.set r (qs[r].1,qs[r].2.1,m)) s c wz (hMk.below hz));have HIk:=zh hIk;have HOk:=zh hOk;have HTW:=zh (show ∀(wz:World),Below wr.heap.size wr wz->∀b,vw.ownBlock=some b->Typed wz b 110 from fun wz hz b hb=>z2f (hMk.below hz).sws hb);clear i3 hci hMk hIk hOk he2;obtain⟨it,hit⟩:∃it,l[k]=it:=⟨_,rfl⟩
        rw[hit] at x0 x1 HNX;clear hit hkl;obtain⟨si,ci⟩:=it;simp only at x0 x1;go_wp2_with fail
        refine(uh HWN si ci _ (z01 wr _)).mono ?_;rintro e w9 ⟨rfl,hM9,ho9⟩;have HM9:=zh hM9;have HI9:=zh (((uh HIk).keep (Keeps.below (z01 wr _))).keep (keeps_only ho9 (uh HTW _ (z01 wr _)) (by decide)));have HO9:=zh ((uh HOk).trans ((Only.of_below (z01 wr _)).trans (ho9.mono (G:=fun b=>b=g\/b=gl\/vw.ownBlock=some b) (fun b hb=>Or.inr (Or.inr hb)))));clear hM9 ho9 x0 x1 HWN;go_wp2
        exact⟨⟨k+1,by go_num,by omega,by rw[uh HNX]; exact uh HM9,uh HI9,uh HO9⟩,by simp[intOf]; omega⟩
       ·obtain rfl:k=n2:=by omega
        have l3:¬(k:Int) < k:=by omega
        have hX:=uh HX;have hmk:=BoxQ.make (w:=w) (w':=wr) (F:=fun b=>b=g\/b=gl\/vw.ownBlock=some b) (P:=P) hX.2.1 hX.2.2.2 (uh HF).1 ((uh HF).only hOk (fun b hb hh=>hX.2.2.2 b hb (by
         rcases hh with hh | hh | hh
         ·exact hX.2.2.1 b (.inl hh)
         ·exact hX.2.2.1 b (.inr (.inl (by rw[hh]; rfl)))
         ·exact hX.2.2.1 b (.inr (.inr (.inl hh)))))) hOk (fun b hh=>by
          rcases hh with hh | hh | hh
          ·exact hX.2.2.1 b (.inl hh)
          ·exact hX.2.2.1 b (.inr (.inl (by rw[hh]; rfl)))
          ·exact hX.2.2.1 b (.inr (.inr (.inl hh)))) hMk hX.1 (fun b hh=>by
          rcases hh with hh | hh | hh | hh | hh | ⟨q,hq,hh⟩
          ·exact Or.inl (hX.2.2.1 b (.inl hh))
          ·exact Or.inl (hX.2.2.1 b (.inr (.inl (by
            have e:gl=b:=by simpa [Value.ownBlock] using hh
            rw[e]; rfl))))
          ·exact Or.inl (hX.2.2.1 b (.inr (.inr (.inl hh))))
          ·exact Or.inr (Nat.le_trans hws ((uh HH7).2.2.2 b hh))
          ·exact Or.inl (hX.2.2.1 b (.inr (.inr (.inr (.inr (.inl hh))))))
          ·rcases List.mem_or_eq_of_mem_set hq with h5 | h5
           ·exact Or.inl (hX.2.2.1 b (.inr (.inr (.inr (.inr (.inr ⟨q,h5,hh⟩))))))
           ·subst h5; exact Or.inr (uh HMF b hh))
        have HMK:=zh hmk;clear hmk hMk hIk hOk hX;go_wp2
        go_ret
        exact⟨rfl,by rw[uh HG2]; exact(uh HMK).1,(uh HMK).2⟩
end Go.Proofs.YtkbpocecbcaiiabGreatDoor
