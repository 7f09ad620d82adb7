import Derived.Test.YtkbpocecbcaiiabGreatDoorO27
namespace Go.Proofs.YtkbpocecbcaiiabGreatDoor
open Go.RowKit
def PRt.mayB (x:PRt):Bool:=x.ph==119||x.ph==103||x.ph==102
def PRt.drop (y:PRt) (f:PFr) (D:Nat):PRt:={ y with ph:=100,count:=if y.been&&f.occ.getD y.rt.foot false then D else 0 }
set_option maxHeartbeats 1000000 in
theorem mayDrop_at (g o:Nat) (x:PRt) (w:World) (h:w.cell? ⟨g,o+3,none⟩=some (.int .u8 x.ph)) :
  Calls Tryz.prog 111 #[.pointer (some ⟨g,o,none⟩)] w fun e w'=>e=.returned (.bool x.mayB)/\w'=w:=by
 have HB:=zh (show x.mayB=(x.ph==119||x.ph==103||x.ph==102) from rfl);obtain⟨Z,hZ⟩:∃Z,x.mayB=Z:=⟨_,rfl⟩
 rw[hZ] at HB ⊢;clear hZ;generalize x.ph=ph at *;have hcase:ph=119\/(ph≠119/\ph=103)\/(ph≠119/\ph≠103/\ph=102)\/(ph≠119/\ph≠103/\ph≠102):=by omega
 rcases hcase with h1 | ⟨h1,h2⟩ | ⟨h1,h2,h3⟩ | ⟨h1,h2,h3⟩
 ·have b1:((ph:Int)==119)=true:=by simp[h1]
  have HZ:=zh (show Z=true by rw[uh HB,h1]; rfl);clear h1;go_enter Tryz.func111,Tryz.ntmps111
  go_wp2
  go_ret
  exact⟨z04 (uh HZ).symm,rfl⟩
 ·have b1:((ph:Int)==119)=false:=by simp; omega
  have b2:((ph:Int)==103)=true:=by simp[h2]
  have HZ:=zh (show Z=true by rw[uh HB,h2]; rfl);clear h1 h2;go_enter Tryz.func111,Tryz.ntmps111
  go_wp2
  go_ret
  exact⟨z04 (uh HZ).symm,rfl⟩
 ·have b1:((ph:Int)==119)=false:=by simp; omega
  have b2:((ph:Int)==103)=false:=by simp; omega
  have b3:((ph:Int)==102)=true:=by simp[h3]
  have HZ:=zh (show Z=true by rw[uh HB,h3]; rfl);clear h1 h2 h3;go_enter Tryz.func111,Tryz.ntmps111
  go_wp2
  go_ret
  exact⟨z04 (uh HZ).symm,rfl⟩
 ·have b1:((ph:Int)==119)=false:=by simp; omega
  have b2:((ph:Int)==103)=false:=by simp; omega
  have b3:((ph:Int)==102)=false:=by simp; omega
  have HZ:=zh (show Z=false by rw[uh HB]; simp[h1,h2,h3]);clear h1 h2 h3;go_enter Tryz.func111,Tryz.ntmps111
  go_wp2
  go_ret
  exact⟨z04 (uh HZ).symm,rfl⟩
set_option maxRecDepth 100000 in
set_option maxHeartbeats 4000000 in
theorem drop_any (R P:Nat->Prop) (g:Nat) (B:PBx) (vs vr vt vw va vq:Value) (qs:List Q3) (gl n cl r:Nat) (y:PRt) (vfr:Value) (f:PFr) (D:Nat) (w:World) (h:PM w R g (B.putR r y) vs vr vt (.slice (some ⟨gl,0,none⟩) n cl) vw va vq qs) (hf:FrPIn P w vfr f) (hn:n=B.rts.length) (hr:r < B.rts.length) (hrq:r < qs.length)
  (hP:∀b,P b->b≠gl/\qs[r].2.2.ownBlock≠some b) :
  Calls Tryz.prog 112 #[.pointer (some ⟨gl,r*9,none⟩),vfr,.int .i64 D] w fun e w'=>e=.returned (.tuple #[])/\StepR R P g B vs vr vt vw va vq qs gl n cl r hrq vfr f w w' (y.drop f D):=by
 obtain⟨vc,vo,vp,rfl,hc1,ho1,hp1⟩:=hf.at;obtain⟨ac,cc,rfl,-⟩:=SlAt.open hc1;obtain⟨ao,co,rfl,-⟩:=SlAt.open ho1;obtain⟨ap,cp,rfl,-⟩:=SlAt.open hp1;obtain⟨hc,hC,hz,hgl,-⟩:=h.rAt hn hr hrq;have c3:=hc 3 (by omega);have c6:=hc 6 (by omega);have f3:=hz (r*9+3);have f6:=hz (r*9+6);simp[prtV] at c3 c6;have HS:=zh (StepR.refl h hf hrq);have HX:=zh (And.intro hP hn);have HDR:=zh (PRt.drop.eq_1 y f D);clear hc hC hz hc1 ho1 hp1 h hf hP hn;go_enter Tryz.func112,Tryz.ntmps112
 go_wp2
 generalize hW1:World.alloc _ _=W1;have hS1:StepR R P g B vs vr vt vw va vq qs gl n cl r hrq (.agg #[.slice ac f.cmds.length cc,.slice ao f.occ.length co,.slice ap f.rep.length cp]) f w W1 { y with ph:=100,count:=0 }:=by
  rw[<-hW1];exact(((uh HS).setR (uh HX).1 (uh HX).2 hr 3 (by omega) (.int .u8 100) { y with ph:=100 } (fun q=>rfl) rfl rfl).setR (uh HX).1 (uh HX).2 hr 6 (by omega) (.int .i64 0) { y with ph:=100,count:=0 } (fun q=>rfl) rfl rfl).below (z01 _ _)
 have hfb:W1.heap[w.heap.size]?=some (z0r (.slice ac f.cmds.length cc) (.slice ao f.occ.length co) (.slice ap f.rep.length cp)):=by
  rw[<-hW1];have e:=heap_alloc_new ((w.setCell ⟨gl,r*9+3,none⟩ (.int .u8 100)).setCell ⟨gl,r*9+6,none⟩ (.int .i64 0)) (z0r (.slice ac f.cmds.length cc) (.slice ao f.occ.length co) (.slice ap f.rep.length cp));rw[show ((w.setCell ⟨gl,r*9+3,none⟩ (.int .u8 100)).setCell ⟨gl,r*9+6,none⟩ (.int .i64 0)).heap.size=w.heap.size by simp[World.setCell]] at e;exact e
 obtain⟨hc,-,hz,hglW,-⟩:=hS1.1.rAt (uh HX).2 hr hrq;have d0:=hc 0 (by omega);have d5:=hc 5 (by omega);have d6:=hc 6 (by omega);have e6:=hz (r*9+6);simp[prtV] at d0 d5 d6;obtain⟨⟨y0,y1,y2⟩,-,qf⟩:=tri0 hfb;have HOC:=zh (fun (wz:World) (hz:Below W1.heap.size W1 wz)=>occ_any _ f y.rt.foot wz (hS1.2.1.at.below hz));have HS1:=zh hS1;have HD6:=zh (And.intro d6 e6);clear hW1 hS1 hfb hc hz c3 c6 f3 f6 HS;obtain⟨be,hbe⟩:∃b,y.been=b:=⟨_,rfl⟩
 have HDR1:=zh (show y.drop f D={ y with ph:=100,count:=if be&&f.occ.getD y.rt.foot false then D else 0 } by rw[uh HDR,hbe]);rw[hbe] at d5;clear hbe HDR;cases be with
 | false=>
  have HDR2:=zh (show y.drop f D={ y with ph:=100,count:=0 } from uh HDR1);go_quiet (fail)
  go_wp2
  refine bodyPost_end (v:=.tuple #[]) (by simp[results,Tryz.results112,go_sem]) rfl ?_;exact⟨rfl,by rw[uh HDR2]; exact(uh HS1).below (below_drewN (Below.refl _ _) _)⟩
 | true=>
  have HDR2:=zh (show y.drop f D={ y with ph:=100,count:=if f.occ.getD y.rt.foot false then D else 0 } from uh HDR1);clear HDR1;obtain⟨bo,hbo⟩:∃b,f.occ.getD y.rt.foot false=b:=⟨_,rfl⟩
  rw[hbo] at HDR2 HOC;clear hbo;generalize y.rt.foot=ft at *;go_cut [24] (fun v wx=>v=.bool bo/\Below W1.heap.size W1 wx)
  case first=>
   go_region_with (go_at_call 120; refine(uh HOC _ ?_).mono ?_; (first | exact(Below.refl _ _) | exact(Below.refl _ _).drew | exact(Below.refl _ _).drew.drew); rintro e w2 ⟨rfl,hb2⟩)
   all_goals
    have HB2:=zh (show Below W1.heap.size W1 w2 from (Below.refl W1.heap.size W1).drew.trans hb2);clear hb2;go_wp2_with fail
    go_meet
    exact⟨rfl,uh HB2⟩
  case rest=>
   obtain⟨rfl,hbc⟩:=hcut;have HBC:=zh hbc;have d6':=(uh HD6).1;have e6':=(uh HD6).2;rw[<-hbc.cell (p:=⟨gl,_,none⟩) hglW] at d6';rw[<-hbc.frozen (p:=⟨gl,_,none⟩) hglW] at e6';clear hbc d0 d5 d6 e6 y0 y1 y2;cases bo with
   | false=>
    have HDR3:=zh (show y.drop f D={ y with ph:=100,count:=0 } from uh HDR2);go_wp2
    refine bodyPost_end (v:=.tuple #[]) (by simp[results,Tryz.results112,go_sem]) rfl ?_;exact⟨rfl,by rw[uh HDR3]; exact(uh HS1).below (uh HBC)⟩
   | true=>
    have HDR3:=zh (show y.drop f D={ y with ph:=100,count:=D } from uh HDR2);go_wp2
    refine bodyPost_end (v:=.tuple #[]) (by simp[results,Tryz.results112,go_sem]) rfl ?_;refine⟨rfl,?_⟩;rw[uh HDR3];exact((uh HS1).below (uh HBC)).setR (uh HX).1 (uh HX).2 hr 6 (by omega) (.int .i64 D) { y with ph:=100,count:=D } (fun q=>rfl) rfl rfl
def PBx.cancB (B:PBx) (r:Nat):Bool:=decide (r < B.rts.length)&&(B.route r).mayB
def PBx.cancel (B:PBx) (f:PFr) (r:Nat):PBx:=if B.cancB r then B.putR r ((B.route r).drop f B.L.D) else B
set_option maxRecDepth 100000 in
set_option maxHeartbeats 4000000 in
theorem cancel_f (D P:Nat->Prop) (g:Nat) (B:PBx) (vfr:Value) (f:PFr) (r:Nat) (w:World) (h:BoxF w D P g B vfr f) :
  Calls Tryz.prog 77 #[.pointer (some ⟨g,0,none⟩),.int .i64 r,vfr] w fun e w'=>e=.returned (.int .u8 (if B.cancB r then 107 else 110:Nat))/\BoxF w' (grow D w w') P g (B.cancel f r) vfr f/\Only D w w':=by
 obtain⟨R,vs,vr,vt,vl,vw,va,vq,qs,hM,h1,h2,h3⟩:=h.box;obtain⟨vc,vo,vp,rfl,hc1,ho1,hp1⟩:=h.frame.at;obtain⟨ac,cc,rfl,-⟩:=SlAt.open hc1;obtain⟨ao,co,rfl,-⟩:=SlAt.open ho1;obtain⟨ap,cp,rfl,-⟩:=SlAt.open hp1;have HCB:=zh (PBx.cancB.eq_1 B r);have HCC:=zh (PBx.cancel.eq_1 B f r);have HB0:=zh (z01 w (z0r (.slice ac f.cmds.length cc) (.slice ao f.occ.length co) (.slice ap f.rep.length cp)));have HUP:=zh (fun (w':World) (hb:Below w.heap.size w w')=>And.intro (h.up hb) (Only.of_below (F:=D) hb));obtain⟨⟨q0,q1,q2,q3,q4,q5,q6,q7,q8,q9⟩,-,qg⟩:=box10 hM.box;obtain⟨al,cl,hvl⟩:=z02 hM.routes;subst hvl;have d:¬(r:Int) < 0:=by omega
 have l0:(0:Int)<=r:=by omega
 clear hc1 ho1 hp1;by_cases hr:r < B.rts.length
 ·have hrq:r < qs.length:=by rw[hM.qlen]; exact hr
  obtain⟨gl,cl',hal,hl1,hl2,hgl⟩:=z2w hM.routes (by omega);simp only[Value.slice.injEq,true_and] at hal;obtain⟨rfl,rfl⟩:=hal;unfold maxLen at hl2;have hMp:PM w R g (B.putR r B.rts[r]) vs vr vt (.slice (some ⟨gl,0,none⟩) B.rts.length cl) vw va vq qs:=by rw[putR_self B r hr]; exact hM
  obtain⟨hc,-,-,-,-⟩:=hMp.rAt rfl hr hrq;have c3:=hc 3 (by omega);simp[prtV] at c3;have hrt:B.route r=B.rts[r]:=z1f _ _ _ hr;rw[decide_eq_true hr,Bool.true_and,hrt] at HCB;rw[hrt] at HCC;have HMD:=zh (fun (wz:World) (hz:Below w.heap.size w wz)=>mayDrop_at gl (r*9) B.rts[r] wz (by rw[hz.cell (p:=⟨gl,_,none⟩) hgl]; exact c3));have HDP:=zh (fun (wz:World) (hz:Below w.heap.size w wz)=>drop_any R P g B vs vr vt vw va vq qs gl B.rts.length cl r B.rts[r] _ f B.L.D wz (hMp.below hz) (h.frame.below hz) rfl hr hrq (fun b hb=>⟨fun e=>h.apart b hb (h3 b (.inr (.inl (by rw[e]; rfl)))),fun e=>h.apart b hb (h3 b (.inr (.inr (.inr (.inr (.inr ⟨_,List.getElem_mem hrq,e⟩))))))⟩));have HMK:=zh (fun (wz w':World) (z:PRt) (hz:Below w.heap.size w wz) (hs:StepR R P g B vs vr vt vw va vq qs gl B.rts.length cl r hrq (.agg #[.slice ac f.cmds.length cc,.slice ao f.occ.length co,.slice ap f.rep.length cp]) f wz w' z)=>
   BoxF.make (w:=w) (w':=w') (F:=fun b=>b=gl\/qs[r].2.2.ownBlock=some b) h2 h.apart h.frame.1 hs.2.1 ((Only.of_below hz).trans hs.2.2) (fun b hb=>by
    rcases hb with hb | hb
    ·exact h3 b (.inr (.inl (by rw[hb]; rfl)))
    ·exact h3 b (.inr (.inr (.inr (.inr (.inr ⟨_,List.getElem_mem hrq,hb⟩)))))) hs.1 h1 (fun b hb=>Or.inl (h3 b hb)))
  have l1:(r:Int) < B.rts.length:=by omega
  have l2:¬(B.rts.length:Int)<=r:=by omega
  clear hc hM hMp hrt h h1 h2 h3 q0 q2 q3 q4 q5 q7 q8 q9 c3;obtain⟨bm,hbm⟩:∃b,B.rts[r].mayB=b:=⟨_,rfl⟩
  rw[hbm] at HCB HMD;clear hbm;rw[uh HCB] at HCC ⊢;obtain⟨yy,hyy⟩:∃y,B.rts[r]=y:=⟨_,rfl⟩
  rw[hyy] at HDP HCC;clear hyy;generalize B.rts.length=n at *;cases bm with
  | false=>
   go_enter Tryz.func77,Tryz.ntmps77
   go_wp2_with fail
   refine(uh HMD _ (uh HB0)).mono ?_;rintro e w1 ⟨rfl,hw1⟩;subst hw1;go_wp2
   go_ret
   have e:=uh HUP _ (uh HB0);exact⟨rfl,by rw[uh HCC]; exact e.1,e.2⟩
  | true=>
   go_enter Tryz.func77,Tryz.ntmps77
   go_wp2_with fail
   refine(uh HMD _ (uh HB0)).mono ?_;rintro e w1 ⟨rfl,hw1⟩;have hB1:Below w.heap.size w w1:=by rw[hw1]; exact uh HB0
   have hfb:w1.heap[w.heap.size]?=some (z0r (.slice ac f.cmds.length cc) (.slice ao f.occ.length co) (.slice ap f.rep.length cp)):=by rw[hw1]; exact heap_alloc_new _ _
   obtain⟨⟨y0,y1,y2⟩,-,qf⟩:=tri0 hfb;rw[<-hB1.cell (p:=⟨g,_,none⟩) qg] at q1 q6;have hgw:g < w1.heap.size:=Nat.lt_of_lt_of_le qg hB1.size;have HB1:=zh hB1;clear hw1 hB1 hfb;go_wp2
   go_region_with (go_at_call 112; refine(uh HDP _ ?_).mono ?_; (first | exact(uh HB1) | exact(uh HB1).drew | exact(uh HB1).drew.drew); rintro e w2 ⟨rfl,hs2⟩)
   all_goals
    have HF2:=zh (uh HMK _ _ _ (by first | exact(uh HB1) | exact(uh HB1).drew | exact(uh HB1).drew.drew) hs2);clear hs2;go_wp2
    go_ret
    exact⟨rfl,by rw[uh HCC]; exact(uh HF2).1,(uh HF2).2⟩
 ·rw[decide_eq_false hr,Bool.false_and] at HCB
  rw[uh HCB] at HCC ⊢;have l2:(B.rts.length:Int)<=r:=by omega
  clear hM h h1 h2 h3 q0 q2 q3 q4 q5 q7 q8 q9 hr;generalize B.rts.length=n at *;go_enter Tryz.func77,Tryz.ntmps77
  go_wp2
  go_ret
  have e:=uh HUP _ (uh HB0);exact⟨rfl,by rw[uh HCC]; exact e.1,e.2⟩
def PBx.mend (B:PBx) (s:Nat):PBx:=if (B.sw s).failed then B.putS s { B.sw s with failed:=false } else B
set_option maxRecDepth 100000 in
set_option maxHeartbeats 4000000 in
theorem mend_f (D P:Nat->Prop) (g:Nat) (B:PBx) (vfr:Value) (f:PFr) (s:Nat) (w:World) (h:BoxF w D P g B vfr f) :
  Calls Tryz.prog 78 #[.pointer (some ⟨g,0,none⟩),.int .i64 s] w fun e w'=>e=.returned (.int .u8 (if (B.sw s).failed then 109 else 110:Nat))/\BoxF w' (grow D w w') P g (B.mend s) vfr f/\Only D w w':=by
 obtain⟨R,vs,vr,vt,vl,vw,va,vq,qs,hM,h1,h2,h3⟩:=h.box;have HCC:=zh (PBx.mend.eq_1 B s);have HUP:=zh (And.intro (h.up (Below.refl w.heap.size w)) (Only.refl D w));obtain⟨⟨q0,q1,q2,q3,q4,q5,q6,q7,q8,q9⟩,-,qg⟩:=box10 hM.box;obtain⟨aw,cw,hvw⟩:=z02 hM.sws;subst hvw;have d:¬(s:Int) < 0:=by omega
 have l0:(0:Int)<=s:=by omega
 by_cases hs:s < B.sws.length
 ·obtain⟨gw,cw',haw,hw1,hw2,hgw⟩:=z2w hM.sws (by omega)
  simp only[Value.slice.injEq,true_and] at haw;obtain⟨rfl,rfl⟩:=haw;unfold maxLen at hw2;obtain⟨hc,hz,-⟩:=hM.swCells rfl hs;have c2:=hc 2 (by omega);have f2:=hz (s*3+2);simp[swV] at c2;have hsw:B.sw s=B.sws[s]:=z1f _ _ _ hs;rw[hsw] at HCC ⊢;have hMS:=hM.setSw rfl s 2 hs (by omega) (.bool false) { B.sws[s] with failed:=false } rfl;have HMK:=zh (BoxF.make (w:=w) (F:=fun b=>b=gw) h2 h.apart h.frame.1 (h.frame.only (Only.setCell (F:=fun b=>b=gw) (w:=w) (a:=⟨gw,s*3+2,none⟩) rfl (.bool false)) (fun b hb e=>h.apart b hb (h3 b (.inr (.inr (.inl (by rw[e]; rfl))))))) (Only.setCell (F:=fun b=>b=gw) (w:=w) (a:=⟨gw,s*3+2,none⟩) rfl (.bool false)) (fun b hb=>h3 b (.inr (.inr (.inl (by rw[hb]; rfl))))) hMS h1 (fun b hb=>Or.inl (h3 b hb)));have l1:(s:Int) < B.sws.length:=by omega
  have l2:¬(B.sws.length:Int)<=s:=by omega
  clear hc hz hM h h1 h2 h3 q0 q1 q2 q3 q4 q5 q6 q8 q9 hMS hsw;obtain⟨fa,hfa⟩:∃b,B.sws[s].failed=b:=⟨_,rfl⟩
  rw[hfa] at HCC c2 ⊢;clear hfa;obtain⟨xx,hxx⟩:∃x,B.sws[s]=x:=⟨_,rfl⟩
  rw[hxx] at HCC HMK;clear hxx;generalize B.sws.length=n at *;cases fa with
  | false=>
   go_enter Tryz.func78,Tryz.ntmps78
   go_wp2
   go_ret
   exact⟨rfl,by rw[uh HCC]; exact(uh HUP).1,(uh HUP).2⟩
  | true=>
   go_enter Tryz.func78,Tryz.ntmps78
   go_wp2
   go_ret
   exact⟨rfl,by rw[uh HCC]; exact(uh HMK).1,(uh HMK).2⟩
 ·have hsw:(B.sw s).failed=false:=by unfold PBx.sw; rw[List.getD_eq_getElem?_getD,List.getElem?_eq_none (by omega)]; rfl
  rw[hsw] at HCC ⊢;have l2:(B.sws.length:Int)<=s:=by omega
  clear hM h h1 h2 h3 q0 q1 q2 q3 q4 q5 q6 q8 q9 hs hsw;generalize B.sws.length=n at *;go_enter Tryz.func78,Tryz.ntmps78
  go_wp2
  go_ret
  exact⟨rfl,by rw[uh HCC]; exact(uh HUP).1,(uh HUP).2⟩
theorem request_f (D P:Nat->Prop) (g:Nat) (B:PBx) (vfr:Value) (f:PFr) (t:Nat) (w:World) (h:BoxF w D P g B vfr f) (hwl:B.waits.length<=1000) :
  Calls Tryz.prog 76 #[.pointer (some ⟨g,0,none⟩),.int .i64 t] w fun e w'=>e=.returned (.int .u8 (B.askA t))/\BoxF w' (grow D w w') P g (B.ask t) vfr f/\Only D w w':=by
 obtain⟨R,vs,vr,vt,vl,vw,va,vq,qs,hM,h1,h2,h3⟩:=h.box;refine(request_any R g B vs vr vt vl vw va vq qs t w hM hwl).mono ?_;rintro e w' ⟨rfl,⟨vq',hM',hq'⟩,hO'⟩;have hFD:∀b,(b=g\/vq.ownBlock=some b)->D b:=fun b hb=>by
  rcases hb with hb | hb
  ·exact h3 b (.inl hb)
  ·exact h3 b (.inr (.inr (.inr (.inr (.inl hb)))))
 refine⟨rfl,BoxF.make h2 h.apart h.frame.1 (h.frame.only hO' (fun b hb e=>h.apart b hb (hFD b e))) hO' hFD hM' h1 (fun b hb=>?_)⟩;rcases hb with hb | hb | hb | hb | hb | hb
 ·exact Or.inl (h3 b (.inl hb))
 ·exact Or.inl (h3 b (.inr (.inl hb)))
 ·exact Or.inl (h3 b (.inr (.inr (.inl hb))))
 ·exact Or.inl (h3 b (.inr (.inr (.inr (.inl hb)))))
 ·rcases hq' b hb with h5 | h5
  ·exact Or.inl (h3 b (.inr (.inr (.inr (.inr (.inl h5))))))
  ·exact Or.inr h5
 ·exact Or.inl (h3 b (.inr (.inr (.inr (.inr (.inr hb))))))
end Go.Proofs.YtkbpocecbcaiiabGreatDoor
