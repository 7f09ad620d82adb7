import Derived.Test.YtkbpocecbcaiiabGreatDoorO16
namespace Go.Proofs.YtkbpocecbcaiiabGreatDoor
open Go.RowKit
def PSw.tick (x:PSw) (isLate:Bool) (T:Nat):PSw:=
 if isLate then (if T<=x.late+1 then ⟨x.wanted,0,true⟩ else ⟨x.wanted,x.late+1,x.failed⟩) else ⟨x.wanted,0,x.failed⟩
def PBx.putS (B:PBx) (i:Nat) (x:PSw):PBx:={ B with sws:=B.sws.set i x }
theorem putS_self (B:PBx) (i:Nat) (h:i < B.sws.length):B.putS i B.sws[i]=B:=by
 unfold PBx.putS; rw[set_self]
theorem PM.setS {w:World} {R:Nat->Prop} {g:Nat} {B:PBx} {vs vr vt vl va vq:Value} {qs:List Q3} {gw n cap:Nat} {i:Nat} {y:PSw} (h:PM w R g (B.putS i y) vs vr vt vl (.slice (some ⟨gw,0,none⟩) n cap) va vq qs) (hn:n=B.sws.length) (hi:i < B.sws.length) (j:Nat) (hj:j < 3) (u:Value) (x:PSw) (hx:swV x=(swV y).set j u) :
  PM (w.setCell ⟨gw,i*3+j,none⟩ u) R g (B.putS i x) vs vr vt vl (.slice (some ⟨gw,0,none⟩) n cap) va vq qs:=by
 have:=h.setSw (by simpa [PBx.putS] using hn) i j (by simpa [PBx.putS] using hi) hj u x (by simpa [PBx.putS] using hx)
 simpa [PBx.putS] using this
theorem PM.sCells {w:World} {R:Nat->Prop} {g:Nat} {B:PBx} {vs vr vt vl va vq:Value} {qs:List Q3} {gw n cap:Nat} {i:Nat} {y:PSw} (h:PM w R g (B.putS i y) vs vr vt vl (.slice (some ⟨gw,0,none⟩) n cap) va vq qs) (hn:n=B.sws.length) (hi:i < B.sws.length) :
  (∀j,j < 3->w.cell? ⟨gw,i*3+j,none⟩=(swV y)[j]?)/\(∀j,w.frozen? ⟨gw,j,none⟩=false)/\gw < w.heap.size:=by
 have:=h.swCells (by simpa [PBx.putS] using hn) (i:=i) (by simpa [PBx.putS] using hi)
 simpa [PBx.putS] using this
set_option maxHeartbeats 1000000 in
theorem count_any (R:Nat->Prop) (g:Nat) (B:PBx) (vs vr vt vl va vq:Value) (qs:List Q3) (gw n cap i T:Nat) (isLate:Bool) (w:World) (h:PM w R g B vs vr vt vl (.slice (some ⟨gw,0,none⟩) n cap) va vq qs) (hn:n=B.sws.length) (hi:i < B.sws.length) (hl:B.sws[i].late<=1000) :
  Calls Tryz.prog 71 #[.pointer (some ⟨gw,i*3,none⟩),.bool isLate,.int .i64 T] w fun e w'=>e=.returned (.tuple #[])/\PM w' R g (B.putS i (B.sws[i].tick isLate T)) vs vr vt vl (.slice (some ⟨gw,0,none⟩) n cap) va vq qs/\Only (fun b=>b=gw) w w':=by
 have h0:PM w R g (B.putS i B.sws[i]) vs vr vt vl (.slice (some ⟨gw,0,none⟩) n cap) va vq qs:=by rw[putS_self B i hi]; exact h
 have HM:=zh h0;obtain⟨hc,hz,hg⟩:=h0.sCells hn hi;have c1:=hc 1 (by omega);have c2:=hc 2 (by omega);have f1:=hz (i*3+1);have f2:=hz (i*3+2);simp[swV] at c1 c2;have HN:=zh hn;clear h h0 hc hz hn;have HT:=zh (PSw.tick.eq_1 B.sws[i] isLate T);obtain⟨x,hx⟩:∃x,B.sws[i]=x:=⟨_,rfl⟩
 rw[hx] at HM HT hl c1 c2 ⊢;clear hx;obtain⟨wa,la,fa⟩:=x;simp only at c1 c2 HT hl;have HF:∀(a:Addr),a.block=gw->∀u (W:World),Only (fun b=>b=gw) W (W.setCell a u):=fun a ha u W=>Only.setCell ha u;cases isLate with
 | false=>
  have HT2:=zh (show PSw.tick ⟨wa,la,fa⟩ false T=⟨wa,0,fa⟩ from rfl);clear HT;go_enter Tryz.func71,Tryz.ntmps71
  go_wp2
  refine bodyPost_ret (v:=.tuple #[]) (by simp[results,Tryz.results71]) rfl ?_;exact⟨rfl,by rw[uh HT2]; exact(uh HM).setS (uh HN) hi 1 (by omega) _ _ rfl,HF _ rfl _ _⟩
 | true=>
  have e1:(la:Int)+1=((la+1:Nat):Int):=by omega
  by_cases hT:T<=la+1
  ·have HT2:=zh (show PSw.tick ⟨wa,la,fa⟩ true T=⟨wa,0,true⟩ by rw[uh HT,if_pos rfl,if_pos hT])
   have d:(T:Int)<=(la:Int)+1:=by omega
   have HE:=zh e1;clear HT hT e1;go_enter Tryz.func71,Tryz.ntmps71
   go_wp2
   refine bodyPost_end (v:=.tuple #[]) (by simp[results,Tryz.results71,go_sem]) rfl ?_;rw[uh HE];exact⟨rfl,by rw[uh HT2]; exact(((uh HM).setS (uh HN) hi 1 (by omega) _ ⟨wa,la+1,fa⟩ rfl).setS (uh HN) hi 2 (by omega) _ ⟨wa,la+1,true⟩ rfl).setS (uh HN) hi 1 (by omega) _ ⟨wa,0,true⟩ rfl,((HF ⟨gw,i*3+1,none⟩ rfl _ _).trans (HF ⟨gw,i*3+2,none⟩ rfl _ _)).trans (HF ⟨gw,i*3+1,none⟩ rfl _ _)⟩
  ·have HT2:=zh (show PSw.tick ⟨wa,la,fa⟩ true T=⟨wa,la+1,fa⟩ by rw[uh HT,if_pos rfl,if_neg hT])
   have d:¬(T:Int)<=(la:Int)+1:=by omega
   have HE:=zh e1;clear HT hT e1;go_enter Tryz.func71,Tryz.ntmps71
   go_wp2
   refine bodyPost_end (v:=.tuple #[]) (by simp[results,Tryz.results71,go_sem]) rfl ?_;rw[uh HE];exact⟨rfl,by rw[uh HT2]; exact(uh HM).setS (uh HN) hi 1 (by omega) _ ⟨wa,la+1,fa⟩ rfl,HF ⟨gw,i*3+1,none⟩ rfl _ _⟩
def PBx.sw (B:PBx) (s:Nat):PSw:=B.sws.getD s PSw.new
def PBx.lateB (B:PBx) (f:PFr) (s:Nat):Bool:=!(B.sw s).failed&&B.heldB s&&!f.repAs s (B.sw s).wanted
def PBx.late1 (B:PBx) (f:PFr) (k:Nat):PBx:=if B.L.sw.getD k false then B.putS k ((B.sw k).tick (B.lateB f k) B.L.T) else B
def PBx.lateN (B:PBx) (f:PFr):Nat->PBx
 | 0=>B
 | k+1=>(B.lateN f k).late1 f k
theorem late1_pres (B:PBx) (f:PFr) (k:Nat):(B.late1 f k).L=B.L/\(B.late1 f k).rts=B.rts/\(B.late1 f k).sta=B.sta/\(B.late1 f k).waits=B.waits/\(B.late1 f k).sws.length=B.sws.length:=by
 unfold PBx.late1;split <;> simp[PBx.putS]
theorem lateN_pres (B:PBx) (f:PFr) (k:Nat):(B.lateN f k).L=B.L/\(B.lateN f k).rts=B.rts/\(B.lateN f k).sta=B.sta/\(B.lateN f k).waits=B.waits/\(B.lateN f k).sws.length=B.sws.length:=by
 induction k with
 | zero=>exact⟨rfl,rfl,rfl,rfl,rfl⟩
 | succ k ih=>
  obtain⟨a,b,c,d,e⟩:=late1_pres (B.lateN f k) f k;exact⟨a.trans ih.1,b.trans ih.2.1,c.trans ih.2.2.1,d.trans ih.2.2.2.1,e.trans ih.2.2.2.2⟩
theorem tick_late (x:PSw) (b:Bool) (T:Nat) (hT:T<=1000) (_hx:x.late<=1000):(x.tick b T).late<=1000:=by
 unfold PSw.tick;split
 ·split
  ·exact Nat.zero_le _
  ·show x.late+1<=1000; omega
 ·exact Nat.zero_le _
theorem late1_bd (B:PBx) (f:PFr) (k:Nat) (hT:B.L.T<=1000) (h:∀x,x∈B.sws->x.late<=1000):∀x,x∈(B.late1 f k).sws->x.late<=1000:=by
 unfold PBx.late1;split
 ·intro x hx
  rcases List.mem_or_eq_of_mem_set hx with h1 | h1
  ·exact h x h1
  ·subst h1
   refine tick_late _ _ _ hT ?_;unfold PBx.sw;rw[List.getD_eq_getElem?_getD];cases hk:B.sws[k]? with
   | none=>exact Nat.zero_le _
   | some y=>exact h y (List.mem_of_getElem? hk)
 ·exact h
theorem lateN_bd (B:PBx) (f:PFr) (k:Nat) (hT:B.L.T<=1000) (h:∀x,x∈B.sws->x.late<=1000):∀x,x∈(B.lateN f k).sws->x.late<=1000:=by
 induction k with
 | zero=>exact h
 | succ k ih=>exact late1_bd _ f k (by rw[(lateN_pres B f k).1]; exact hT) ih
set_option maxRecDepth 100000 in
set_option maxHeartbeats 4000000 in
theorem countLate_any (R P:Nat->Prop) (g:Nat) (B:PBx) (vs vr vt vl vw va vq:Value) (qs:List Q3) (vfr:Value) (f:PFr) (w:World) (h:PM w R g B vs vr vt vl vw va vq qs) (hf:FrPIn P w vfr f)
  (hP:∀b,P b->vw.ownBlock≠some b) (hr:B.rts.length<=1000) (hfr:∀x,x∈B.rts->x.freed<=1000) (hT:B.L.T<=1000) (hlb:∀x,x∈B.sws->x.late<=1000) :
  Calls Tryz.prog 34 #[.pointer (some ⟨g,0,none⟩),vfr] w fun e w'=>e=.returned (.tuple #[])/\PM w' R g (B.lateN f B.sws.length) vs vr vt vl vw va vq qs/\FrPIn P w' vfr f/\Only (fun b=>vw.ownBlock=some b) w w':=by
 obtain⟨vc,vo,vp,rfl,hc1,ho1,hp1⟩:=hf.at;obtain⟨ac,cc,rfl,-⟩:=SlAt.open hc1;obtain⟨ao,co,rfl,-⟩:=SlAt.open ho1;obtain⟨ap,cp,rfl,-⟩:=SlAt.open hp1;obtain⟨aw,cw,hvw⟩:=z02 h.sws;subst hvw;obtain⟨⟨q0,q1,q2,q3,q4,q5,q6,q7,q8,q9⟩,-,qg⟩:=box10 h.box;obtain⟨n,hn⟩:∃n,n=B.sws.length:=⟨_,rfl⟩
 have HFX:=zh (And.intro hfr (And.intro hT hlb));have HP:=zh hP;have HW0:=zh (z01 w (z0r (.slice ac f.cmds.length cc) (.slice ao f.occ.length co) (.slice ap f.rep.length cp)));have HS0:=zh (And.intro h (And.intro hf (heap_alloc_new w (z0r (.slice ac f.cmds.length cc) (.slice ao f.occ.length co) (.slice ap f.rep.length cp)))));have HN:=zh hn;rw[<-hn];rw[<-hn] at q7 HS0 HP;clear h hf hc1 ho1 hp1 hP hfr hT hlb hn;go_enter Tryz.func34,Tryz.ntmps34
 go_wp2
 go_loopw [12] (fun i wr=>∃k:Nat,i=.int .i64 k/\k<=n/\PM wr R g (B.lateN f k) vs vr vt vl (.slice aw n cw) va vq qs/\FrPIn P wr (.agg #[.slice ac f.cmds.length cc,.slice ao f.occ.length co,.slice ap f.rep.length cp]) f ∧
   Only (fun b=>(Value.slice aw n cw).ownBlock=some b) w wr/\wr.heap[w.heap.size]?=some (z0r (.slice ac f.cmds.length cc) (.slice ao f.occ.length co) (.slice ap f.rep.length cp))) (fun i _=>n - (intOf i).toNat)
 case atStart=>exact⟨0,rfl,Nat.zero_le _,(uh HS0).1.below (uh HW0),(uh HS0).2.1.below (uh HW0),Only.of_below (uh HW0),(uh HS0).2.2⟩
 case round=>
  clear HS0 HW0 q0 q1 q2 q3 q4 q5 q6 q7 q8 q9;obtain⟨k,rfl,hk,hM,hFr,hO,hfb⟩:=hrel;obtain⟨p1,p2,p3,p4,p5⟩:=lateN_pres B f k;have hbd:=lateN_bd B f k (uh HFX).2.1 (uh HFX).2.2;obtain⟨D,hD⟩:∃D,D=B.lateN f k:=⟨_,rfl⟩
  rw[<-hD] at hM p1 p2 p3 p4 p5 hbd;have hnD:n=D.sws.length:=by rw[p5]; exact uh HN
  obtain⟨⟨q0,q1,q2,q3,q4,q5,q6,q7,q8,q9⟩,-,qg2⟩:=box10 hM.box;obtain⟨⟨y0,y1,y2⟩,-,qf⟩:=tri0 hfb;have hO2:=hO.size;by_cases hlt:k < n
  ·have hkD:k < D.sws.length:=by omega
   obtain⟨gw,cw',haw,hw1,hw2,hgw⟩:=z2w hM.sws (by omega);simp only[Value.slice.injEq] at haw;obtain⟨rfl,-,rfl⟩:=haw;obtain⟨hsc,hsz,-⟩:=hM.swCells hnD hkD;have x0:=hsc 0 (by omega);have x1:=hsc 1 (by omega);have x2:=hsc 2 (by omega);simp[swV] at x0 x1 x2;have l1:(k:Int) < n:=by omega
   have l0:(0:Int)<=k:=by omega
   unfold maxLen at hw2;have HHS:=zh (fun (wz:World) (hz:Below wr.heap.size wr wz)=>z22 _ D.L k wz ((hM.plan.2 wr (fun _ _=>rfl)).below hz));have HHD:=zh (fun (wz:World) (hz:Below wr.heap.size wr wz)=>isHeld_any g D k wz (hM.at.below hz) (by rw[p2]; exact hr) (by rw[p2]; exact(uh HFX).1));have HRP:=zh (fun (c:Nat) (wz:World) (hz:Below wr.heap.size wr wz)=>rep_any _ f k c wz (hFr.at.below hz));have HCT:=zh (fun (bl:Bool) (wz:World) (hz:Below wr.heap.size wr wz)=>count_any R g D vs vr vt vl va vq qs gw n cw k D.L.T bl wz (hM.below hz) hnD hkD (hbd _ (List.getElem_mem hkD)));have hsw:D.sw k=D.sws[k]:=z1f _ _ _ hkD;have HNX:=zh (show B.lateN f (k+1)=if D.L.sw.getD k false then D.putS k (D.sws[k].tick (!D.sws[k].failed&&D.heldB k&&!f.repAs k D.sws[k].wanted) D.L.T) else D by
    rw[show B.lateN f (k+1)=D.late1 f k by rw[hD]; rfl];unfold PBx.late1 PBx.lateB;rw[hsw])
   have HM:=zh hM;have HFr:=zh hFr;have HO:=zh hO;have HFB:=zh hfb;have hwz:w.heap.size < wr.heap.size:=z0g hfb;clear hsc hsz hM hFr hO hfb hD hsw hbd p1 p2 p3 p4 p5 hnD;obtain⟨x,hx⟩:∃x,D.sws[k]=x:=⟨_,rfl⟩
   rw[hx] at x0 x1 x2 HNX HCT;clear hx;obtain⟨wa,la,fa⟩:=x;simp only at x0 x1 x2 HNX;have hFIN:∀(w5 W:World) (bl:Bool),Below wr.heap.size wr w5->PM W R g (D.putS k (PSw.tick ⟨wa,la,fa⟩ bl D.L.T)) vs vr vt vl (.slice (some ⟨gw,0,none⟩) n cw) va vq qs->Only (fun b=>b=gw) w5 W->B.lateN f (k+1)=D.putS k (PSw.tick ⟨wa,la,fa⟩ bl D.L.T) →
     PM W R g (B.lateN f (k+1)) vs vr vt vl (.slice (some ⟨gw,0,none⟩) n cw) va vq qs/\FrPIn P W (.agg #[.slice ac f.cmds.length cc,.slice ao f.occ.length co,.slice ap f.rep.length cp]) f ∧
     Only (fun b=>(Value.slice (some ⟨gw,0,none⟩) n cw).ownBlock=some b) w W/\W.heap[w.heap.size]?=some (z0r (.slice ac f.cmds.length cc) (.slice ao f.occ.length co) (.slice ap f.rep.length cp)):=by
    intro w5 W bl hb5 hP5 hO5 he;have ho5:Only (fun b=>(Value.slice (some ⟨gw,0,none⟩) n cw).ownBlock=some b) w5 W:=hO5.mono (fun b hb=>by rw[hb]; rfl);refine⟨by rw[he]; exact hP5,((uh HFr).below hb5).only ho5 (fun b hb=>uh HP b hb),(uh HO).trans ((Only.of_below hb5).trans ho5),?_⟩;have hg1:w.heap.size≠gw:=by
     intro e;have hT1:=z2f (uh HM).sws (k:=gw) rfl;rw[<-e] at hT1;obtain⟨c5,f5,h5⟩:=hT1;rw[uh HFB] at h5;simp[z0r] at h5
    rw[hO5.block _ (Nat.lt_of_lt_of_le hwz hb5.size) hg1,hb5.block _ hwz];exact uh HFB
   have HFIN:=zh hFIN;clear hFIN;go_wp2_with fail
   refine(uh HHS _ (z01 wr _)).mono ?_;rintro e w1 ⟨rfl,hb1⟩;have hx1:w1.heap[wr.heap.size]?=some (.cells #[.int .u8 wa,.int .i64 la,.bool fa] 110 (0,0)):=(hb1.block _ (by simp)).trans (heap_alloc_new _ _);have hb2:Below wr.heap.size wr w1:=(z01 wr _).trans (hb1.mono (by simp));have HB2:=zh hb2;have hz2:=hb2.size;clear hb1;obtain⟨bs,hbs⟩:∃b,D.L.sw.getD k false=b:=⟨_,rfl⟩
   rw[hbs] at HNX ⊢;clear hbs;cases bs with
   | false=>
    have HNX2:=zh (show B.lateN f (k+1)=D from uh HNX);clear x0 x1 x2 q0 q1 q2 q3 q4 q5 q6 q7 q8 q9 y0 y1 y2 hx1 hb2;go_wp2
    refine⟨⟨k+1,by go_num,by omega,by rw[uh HNX2]; exact(uh HM).below (uh HB2),(uh HFr).below (uh HB2),(uh HO).trans (Only.of_below (uh HB2)),?_⟩,by simp[intOf]; omega⟩;rw[(uh HB2).block _ hwz]; exact uh HFB
   | true=>
    have HNX2:=zh (show B.lateN f (k+1)=D.putS k (PSw.tick ⟨wa,la,fa⟩ (!fa&&D.heldB k&&!f.repAs k wa) D.L.T) from uh HNX);clear HNX;obtain⟨⟨z0,z1,z2⟩,-,qz⟩:=tri0 hx1;rw[<-hb2.cell (p:=⟨g,_,none⟩) qg2] at q0 q7;have HX1:=zh hx1;clear hx1 x0 x1 x2 q1 q2 q3 q4 q5 q6 q8 q9 y0 y1 y2;cases fa with
    | true=>
     go_wp2
     go_region_with (go_at_call 71; refine(uh HCT false _ ?_).mono ?_; (first | exact(uh HB2) | exact(below_drewN (uh HB2) _) | exact(uh HB2).drew); rintro e w5 ⟨rfl,hP5,hO5⟩)
     all_goals
      have HF5:=zh (uh HFIN _ _ false (by first | exact(uh HB2) | exact(below_drewN (uh HB2) _) | exact(uh HB2).drew) hP5 hO5 (uh HNX2));clear hP5 hO5;go_wp2
      exact⟨⟨k+1,by go_num,by omega,(uh HF5).1,(uh HF5).2.1,(uh HF5).2.2.1,(uh HF5).2.2.2⟩,by simp[intOf]; omega⟩
    | false=>
     go_wp2_with fail
     refine(uh HHD w1 (uh HB2)).mono ?_;rintro e w2 ⟨rfl,hb3⟩;have hb4:=(uh HB2).trans (hb3.mono hz2);have HB4:=zh hb4;have hz4:=hb4.size;obtain⟨⟨z0,z1,z2⟩,-,qz⟩:=tri0 ((hb3.block _ qz).trans (uh HX1));obtain⟨⟨y0,y1,y2⟩,-,qf⟩:=tri0 ((hb4.block _ hwz).trans (uh HFB));clear q0 q7;obtain⟨⟨q0,-,-,-,-,-,-,q7,-,-⟩,-,-⟩:=box10 ((uh HM).below hb4).box;have HX2:=zh ((hb3.block _ (z0g (uh HX1))).trans (uh HX1));clear hb3 hb4 hb2 HX1;obtain⟨bh,hbh⟩:∃b,D.heldB k=b:=⟨_,rfl⟩
     rw[hbh] at HNX2 ⊢;clear hbh;have hg2:g < w2.heap.size:=by omega
     cases bh with
     | false=>
      clear y0 y1 y2;go_wp2
      go_region_with (go_at_call 71; refine(uh HCT false _ ?_).mono ?_; (first | exact(uh HB4) | exact(below_drewN (uh HB4) _) | exact(uh HB4).drew); rintro e w5 ⟨rfl,hP5,hO5⟩)
      all_goals
       have HF5:=zh (uh HFIN _ _ false (by first | exact(uh HB4) | exact(below_drewN (uh HB4) _) | exact(uh HB4).drew) hP5 hO5 (uh HNX2));clear hP5 hO5;go_wp2
       exact⟨⟨k+1,by go_num,by omega,(uh HF5).1,(uh HF5).2.1,(uh HF5).2.2.1,(uh HF5).2.2.2⟩,by simp[intOf]; omega⟩
     | true=>
      go_wp2_with fail
      refine(uh HRP wa w2 (uh HB4)).mono ?_;rintro e w3 ⟨rfl,hb5⟩;have hb6:=(uh HB4).trans (hb5.mono hz4);have HB6:=zh hb6;have hz6:=hb6.size;clear q0 q7 y0 y1 y2 z0 z1 z2;obtain⟨⟨q0,-,-,-,-,-,-,q7,-,-⟩,-,-⟩:=box10 ((uh HM).below hb6).box;have hg3:g < w3.heap.size:=by omega
      clear hb5 hb6;obtain⟨br,hbr⟩:∃b,f.repAs k wa=b:=⟨_,rfl⟩
      rw[hbr] at HNX2 ⊢;clear hbr;cases br with
      | true=>
       go_wp2
       go_region_with (go_at_call 71; refine(uh HCT false _ ?_).mono ?_; (first | exact(uh HB6) | exact(below_drewN (uh HB6) _) | exact(uh HB6).drew); rintro e w5 ⟨rfl,hP5,hO5⟩)
       all_goals
        have HF5:=zh (uh HFIN _ _ false (by first | exact(uh HB6) | exact(below_drewN (uh HB6) _) | exact(uh HB6).drew) hP5 hO5 (uh HNX2));clear hP5 hO5;go_wp2
        exact⟨⟨k+1,by go_num,by omega,(uh HF5).1,(uh HF5).2.1,(uh HF5).2.2.1,(uh HF5).2.2.2⟩,by simp[intOf]; omega⟩
      | false=>
       go_wp2
       go_region_with (go_at_call 71; refine(uh HCT true _ ?_).mono ?_; (first | exact(uh HB6) | exact(below_drewN (uh HB6) _) | exact(uh HB6).drew); rintro e w5 ⟨rfl,hP5,hO5⟩)
       all_goals
        have HF5:=zh (uh HFIN _ _ true (by first | exact(uh HB6) | exact(below_drewN (uh HB6) _) | exact(uh HB6).drew) hP5 hO5 (uh HNX2));clear hP5 hO5;go_wp2
        exact⟨⟨k+1,by go_num,by omega,(uh HF5).1,(uh HF5).2.1,(uh HF5).2.2.1,(uh HF5).2.2.2⟩,by simp[intOf]; omega⟩
  ·obtain rfl:k=n:=by omega
   have l1:¬(k:Int) < k:=by omega
   have HM:=zh hM;have HFr:=zh hFr;have HO:=zh hO;have HD:=zh hD;clear hM hFr hO hfb hD q0 q1 q2 q3 q4 q5 q6 q7 q8 q9 y0 y1 y2 hbd p1 p2 p3 p4 p5 hnD;go_wp2
   refine bodyPost_end (v:=.tuple #[]) (by simp[results,Tryz.results34,go_sem]) rfl ?_;exact⟨rfl,by rw[<-uh HD]; exact uh HM,uh HFr,uh HO⟩
end Go.Proofs.YtkbpocecbcaiiabGreatDoor
