import Derived.Test.YtkbpocecbcaiiabGreatDoorO16
namespace Go.Proofs.YtkbpocecbcaiiabGreatDoor
open Go.RowKit
def PFr.freeB (f:PFr) (p:List (Nat×Nat)):Bool:=p.all (fun x=>!f.occ.getD x.1 false)
theorem z3y {α:Type} {l:List α} {p:α->Bool} (h:∀j (hj:j < l.length),p l[j]=true):l.all p=true:=by
 rw[List.all_eq_true]; intro x hx;obtain⟨j,hj,rfl⟩:=List.getElem_of_mem hx;exact h j hj
theorem z34 {α:Type} {l:List α} {p:α->Bool} {k:Nat} (hk:k < l.length) (h:p l[k]=false):l.all p=false:=by
 rw[List.all_eq_false]; exact⟨_,List.getElem_mem hk,by rw[h]; simp⟩
theorem any_idx_true {α:Type} {l:List α} {p:α->Bool} {k:Nat} (hk:k < l.length) (h:p l[k]=true):l.any p=true:=by
 rw[List.any_eq_true]; exact⟨_,List.getElem_mem hk,h⟩
theorem any_idx_false {α:Type} {l:List α} {p:α->Bool} (h:∀j (hj:j < l.length),p l[j]=false):l.any p=false:=by
 rw[List.any_eq_false]; intro x hx;obtain⟨j,hj,rfl⟩:=List.getElem_of_mem hx;rw[h j hj]; simp
theorem step_all {k:Nat} {p:Nat->Prop} (h:∀j,j < k->p j) (hk:p k):∀j,j < k+1->p j:=fun j hj=>by
 by_cases hj':j < k
 ·exact h j hj'
 ·obtain rfl:j=k:=by omega
  exact hk
set_option maxHeartbeats 2000000 in
theorem isFree_any (vp vfr:Value) (p:List (Nat×Nat)) (f:PFr) (w:World) (hp:Items w vp p) (hf:FrP w vfr f) :
  Calls Tryz.prog 151 #[vp,vfr] w fun e w'=>e=.returned (.bool (f.freeB p))/\Below w.heap.size w w':=by
 have HOC:=zh (fun (x:Nat) (wz:World) (hz:Below w.heap.size w wz)=>occ_any _ f x wz (hf.below hz));obtain⟨vc,vo,vr,rfl,h1,h2,h3⟩:=hf;obtain⟨ac,cc,rfl,-⟩:=SlAt.open h1;obtain⟨ao,co,rfl,-⟩:=SlAt.open h2;obtain⟨ap,cp,rfl,-⟩:=SlAt.open h3;obtain⟨ai,ci,rfl,hpl,hm,p3⟩:=SlAt.open hp;unfold maxLen at hm;obtain⟨Z,hZ⟩:∃Z,Z=f.freeB p:=⟨_,rfl⟩
 rw[<-hZ];have HZ:=zh hZ;have HFB:=zh (heap_alloc_new w (z0r (.slice ac f.cmds.length cc) (.slice ao f.occ.length co) (.slice ap f.rep.length cp)));have HW0:=zh (z01 w (z0r (.slice ac f.cmds.length cc) (.slice ao f.occ.length co) (.slice ap f.rep.length cp)));clear h1 h2 h3 hp hZ;go_enter Tryz.func151,Tryz.ntmps151
 go_wp2
 go_loopw [9] (fun i wr=>∃k:Nat,i=.int .i64 k/\k<=p.length/\(∀j,j < k->∀h:j < p.length,(!f.occ.getD p[j].1 false)=true)/\Below w.heap.size w wr/\wr.heap[w.heap.size]?=some (z0r (.slice ac f.cmds.length cc) (.slice ao f.occ.length co) (.slice ap f.rep.length cp))) (fun i _=>p.length - (intOf i).toNat)
 case atStart=>exact⟨0,rfl,Nat.zero_le _,fun j h=>by omega,uh HW0,uh HFB⟩
 case round=>
  clear HFB HW0;obtain⟨k,rfl,hk,hno,hb,hfb⟩:=hrel;have HNO:=zh hno;have HB:=zh hb;have HFB:=zh hfb;have hbs:=hb.size;have hwz:w.heap.size < wr.heap.size:=z0g hfb;clear hno;by_cases hlt:k < p.length
  ·obtain⟨gp,op,hap,hgp,csp,-,hCp,hcp⟩:=p3 k hlt
   subst hap;unfold CItem itemV at hCp;subst hCp;have x0:=hcp 0 (by omega);have x1:=hcp 1 (by omega);rw[<-hb.cell (p:=⟨gp,_,none⟩) hgp] at x0 x1;simp at x0 x1;have l1:(k:Int) < p.length:=by omega
   have l0:(0:Int)<=k:=by omega
   have hgw:gp < wr.heap.size:=by omega
   obtain⟨⟨y0,y1,y2⟩,-,qf⟩:=tri0 hfb;have HFD:=zh (show (!f.occ.getD p[k].1 false)=false->Z=false by
    intro h; rw[uh HZ]; exact z34 hlt h)
   have HNN:=zh (show (!f.occ.getD p[k].1 false)=true->∀j,j < k+1->∀h:j < p.length,(!f.occ.getD p[j].1 false)=true by
    intro h j hj hj2;by_cases hj':j < k
    ·exact uh HNO j hj' hj2
    ·obtain rfl:j=k:=by omega
     exact h)
   have HOK:=zh (uh HOC p[k].1);clear hcp p3 hb hfb;generalize p[k].1=x at *;generalize p[k].2=x2 at *;go_wp2_with fail
   refine(uh HOK _ ((uh HB).alloc hbs _)).mono ?_;rintro e w1 ⟨rfl,hb1⟩;have hb2:=((uh HB).alloc hbs _).trans (hb1.mono (by simp; omega));have hf2:=(hb1.block w.heap.size (by simp; omega)).trans ((Below.heap_alloc _ _ _ hwz).trans (uh HFB));have HB2:=zh hb2;have HF2:=zh hf2;clear hb1 hb2 hf2 x0 x1 y0 y1 y2;generalize f.occ.getD x false=z at *;cases z with
   | true=>
    have HZ2:=zh (uh HFD rfl);go_wp2
    go_ret
    exact⟨z04 (uh HZ2).symm,uh HB2⟩
   | false=>
    have HN2:=zh (uh HNN rfl);go_wp2
    exact⟨⟨k+1,by go_num,by omega,uh HN2,uh HB2,uh HF2⟩,by simp[intOf]; omega⟩
  ·have HZ2:=zh (show Z=true by
    rw[uh HZ];exact z3y (fun j hj=>uh HNO j (by omega) hj))
   have l1:¬(k:Int) < p.length:=by omega
   clear p3 hb hfb;go_wp2
   go_ret
   exact⟨z04 (uh HZ2).symm,uh HB⟩
def swsOf (r:Rt):List (Nat×Nat):=r.path.filter (fun x=>x.2 != 0)++r.flank
set_option maxHeartbeats 2000000 in
theorem z2m (r:Rt) (vp vf:Value) (w:World) (hp:Items w vp r.path) (hf:Items w vf r.flank) (hl:r.path.length<=1000) (hfl:r.flank.length<=1000) :
  Calls Tryz.prog 73 #[.agg #[.int .i64 r.foot,vp,vf]] w fun e w'=>∃a n c,e=.returned (.slice a n c)/\Items w' (.slice a n c) (swsOf r)/\Below w.heap.size w w':=by
 obtain⟨ai,ci,rfl,-,hm,p3⟩:=SlAt.open hp;obtain⟨af,cf,rfl,-,hmf,f3⟩:=SlAt.open hf;unfold maxLen at hm hmf;unfold swsOf;obtain⟨i0,hi0⟩:=info_parts Tryz.infoItem;have HI:=zh hi0;have HFB:=zh (heap_alloc_new w (.cells #[.int .i64 r.foot,.slice ai r.path.length ci,.slice af r.flank.length cf] 113));have HW0:=zh (z01 w (.cells #[.int .i64 r.foot,.slice ai r.path.length ci,.slice af r.flank.length cf] 113));generalize r.path=p at *;generalize r.flank=fl at *;clear hi0 hp hf;have P3:=zh p3;have F3:=zh f3;clear p3 f3;go_enter Tryz.func73,Tryz.ntmps73
 go_wp2
 go_loopw [3,11] (fun d i wr=>∃k n:Nat,i=.int .i64 k/\k<=p.length/\n<=k/\n=((p.take k).filter (fun x=>x.2 != 0)).length/\wr.ownsRow (w.heap.size+1) 168 2 d n (itemsV ((p.take k).filter (fun x=>x.2 != 0)))/\Below (w.heap.size+1) (w.alloc (.cells #[.int .i64 r.foot,.slice ai p.length ci,.slice af fl.length cf] 113)) wr) (fun _ i _=>p.length - (intOf i).toNat)
 case atStart=>exact⟨0,0,rfl,Nat.zero_le _,Nat.le_refl _,rfl,World.ownsRow_nil _ _ _ _,Below.refl _ _⟩
 case round=>
  obtain⟨k,n,rfl,hk,hnk,hn,hown,hb⟩:=hrel;have HN:=zh hn;have HB:=zh hb;have hbs:=hb.size;simp at hbs;clear hn;by_cases hlt:k < p.length
  ·obtain⟨gp,op,hap,hgp,csp,-,hCp,hcp⟩:=uh P3 k hlt
   subst hap;unfold CItem itemV at hCp;subst hCp;have x0:=hcp 0 (by omega);have x1:=hcp 1 (by omega);have hbw:=z09 hb;rw[<-hbw.cell (p:=⟨gp,_,none⟩) hgp] at x0 x1;simp at x0 x1;have l1:(k:Int) < p.length:=by omega
   have l0:(0:Int)<=k:=by omega
   have hgw:gp < wr.heap.size:=by omega
   have HFI:=zh (show (p.take (k+1)).filter (fun x=>x.2 != 0)=(p.take k).filter (fun x=>x.2 != 0)++if p[k].2 != 0 then [p[k]] else [] by
    rw[List.take_succ_eq_append_getElem hlt,List.filter_append]
    congr 1
    rw[List.filter_cons];split <;> rfl)
   have HSN:=zh (z4k ((p.take k).filter (fun x=>x.2 != 0)) p[k]);obtain⟨ah,ch,hvh⟩:=z02 hown;subst hvh;clear hcp hb hbw;obtain⟨y,hy⟩:∃y,p[k]=y:=⟨_,rfl⟩
   rw[hy] at x0 x1 HFI HSN;clear hy;obtain⟨a,c⟩:=y;simp only at x0 x1 HFI HSN;by_cases hc:c=0
   ·have b1:((c:Int) != 0)=false:=by simp[hc]
    have HF2:=zh (show (p.take (k+1)).filter (fun x=>x.2 != 0)=(p.take k).filter (fun x=>x.2 != 0) by rw[uh HFI]; simp[hc]);clear hc;go_wp2
    exact⟨⟨k+1,n,by go_num,by omega,by omega,by rw[uh HF2]; exact uh HN,by rw[uh HF2]; exact hown.alloc _,(uh HB).alloc hbs _⟩,by simp[intOf]; omega⟩
   ·have b1:((c:Int) != 0)=true:=by simp; omega
    have HF2:=zh (show (p.take (k+1)).filter (fun x=>x.2 != 0)=(p.take k).filter (fun x=>x.2 != 0)++[(a,c)] by rw[uh HFI]; simp[hc]);clear hc;go_wp2_with (at_builtin; refine wpList_append_own _ rfl _ _ 111 rfl (w.heap.size+1) 168 i0 (.agg #[.int .i64 0,.int .u8 0]) 2 16 Tryz.underlying111 (uh HI).1 (uh HI).2.1 (uh HI).2.2.1 (uh HI).2.2.2 rfl (by decide) _ _ _ rfl ((hown.alloc _).alloc _) ⟨wr.heap.size+1,0,none⟩ 1 1 [.int .i64 (a:Nat),.int .u8 (c:Nat)] rfl rfl (z0t (wr.alloc _) [.int .i64 (a:Nat),.int .u8 (c:Nat)] _ _ (by simp)) (by simp[Value.oneCell']) (by unfold maxLen; omega) (by omega) (by simp; omega) ?_; intro v3 w3 hown3 hgrow3 _)
    refine⟨⟨k+1,n+1,by go_num,by omega,by omega,by rw[uh HF2,List.length_append,<-uh HN]; rfl,?_,?_⟩,by simp[intOf]; omega⟩
    ·rw[uh HF2,uh HSN]; exact hown3
    ·exact z0p ((uh HB).alloc hbs _) (by simp; omega) (hown.alloc _) hgrow3
  ·obtain rfl:k=p.length:=by omega
   rw[List.take_length] at hown HN;have l1:¬(p.length:Int) < p.length:=by omega
   obtain⟨⟨z0,z1,z2⟩,-,qz⟩:=tri0 ((hb.block w.heap.size (by omega)).trans (uh HFB));have HOW:=zh hown;obtain⟨ah,ch,hvh⟩:=z02 hown;subst hvh;clear hown hb;go_wp2
   go_loopw [3,26] (fun d i wx=>∃k m:Nat,i=.int .i64 k/\k<=fl.length/\m=n+k/\wx.ownsRow (w.heap.size+1) 168 2 d m (itemsV (p.filter (fun x=>x.2 != 0)++fl.take k))/\Below (w.heap.size+1) (w.alloc (.cells #[.int .i64 r.foot,.slice ai p.length ci,.slice af fl.length cf] 113)) wx) (fun _ i _=>fl.length - (intOf i).toNat)
   case atStart=>exact⟨0,n,rfl,Nat.zero_le _,rfl,by simpa using uh HOW,uh HB⟩
   case round=>
    clear HOW HB hbs z0 z1 z2 qz;obtain⟨k,m,rfl,hk2,hm2,hown,hb⟩:=hrel;have HB:=zh hb;have hbs:=hb.size;simp at hbs;by_cases hlt:k < fl.length
    ·obtain⟨gp,op,hap,hgp,csp,-,hCp,hcp⟩:=uh F3 k hlt
     subst hap;unfold CItem itemV at hCp;subst hCp;have x0:=hcp 0 (by omega);have x1:=hcp 1 (by omega);have hbw:=z09 hb;rw[<-hbw.cell (p:=⟨gp,_,none⟩) hgp] at x0 x1;simp at x0 x1;have l1:(k:Int) < fl.length:=by omega
     have l0:(0:Int)<=k:=by omega
     have hgw:gp < wr.heap.size:=by omega
     have HSN:=zh (show itemsV (p.filter (fun x=>x.2 != 0)++fl.take (k+1))=itemsV (p.filter (fun x=>x.2 != 0)++fl.take k)++[.int .i64 fl[k].1,.int .u8 fl[k].2] by
      rw[List.take_succ_eq_append_getElem hlt,<-List.append_assoc]; exact z4k _ _)
     obtain⟨ah,ch,hvh⟩:=z02 hown;subst hvh;clear hcp hb hbw;obtain⟨y,hy⟩:∃y,fl[k]=y:=⟨_,rfl⟩
     rw[hy] at x0 x1 HSN;clear hy;obtain⟨a,c⟩:=y;simp only at x0 x1 HSN;go_wp2_with (at_builtin; refine wpList_append_own _ rfl _ _ 111 rfl (w.heap.size+1) 168 i0 (.agg #[.int .i64 0,.int .u8 0]) 2 16 Tryz.underlying111 (uh HI).1 (uh HI).2.1 (uh HI).2.2.1 (uh HI).2.2.2 rfl (by decide) _ _ _ rfl ((hown.alloc _).alloc _) ⟨wr.heap.size+1,0,none⟩ 1 1 [.int .i64 (a:Nat),.int .u8 (c:Nat)] rfl rfl (z0t (wr.alloc _) [.int .i64 (a:Nat),.int .u8 (c:Nat)] _ _ (by simp)) (by simp[Value.oneCell']) (by unfold maxLen; omega) (by omega) (by simp; omega) ?_; intro v3 w3 hown3 hgrow3 _)
     refine⟨⟨k+1,m+1,by go_num,by omega,by omega,?_,?_⟩,by simp[intOf]; omega⟩
     ·rw[uh HSN]; exact hown3
     ·exact z0p ((uh HB).alloc hbs _) (by simp; omega) (hown.alloc _) hgrow3
    ·obtain rfl:k=fl.length:=by omega
     rw[List.take_length] at hown;have l1:¬(fl.length:Int) < fl.length:=by omega
     have HOW:=zh (Items.ofOwn hown (by rw[List.length_append,<-uh HN]; exact hm2));obtain⟨ah,ch,hvh⟩:=z02 hown;subst hvh;clear hown hb hm2;go_wp2
     go_ret
     exact⟨_,_,_,rfl,uh HOW,z09 (uh HB)⟩
def PRt.readyB (x:PRt) (f:PFr):Bool:=(swsOf x.rt).all (fun i=>f.repAs i.1 i.2)&&f.freeB x.rt.path
set_option maxHeartbeats 2000000 in
theorem isReady_at (g o:Nat) (x:PRt) (cs:List Value) (vfr:Value) (f:PFr) (w:World) (hg:g < w.heap.size) (hc:∀j,j < 9->w.cell? ⟨g,o+j,none⟩=cs[j]?) (hC:CPRt w x cs) (hf:FrP w vfr f) (hl:x.rt.path.length<=1000) (hfl:x.rt.flank.length<=1000) :
  Calls Tryz.prog 146 #[.pointer (some ⟨g,o,none⟩),vfr] w fun e w'=>e=.returned (.bool (x.readyB f))/\Below w.heap.size w w':=by
 have HRP:=zh (fun (s c:Nat) (wz:World) (hz:Below w.heap.size w wz)=>rep_any _ f s c wz (hf.below hz));obtain⟨vp,vf,vm,rfl,hP,hF,-⟩:=hC;have HSW:=zh (fun (wz:World) (hz:Below w.heap.size w wz)=>z2m x.rt vp vf wz (hP.keep (Keeps.below hz)) (hF.keep (Keeps.below hz)) hl hfl);have HFR:=zh (fun (wz:World) (hz:Below w.heap.size w wz)=>isFree_any vp _ x.rt.path f wz (hP.keep (Keeps.below hz)) (hf.below hz));have c0:=hc 0 (by omega);have c1:=hc 1 (by omega);have c2:=hc 2 (by omega);simp at c0 c1 c2;obtain⟨vc,vo,vr,rfl,h1,h2,h3⟩:=hf;obtain⟨ac,cc,rfl,-⟩:=SlAt.open h1;obtain⟨ao,co,rfl,-⟩:=SlAt.open h2;obtain⟨ap,cp,rfl,-⟩:=SlAt.open h3;obtain⟨ai,ci,rfl,-⟩:=SlAt.open hP;obtain⟨af,cf,rfl,-⟩:=SlAt.open hF;obtain⟨Z,hZ⟩:∃Z,Z=x.readyB f:=⟨_,rfl⟩
 rw[<-hZ];unfold PRt.readyB at hZ;have HZ:=zh hZ;have HFB:=zh (heap_alloc_new w (z0r (.slice ac f.cmds.length cc) (.slice ao f.occ.length co) (.slice ap f.rep.length cp)));have HW0:=zh (z01 w (z0r (.slice ac f.cmds.length cc) (.slice ao f.occ.length co) (.slice ap f.rep.length cp)));have HC1:=zh c1;clear h1 h2 h3 hP hF hZ hc;go_enter Tryz.func146,Tryz.ntmps146
 go_wp2_with fail
 refine(uh HSW _ (uh HW0)).mono ?_;rintro e w1 ⟨a1,n1,d1,rfl,hI1,hb1⟩;obtain⟨ai',ci',he,hpl1,hm1,i3⟩:=SlAt.open hI1;simp only[Value.slice.injEq] at he;obtain⟨rfl,rfl,rfl⟩:=he;unfold maxLen at hm1;have hB1:=(uh HW0).trans (hb1.mono (by simp));have hfb1:=(hb1.block w.heap.size (by simp)).trans (uh HFB);have HB1:=zh hB1;have HF1:=zh hfb1;have hz1:=hB1.size;generalize swsOf x.rt=l at *;clear c0 c1 c2 hI1 hb1 hfb1 hB1 HFB HW0;go_wp2
 go_loopw [13] (fun i wr=>∃k:Nat,i=.int .i64 k/\k<=l.length/\(∀j,j < k->∀h:j < l.length,f.repAs l[j].1 l[j].2=true)/\Below w1.heap.size w1 wr) (fun i _=>l.length - (intOf i).toNat)
 case atStart=>exact⟨0,rfl,Nat.zero_le _,fun j h=>by omega,Below.refl _ _⟩
 case round=>
  obtain⟨k,rfl,hk,hno,hb⟩:=hrel;have HNO:=zh hno;have hbw:=(uh HB1).trans (hb.mono hz1);have HB:=zh hb;have HBW:=zh hbw;have hbs:=hb.size;have hfb:=(hb.block w.heap.size (z0g (uh HF1))).trans (uh HF1);have hwz:w.heap.size < wr.heap.size:=z0g hfb;obtain⟨⟨y0,y1,y2⟩,-,qf⟩:=tri0 hfb;clear hno;have hgw:g < wr.heap.size:=by omega
  by_cases hlt:k < l.length
  ·obtain⟨gp,op,hap,hgp,csp,-,hCp,hcp⟩:=i3 k hlt
   subst hap;unfold CItem itemV at hCp;subst hCp;have x0:=hcp 0 (by omega);have x1:=hcp 1 (by omega);rw[<-hb.cell (p:=⟨gp,_,none⟩) hgp] at x0 x1;simp at x0 x1;have l1:(k:Int) < l.length:=by omega
   have l0:(0:Int)<=k:=by omega
   have hgpw:gp < wr.heap.size:=by omega
   have HFD:=zh (show f.repAs l[k].1 l[k].2=false->Z=false by
    intro h; rw[uh HZ,z34 hlt h]; rfl)
   have HNN:=zh (show f.repAs l[k].1 l[k].2=true->∀j,j < k+1->∀h:j < l.length,f.repAs l[j].1 l[j].2=true by
    intro h j hj hj2;by_cases hj':j < k
    ·exact uh HNO j hj' hj2
    ·obtain rfl:j=k:=by omega
     exact h)
   have HOK:=zh (uh HRP l[k].1 l[k].2);clear hcp i3 hb hfb hbw;generalize l[k].1=s1 at *;generalize l[k].2=s2 at *;go_wp2_with fail
   refine(uh HOK _ ((uh HBW).alloc (by omega) _)).mono ?_;rintro e w2 ⟨rfl,hb2⟩;have HB2:=zh (((uh HB).alloc hbs _).trans (hb2.mono (by simp; omega)));clear hb2 x0 x1 y0 y1 y2;generalize f.repAs s1 s2=z at *;cases z with
   | false=>
    have HZ2:=zh (uh HFD rfl);go_wp2
    go_ret
    exact⟨z04 (uh HZ2).symm,(uh HB1).trans ((uh HB2).mono hz1)⟩
   | true=>
    have HN2:=zh (uh HNN rfl);go_wp2
    exact⟨⟨k+1,by go_num,by omega,uh HN2,uh HB2⟩,by simp[intOf]; omega⟩
  ·have HZ2:=zh (show Z=f.freeB x.rt.path by
    rw[uh HZ,z3y (fun j hj=>uh HNO j (by omega) hj),Bool.true_and])
   have l1:¬(k:Int) < l.length:=by omega
   have c1:=uh HC1;rw[<-hbw.cell (p:=⟨g,_,none⟩) hg] at c1;clear i3 hb hfb hbw;go_wp2
   go_region_with (go_at_call 151; refine(uh HFR _ ?_).mono ?_; (first | exact(uh HBW) | exact(below_drewN (uh HBW) _) | exact(uh HBW).drew); rintro e w2 ⟨rfl,hb2⟩)
   all_goals
    have HB2:=zh (show Below w.heap.size w w2 by first | exact(uh HBW).trans (hb2.mono (uh HBW).size) | exact(uh HBW).drew.trans (hb2.mono (uh HBW).size) | exact(below_drewN (uh HBW) _).trans (hb2.mono (uh HBW).size));clear hb2;go_wp2
    go_ret
    exact⟨z04 (uh HZ2).symm,uh HB2⟩
end Go.Proofs.YtkbpocecbcaiiabGreatDoor
