import Derived.Test.YtkbpocecbcaiiabGreatDoorO22
namespace Go.Proofs.YtkbpocecbcaiiabGreatDoor
open Go.RowKit
def PRt.stepP (y:PRt) (f:PFr):PRt:=
 if (y.mark f).relB f then (if y.freed+1=y.rt.path.length then { y.mark f with freed:=y.freed+1,ph:=46 } else { y.mark f with freed:=y.freed+1 }) else y.mark f
def PRt.stepD (y:PRt) (f:PFr):PRt:=if f.occ.getD (y.secAt 0) false then y.enter else if 0 < y.count then { y with count:=y.count - 1 } else if f.freeB y.rt.path then { y with ph:=46 } else y
def PRt.gaveD (y:PRt) (f:PFr):Bool:=if f.occ.getD (y.secAt 0) false then false else if 0 < y.count then false else f.freeB y.rt.path
set_option maxRecDepth 100000 in
set_option maxHeartbeats 4000000 in
theorem stepPassing_any (R P:Nat->Prop) (g:Nat) (B:PBx) (vs vr vt vw va vq:Value) (qs:List Q3) (gl n cl r:Nat) (y:PRt) (vfr:Value) (f:PFr) (w:World) (h:PM w R g (B.putR r y) vs vr vt (.slice (some ⟨gl,0,none⟩) n cl) vw va vq qs) (hf:FrPIn P w vfr f) (hn:n=B.rts.length) (hr:r < B.rts.length) (hrq:r < qs.length)
  (hP:∀b,P b->b≠gl/\qs[r].2.2.ownBlock≠some b) (hpl:y.rt.path.length<=1000) (hml:y.marked.length<=1000) (hfr:y.freed<=1000) :
  Calls Tryz.prog 108 #[.pointer (some ⟨gl,r*9,none⟩),vfr] w fun e w'=>e=.returned (.tuple #[])/\StepR R P g B vs vr vt vw va vq qs gl n cl r hrq vfr f w w' (y.stepP f):=by
 obtain⟨vc,vo,vp,rfl,hc1,ho1,hp1⟩:=hf.at;obtain⟨ac,cc,rfl,-⟩:=SlAt.open hc1;obtain⟨ao,co,rfl,-⟩:=SlAt.open ho1;obtain⟨ap,cp,rfl,-⟩:=SlAt.open hp1;have HMO:=zh (fun (wz:World) (hz:Below w.heap.size w wz)=>markOccupied_any R P g B vs vr vt vw va vq qs gl n cl r y _ f wz (h.below hz) (hf.below hz) hn hr hrq (fun b hb=>(hP b hb).2) hml);have HB0:=zh (z01 w (z0r (.slice ac f.cmds.length cc) (.slice ao f.occ.length co) (.slice ap f.rep.length cp)));have HFB:=zh (heap_alloc_new w (z0r (.slice ac f.cmds.length cc) (.slice ao f.occ.length co) (.slice ap f.rep.length cp)));have HSP:=zh (PRt.stepP.eq_1 y f);have hzr:(y.mark f).rt=y.rt:=rfl;have hzf:(y.mark f).freed=y.freed:=rfl;have hgl:=(h.rAt hn hr hrq).2.2.2.1;have HML:=zh (show qs[r].2.2.ownBlock≠some w.heap.size from fun e=>by
  have:=((h.rAt hn hr hrq).2.2.2.2.lt _ e).2;omega)
 have HX:=zh (And.intro hP hn);obtain⟨z,hz⟩:∃z,z=y.mark f:=⟨_,rfl⟩
 rw[<-hz] at HSP HMO hzr hzf;rw[<-hzf,<-hzr] at HSP;rw[<-hzr] at hpl;rw[<-hzf] at hfr;clear hc1 ho1 hp1 h hf hP hn hz hzr hzf;go_enter Tryz.func108,Tryz.ntmps108
 go_wp2_with fail
 refine(uh HMO _ (uh HB0)).mono ?_;rintro e w1 ⟨rfl,hp1,hf1,ho1⟩;have hfb1:w1.heap[w.heap.size]?=some (z0r (.slice ac f.cmds.length cc) (.slice ao f.occ.length co) (.slice ap f.rep.length cp)):=(ho1.block w.heap.size (by simp) (uh HML)).trans (uh HFB);obtain⟨hc,hC,hz,hgl1,-⟩:=hp1.rAt (uh HX).2 hr hrq;have HMR:=zh (mayRelease_at gl (r*9) z _ _ f w1 hgl1 hc hC hf1.at hfr hpl);have HS1:=zh (show StepR R P g B vs vr vt vw va vq qs gl n cl r hrq (.agg #[.slice ac f.cmds.length cc,.slice ao f.occ.length co,.slice ap f.rep.length cp]) f w w1 z from ⟨hp1,hf1,(Only.of_below (uh HB0)).trans (ho1.mono (fun b hb=>Or.inr hb))⟩);obtain⟨⟨y0,y1,y2⟩,-,qf⟩:=tri0 hfb1;clear hp1 hf1 ho1 hfb1 hc hC hz HMO HFB HB0;go_wp2_with fail
 refine(uh HMR).mono ?_;rintro e w2 ⟨rfl,hb2⟩;have hS2:=(uh HS1).below hb2;obtain⟨hc,-,hz,hgl2,-⟩:=hS2.1.rAt (uh HX).2 hr hrq;have c8:=hc 8 (by omega);have f8:=hz (r*9+8);simp[prtV] at c8;have HS2:=zh hS2;clear hb2 hS2 hc hz y0 y1 y2 HMR HS1;obtain⟨b,hb⟩:∃b,z.relB f=b:=⟨_,rfl⟩
 rw[hb] at HSP ⊢;clear hb;cases b with
 | false=>
  have HSP2:=zh (show y.stepP f=z from uh HSP);go_wp2
  refine bodyPost_ret (v:=.tuple #[]) (by simp[results,Tryz.results108]) rfl ?_;exact⟨rfl,by rw[uh HSP2]; exact uh HS2⟩
 | true=>
  rw[if_pos rfl] at HSP;go_wp2
  generalize hW3:World.setCell _ _ _=W3;have hS3:StepR R P g B vs vr vt vw va vq qs gl n cl r hrq (.agg #[.slice ac f.cmds.length cc,.slice ao f.occ.length co,.slice ap f.rep.length cp]) f w W3 { z with freed:=z.freed+1 }:=by
   rw[<-hW3];exact(uh HS2).setR (uh HX).1 (uh HX).2 hr 8 (by omega) (.int .i64 ((z.freed:Int)+1)) { z with freed:=z.freed+1 } (fun q=>rfl) rfl rfl
  have HS3:=zh hS3;obtain⟨hc,⟨vq0,vf0,vm0,hcs,hPP,-,-⟩,hz,hgl3,-⟩:=hS3.1.rAt (uh HX).2 hr hrq;have d1:=hc 1 (by omega);have d3:=hc 3 (by omega);have d8:=hc 8 (by omega);have e3:=hz (r*9+3);rw[hcs] at d1;simp at d1;simp[prtV] at d3 d8;obtain⟨ai,ci,rfl,-⟩:=SlAt.open hPP;clear hS3 hW3 hc hcs hPP hz c8 f8;generalize z.rt.path.length=pl at *;obtain⟨fr,hfe⟩:∃fr,z.freed=fr:=⟨_,rfl⟩
  rw[hfe] at HSP HS3 d8 hfr;obtain⟨fr1,hfr1⟩:∃k,k=fr+1:=⟨_,rfl⟩
  have d8':W3.cell? ⟨gl,r*9+8,none⟩=some (.int .i64 (fr1:Int)):=by rw[d8,hfr1]; rfl
  have HF1:=zh hfr1;clear d8 hfe;by_cases hlast:fr+1=pl
  ·rw[if_pos hlast] at HSP
   have b1:((fr1:Int)==(pl:Int))=true:=by simp; omega
   clear hlast hfr1;go_quiet (fail)
   go_wp2
   refine bodyPost_end (v:=.tuple #[]) (by simp[results,Tryz.results108,go_sem]) rfl ?_;refine⟨rfl,?_⟩;rw[uh HSP];exact((uh HS3).below (below_drewN (Below.refl _ _) _)).setR (uh HX).1 (uh HX).2 hr 3 (by omega) (.int .u8 46) _ (fun q=>rfl) rfl rfl
  ·rw[if_neg hlast] at HSP
   have b1:((fr1:Int)==(pl:Int))=false:=by simp; omega
   clear hlast hfr1;go_quiet (fail)
   go_wp2
   refine bodyPost_end (v:=.tuple #[]) (by simp[results,Tryz.results108,go_sem]) rfl ?_;refine⟨rfl,?_⟩;rw[uh HSP];exact(uh HS3).below (below_drewN (Below.refl _ _) _)
set_option maxRecDepth 100000 in
set_option maxHeartbeats 4000000 in
theorem stepDropped_any (R P:Nat->Prop) (g:Nat) (B:PBx) (vs vr vt vw va vq:Value) (qs:List Q3) (gl n cl r:Nat) (y:PRt) (vfr:Value) (f:PFr) (w:World) (h:PM w R g (B.putR r y) vs vr vt (.slice (some ⟨gl,0,none⟩) n cl) vw va vq qs) (hf:FrPIn P w vfr f) (hn:n=B.rts.length) (hr:r < B.rts.length) (hrq:r < qs.length)
  (hP:∀b,P b->b≠gl/\qs[r].2.2.ownBlock≠some b) (hml:y.marked.length<=1000) (hct:y.count<=1000) :
  Calls Tryz.prog 109 #[.pointer (some ⟨gl,r*9,none⟩),vfr] w fun e w'=>e=.returned (.bool (y.gaveD f))/\StepR R P g B vs vr vt vw va vq qs gl n cl r hrq vfr f w w' (y.stepD f):=by
 obtain⟨vc,vo,vp,rfl,hc1,ho1,hp1⟩:=hf.at;obtain⟨ac,cc,rfl,-⟩:=SlAt.open hc1;obtain⟨ao,co,rfl,-⟩:=SlAt.open ho1;obtain⟨ap,cp,rfl,-⟩:=SlAt.open hp1;obtain⟨hc,hC,hz,hgl,-⟩:=h.rAt hn hr hrq;have HSA:=zh (fun (wz:World) (hz:Below w.heap.size w wz)=>z3z gl (r*9) y _ 0 wz (fun j hj=>by rw[hz.cell (p:=⟨gl,_,none⟩) hgl]; exact hc j hj) (hC.keep (Keeps.below hz) (Keeps.below hz)));have HOC:=zh (fun (wz:World) (hz:Below w.heap.size w wz)=>occ_any _ f (y.secAt 0) wz (hf.at.below hz));have HEN:=zh (fun (wz:World) (hz:Below w.heap.size w wz)=>enter_any R g B vs vr vt vw va vq qs gl n cl r y wz (h.below hz) hn hr hrq hml);obtain⟨vq0,vf0,vm0,hcs,hPP,-,-⟩:=hC;have HFR:=zh (fun (wz:World) (hz:Below w.heap.size w wz)=>isFree_any vq0 _ y.rt.path f wz (hPP.keep (Keeps.below hz)) (hf.at.below hz));have c1:=hc 1 (by omega);rw[hcs] at c1;have c3:=hc 3 (by omega);have c6:=hc 6 (by omega);have f3:=hz (r*9+3);have f6:=hz (r*9+6);simp at c1;simp[prtV] at c3 c6;obtain⟨ai,ci,rfl,-⟩:=SlAt.open hPP;have HB0:=zh (z01 w (z0r (.slice ac f.cmds.length cc) (.slice ao f.occ.length co) (.slice ap f.rep.length cp)));have HS:=zh (StepR.refl h hf hrq);have HX:=zh (And.intro hP (And.intro hn (And.intro c1 (And.intro c3 (And.intro c6 (And.intro f3 f6))))));have HFB:=zh (heap_alloc_new w (z0r (.slice ac f.cmds.length cc) (.slice ao f.occ.length co) (.slice ap f.rep.length cp)));have HSD:=zh (And.intro (PRt.stepD.eq_1 y f) (PRt.gaveD.eq_1 y f));clear hc hz hc1 ho1 hp1 h hf hP hn c1 c3 c6 f3 f6 hcs hPP;generalize y.secAt 0=s at *;obtain⟨bo,hbo⟩:∃b,f.occ.getD s false=b:=⟨_,rfl⟩
 rw[hbo] at HSD HOC;clear hbo;obtain⟨GV,hGV⟩:∃GV,GV=y.gaveD f:=⟨_,rfl⟩
 rw[<-hGV] at HSD ⊢;clear hGV;go_enter Tryz.func109,Tryz.ntmps109
 go_wp2
 go_cut [8] (fun v wx=>v=.bool bo/\Below w.heap.size w wx/\wx.heap[w.heap.size]?=some (z0r (.slice ac f.cmds.length cc) (.slice ao f.occ.length co) (.slice ap f.rep.length cp)))
 case first=>
  go_region_with (first
   | (go_at_call 147; refine(uh HSA _ ?_).mono ?_; (first | exact(uh HB0) | exact(uh HB0).drew | exact(uh HB0).drew.drew); rintro e w1 ⟨rfl,hw1⟩; subst hw1)
   | (go_at_call 120; refine(uh HOC _ ?_).mono ?_; (first | exact(uh HB0) | exact(uh HB0).drew | exact(uh HB0).drew.drew); rintro e w2 ⟨rfl,hb2⟩))
  all_goals
   have HB2:=zh (show Below w.heap.size w w2/\w2.heap[w.heap.size]?=some (z0r (.slice ac f.cmds.length cc) (.slice ao f.occ.length co) (.slice ap f.rep.length cp)) from ⟨(uh HB0).drew.trans (hb2.mono (by simp)),(hb2.block w.heap.size (by simp)).trans (uh HFB)⟩);clear hb2;go_wp2_with fail
   go_meet
   exact⟨rfl,(uh HB2).1,(uh HB2).2⟩
 case rest=>
  obtain⟨rfl,hbc,hfc⟩:=hcut;have HBC:=zh hbc;obtain⟨-,-,c1,c3,c6,f3,f6⟩:=uh HX;rw[<-hbc.cell (p:=⟨gl,_,none⟩) hgl] at c1 c3 c6;rw[<-hbc.frozen (p:=⟨gl,_,none⟩) hgl] at f3 f6;have hgw:gl < wc.heap.size:=Nat.lt_of_lt_of_le hgl hbc.size;have hwz:w.heap.size < wc.heap.size:=z0g hfc;obtain⟨⟨y0,y1,y2⟩,-,qf⟩:=tri0 hfc;clear hbc hfc HFB HB0;cases bo with
  | true=>
   have HG2:=zh (show y.stepD f=y.enter/\GV=false from ⟨(uh HSD).1,(uh HSD).2⟩);go_wp2_with fail
   refine(uh HEN wc (uh HBC)).mono ?_;rintro e w2 ⟨rfl,hp2,ho2⟩;have HR2:=zh (And.intro hp2 ho2);clear hp2 ho2 c1 c3 c6 f3 f6 y0 y1 y2;go_wp2
   go_ret
   refine⟨z04 (uh HG2).2.symm,?_⟩;rw[(uh HG2).1];have h1:=(uh HS).below (uh HBC);exact⟨(uh HR2).1,h1.2.1.only (uh HR2).2 (fun b hb hh=>by rcases hh with hh | hh; exact((uh HX).1 b hb).1 hh; exact((uh HX).1 b hb).2 hh),h1.2.2.trans (uh HR2).2⟩
  | false=>
   have HD1:=zh (show (y.stepD f=if 0 < y.count then { y with count:=y.count - 1 } else if f.freeB y.rt.path then { y with ph:=46 } else y)/\(GV=if 0 < y.count then false else f.freeB y.rt.path) from ⟨(uh HSD).1,(uh HSD).2⟩);clear HSD;by_cases hct0:0 < y.count
   ·have HD2:=zh (show y.stepD f={ y with count:=y.count - 1 }/\GV=false from ⟨by rw[(uh HD1).1,if_pos hct0],by rw[(uh HD1).2,if_pos hct0]⟩)
    obtain⟨ct1,hct1⟩:∃k,y.count=k+1:=⟨y.count - 1,by omega⟩
    have b1:(0:Int) < (y.count:Int):=by omega
    have HE:=zh (show (y.count:Int) - 1=((y.count - 1:Nat):Int) by omega);clear y0 y1 y2 hct0 hct1;go_wp2
    go_ret
    refine⟨z04 (uh HD2).2.symm,?_⟩;rw[(uh HD2).1,uh HE];exact((uh HS).below (uh HBC)).setR (uh HX).1 (uh HX).2.1 hr 6 (by omega) (.int .i64 ((y.count - 1:Nat):Int)) { y with count:=y.count - 1 } (fun q=>rfl) rfl rfl
   ·have HD2:=zh (show (y.stepD f=if f.freeB y.rt.path then { y with ph:=46 } else y)/\(GV=f.freeB y.rt.path) from ⟨by rw[(uh HD1).1,if_neg hct0],by rw[(uh HD1).2,if_neg hct0]⟩)
    have hc0:y.count=0:=by omega
    rw[hc0] at c6;clear hct0 hc0 hct HD1;obtain⟨b,hb⟩:∃b,f.freeB y.rt.path=b:=⟨_,rfl⟩
    rw[hb] at HD2 HFR;clear hb;go_wp2
    go_cut [30] (fun v wx=>v=.bool (!b)/\Below wc.heap.size wc wx)
    case first=>
     go_region_with (go_at_call 151; refine(uh HFR _ ?_).mono ?_; (first | exact(uh HBC) | exact(uh HBC).drew | exact(uh HBC).drew.drew); rintro e w2 ⟨rfl,hb2⟩)
     all_goals
      have HB2:=zh (show Below wc.heap.size wc w2 from (Below.refl wc.heap.size wc).drew.trans hb2);clear hb2;go_wp2_with fail
      go_meet
      exact⟨rfl,uh HB2⟩
    case rest=>
     obtain⟨hv,hbd⟩:=hcut;subst hv;have hB2:=(uh HBC).trans (hbd.mono (uh HBC).size);have HB2:=zh hB2;clear c1 c3 c6 f3 f6 y0 y1 y2;obtain⟨-,-,-,c3,-,f3,-⟩:=uh HX;rw[<-hB2.cell (p:=⟨gl,_,none⟩) hgl] at c3;rw[<-hB2.frozen (p:=⟨gl,_,none⟩) hgl] at f3;clear hbd hB2;cases b with
     | false=>
      have HD3:=zh (show y.stepD f=y/\GV=false from ⟨(uh HD2).1,(uh HD2).2⟩);go_wp2
      go_ret
      refine⟨z04 (uh HD3).2.symm,?_⟩;rw[(uh HD3).1];exact(uh HS).below (uh HB2)
     | true=>
      have HD3:=zh (show y.stepD f={ y with ph:=46 }/\GV=true from ⟨(uh HD2).1,(uh HD2).2⟩);go_wp2
      go_ret
      refine⟨z04 (uh HD3).2.symm,?_⟩;rw[(uh HD3).1];exact((uh HS).below (uh HB2)).setR (uh HX).1 (uh HX).2.1 hr 3 (by omega) (.int .u8 46) { y with ph:=46 } (fun q=>rfl) rfl rfl
def PRt.step (y:PRt) (f:PFr) (broken:Bool):PRt:=if y.ph=119 then y.stepW f broken else if y.ph=103 then y.stepG f broken else if y.ph=116 then y.stepP f else if y.ph=100 then y.stepD f else y
def PRt.gave (y:PRt) (f:PFr):Bool:=if y.ph=100 then y.gaveD f else false
structure PRtOK (y:PRt):Prop where
 path:y.rt.path.length<=1000
 flank:y.rt.flank.length<=1000
 marked:y.marked.length<=1000
 freed:y.freed<=1000
 count:y.count<=1000
set_option maxRecDepth 100000 in
set_option maxHeartbeats 4000000 in
theorem step_any (R P:Nat->Prop) (g:Nat) (B:PBx) (vs vr vt vw va vq:Value) (qs:List Q3) (gl n cl r:Nat) (y:PRt) (vfr:Value) (f:PFr) (broken:Bool) (w:World) (h:PM w R g (B.putR r y) vs vr vt (.slice (some ⟨gl,0,none⟩) n cl) vw va vq qs) (hf:FrPIn P w vfr f) (hn:n=B.rts.length) (hr:r < B.rts.length) (hrq:r < qs.length)
  (hP:∀b,P b->b≠gl/\qs[r].2.2.ownBlock≠some b) (hok:PRtOK y) :
  Calls Tryz.prog 74 #[.pointer (some ⟨gl,r*9,none⟩),vfr,.bool broken] w fun e w'=>e=.returned (.bool (y.gave f))/\StepR R P g B vs vr vt vw va vq qs gl n cl r hrq vfr f w w' (y.step f broken):=by
 obtain⟨vc,vo,vp,rfl,hc1,ho1,hp1⟩:=hf.at;obtain⟨ac,cc,rfl,-⟩:=SlAt.open hc1;obtain⟨ao,co,rfl,-⟩:=SlAt.open ho1;obtain⟨ap,cp,rfl,-⟩:=SlAt.open hp1;obtain⟨hc,-,-,hgl,-⟩:=h.rAt hn hr hrq;have c3:=hc 3 (by omega);simp[prtV] at c3;have HW:=zh (fun (wz:World) (hz:Below w.heap.size w wz)=>stepWaiting_any R P g B vs vr vt vw va vq qs gl n cl r y _ f broken wz (h.below hz) (hf.below hz) hn hr hrq hP hok.path hok.flank);have HG:=zh (fun (wz:World) (hz:Below w.heap.size w wz)=>stepGreen_any R P g B vs vr vt vw va vq qs gl n cl r y _ f broken wz (h.below hz) (hf.below hz) hn hr hrq hP hok.path hok.flank hok.marked);have HT:=zh (fun (wz:World) (hz:Below w.heap.size w wz)=>stepPassing_any R P g B vs vr vt vw va vq qs gl n cl r y _ f wz (h.below hz) (hf.below hz) hn hr hrq hP hok.path hok.marked hok.freed);have HD:=zh (fun (wz:World) (hz:Below w.heap.size w wz)=>stepDropped_any R P g B vs vr vt vw va vq qs gl n cl r y _ f wz (h.below hz) (hf.below hz) hn hr hrq hP hok.marked hok.count);have HB0:=zh (z01 w (z0r (.slice ac f.cmds.length cc) (.slice ao f.occ.length co) (.slice ap f.rep.length cp)));have HS:=zh (StepR.refl h hf hrq);have HST:=zh (And.intro (PRt.step.eq_1 y f broken) (PRt.gave.eq_1 y f));have HTR:=zh (show ∀W W' z,Below w.heap.size w W->StepR R P g B vs vr vt vw va vq qs gl n cl r hrq (.agg #[.slice ac f.cmds.length cc,.slice ao f.occ.length co,.slice ap f.rep.length cp]) f W W' z->StepR R P g B vs vr vt vw va vq qs gl n cl r hrq (.agg #[.slice ac f.cmds.length cc,.slice ao f.occ.length co,.slice ap f.rep.length cp]) f w W' z from
  fun W W' z hb hs=>⟨hs.1,hs.2.1,(Only.of_below hb).trans hs.2.2⟩)
 clear hc hc1 ho1 hp1 h hf hP hn hok;obtain⟨ph,hph⟩:∃n,y.ph=n:=⟨_,rfl⟩
 rw[hph] at c3 HST;clear hph;obtain⟨GV,hGV⟩:∃GV,GV=y.gave f:=⟨_,rfl⟩
 rw[<-hGV] at HST ⊢;clear hGV;by_cases h1:ph=119
 ·have HE:=zh (show y.step f broken=y.stepW f broken/\GV=false from ⟨by rw[(uh HST).1,if_pos h1],by rw[(uh HST).2,if_neg (by omega)]⟩)
  have b1:((ph:Int)==119)=true:=by simp[h1]
  clear h1 HST;go_enter Tryz.func74,Tryz.ntmps74
  go_wp2_with fail
  refine(uh HW _ (uh HB0)).mono ?_;rintro e w1 ⟨rfl,hs1⟩;have HS1:=zh (uh HTR _ _ _ (uh HB0) hs1);clear hs1 c3;go_wp2
  go_ret
  exact⟨z04 (uh HE).2.symm,by rw[(uh HE).1]; exact uh HS1⟩
 ·have b1:((ph:Int)==119)=false:=by simp; omega
  by_cases h2:ph=103
  ·have HE:=zh (show y.step f broken=y.stepG f broken/\GV=false from ⟨by rw[(uh HST).1,if_neg h1,if_pos h2],by rw[(uh HST).2,if_neg (by omega)]⟩)
   have b2:((ph:Int)==103)=true:=by simp[h2]
   clear h1 h2 HST;go_enter Tryz.func74,Tryz.ntmps74
   go_wp2_with fail
   refine(uh HG _ (uh HB0)).mono ?_;rintro e w1 ⟨rfl,hs1⟩;have HS1:=zh (uh HTR _ _ _ (uh HB0) hs1);clear hs1 c3;go_wp2
   go_ret
   exact⟨z04 (uh HE).2.symm,by rw[(uh HE).1]; exact uh HS1⟩
  ·have b2:((ph:Int)==103)=false:=by simp; omega
   by_cases h3:ph=116
   ·have HE:=zh (show y.step f broken=y.stepP f/\GV=false from ⟨by rw[(uh HST).1,if_neg h1,if_neg h2,if_pos h3],by rw[(uh HST).2,if_neg (by omega)]⟩)
    have b3:((ph:Int)==116)=true:=by simp[h3]
    clear h1 h2 h3 HST;go_enter Tryz.func74,Tryz.ntmps74
    go_wp2_with fail
    refine(uh HT _ (uh HB0)).mono ?_;rintro e w1 ⟨rfl,hs1⟩;have HS1:=zh (uh HTR _ _ _ (uh HB0) hs1);clear hs1 c3;go_wp2
    go_ret
    exact⟨z04 (uh HE).2.symm,by rw[(uh HE).1]; exact uh HS1⟩
   ·have b3:((ph:Int)==116)=false:=by simp; omega
    by_cases h4:ph=100
    ·have HE:=zh (show y.step f broken=y.stepD f/\GV=y.gaveD f from ⟨by rw[(uh HST).1,if_neg h1,if_neg h2,if_neg h3,if_pos h4],by rw[(uh HST).2,if_pos h4]⟩)
     have b4:((ph:Int)==100)=true:=by simp[h4]
     clear h1 h2 h3 h4 HST;go_enter Tryz.func74,Tryz.ntmps74
     go_wp2_with fail
     refine(uh HD _ (uh HB0)).mono ?_;rintro e w1 ⟨rfl,hs1⟩;have HS1:=zh (uh HTR _ _ _ (uh HB0) hs1);clear hs1 c3;go_wp2
     go_ret
     exact⟨z04 (uh HE).2.symm,by rw[(uh HE).1]; exact uh HS1⟩
    ·have HE:=zh (show y.step f broken=y/\GV=false from ⟨by rw[(uh HST).1,if_neg h1,if_neg h2,if_neg h3,if_neg h4],by rw[(uh HST).2,if_neg h4]⟩)
     have b4:((ph:Int)==100)=false:=by simp; omega
     clear h1 h2 h3 h4 HST;go_enter Tryz.func74,Tryz.ntmps74
     go_wp2
     go_ret
     exact⟨z04 (uh HE).2.symm,by rw[(uh HE).1]; exact(uh HS).below (uh HB0)⟩
end Go.Proofs.YtkbpocecbcaiiabGreatDoor
