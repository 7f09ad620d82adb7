import Derived.Test.YtkbpocecbcaiiabGreatDoorO21
namespace Go.Proofs.YtkbpocecbcaiiabGreatDoor
open Go.RowKit
def PRt.stepW (y:PRt) (f:PFr) (broken:Bool):PRt:=if broken then { y with ph:=102 } else if y.readyB f then { y with ph:=103,been:=true } else y
def PRt.stepG (y:PRt) (f:PFr) (broken:Bool):PRt:=if f.occ.getD (y.secAt 0) false then y.enter else if broken then { y with ph:=102 } else if y.readyB f then y else { y with ph:=119 }
def StepR (R P:Nat->Prop) (g:Nat) (B:PBx) (vs vr vt vw va vq:Value) (qs:List Q3) (gl n cl r:Nat) (hrq:r < qs.length) (vfr:Value) (f:PFr) (w w':World) (z:PRt):Prop:=
 PM w' R g (B.putR r z) vs vr vt (.slice (some ⟨gl,0,none⟩) n cl) vw va vq qs/\FrPIn P w' vfr f/\Only (fun b=>b=gl\/qs[r].2.2.ownBlock=some b) w w'
theorem StepR.below {R P:Nat->Prop} {g:Nat} {B:PBx} {vs vr vt vw va vq:Value} {qs:List Q3} {gl n cl r:Nat} {hrq:r < qs.length} {vfr:Value} {f:PFr} {w w1 w2:World} {z:PRt} (h:StepR R P g B vs vr vt vw va vq qs gl n cl r hrq vfr f w w1 z) (hb:Below w1.heap.size w1 w2) :
  StepR R P g B vs vr vt vw va vq qs gl n cl r hrq vfr f w w2 z:=⟨h.1.below hb,h.2.1.below hb,h.2.2.trans (Only.of_below hb)⟩
theorem StepR.refl {R P:Nat->Prop} {g:Nat} {B:PBx} {vs vr vt vw va vq:Value} {qs:List Q3} {gl n cl r:Nat} {vfr:Value} {f:PFr} {w:World} {z:PRt} (h:PM w R g (B.putR r z) vs vr vt (.slice (some ⟨gl,0,none⟩) n cl) vw va vq qs) (hf:FrPIn P w vfr f) (hrq:r < qs.length) :
  StepR R P g B vs vr vt vw va vq qs gl n cl r hrq vfr f w w z:=⟨h,hf,Only.refl _ _⟩
theorem StepR.setR {R P:Nat->Prop} {g:Nat} {B:PBx} {vs vr vt vw va vq:Value} {qs:List Q3} {gl n cl r:Nat} {hrq:r < qs.length} {vfr:Value} {f:PFr} {w w1:World} {z:PRt} (h:StepR R P g B vs vr vt vw va vq qs gl n cl r hrq vfr f w w1 z) (hP:∀b,P b->b≠gl/\qs[r].2.2.ownBlock≠some b) (hn:n=B.rts.length) (hr:r < B.rts.length)
  (j:Nat) (hj:j < 9) (u:Value) (x:PRt) (hx:∀q,prtV x q=(prtV z q).set j u) (hxr:x.rt=z.rt) (hxm:x.marked=z.marked) :
  StepR R P g B vs vr vt vw va vq qs gl n cl r hrq vfr f w (w1.setCell ⟨gl,r*9+j,none⟩ u) x:=by
 have ho:Only (fun b=>b=gl\/qs[r].2.2.ownBlock=some b) w1 (w1.setCell ⟨gl,r*9+j,none⟩ u):=Only.setCell (Or.inl rfl) _;exact⟨h.1.setR hn hr j hj u x hx hxr hxm,h.2.1.only ho (fun b hb hh=>by rcases hh with hh | hh; exact(hP b hb).1 hh; exact(hP b hb).2 hh),h.2.2.trans ho⟩
set_option maxRecDepth 100000 in
set_option maxHeartbeats 2000000 in
theorem stepWaiting_any (R P:Nat->Prop) (g:Nat) (B:PBx) (vs vr vt vw va vq:Value) (qs:List Q3) (gl n cl r:Nat) (y:PRt) (vfr:Value) (f:PFr) (broken:Bool) (w:World) (h:PM w R g (B.putR r y) vs vr vt (.slice (some ⟨gl,0,none⟩) n cl) vw va vq qs) (hf:FrPIn P w vfr f) (hn:n=B.rts.length) (hr:r < B.rts.length) (hrq:r < qs.length)
  (hP:∀b,P b->b≠gl/\qs[r].2.2.ownBlock≠some b) (hpl:y.rt.path.length<=1000) (hfl:y.rt.flank.length<=1000) :
  Calls Tryz.prog 106 #[.pointer (some ⟨gl,r*9,none⟩),vfr,.bool broken] w fun e w'=>e=.returned (.tuple #[])/\StepR R P g B vs vr vt vw va vq qs gl n cl r hrq vfr f w w' (y.stepW f broken):=by
 obtain⟨vc,vo,vp,rfl,hc1,ho1,hp1⟩:=hf.at;obtain⟨ac,cc,rfl,-⟩:=SlAt.open hc1;obtain⟨ao,co,rfl,-⟩:=SlAt.open ho1;obtain⟨ap,cp,rfl,-⟩:=SlAt.open hp1;obtain⟨hc,hC,hz,hgl,-⟩:=h.rAt hn hr hrq;have HRD:=zh (fun (wz:World) (hz:Below w.heap.size w wz)=>isReady_at gl (r*9) y _ _ f wz (Nat.lt_of_lt_of_le hgl hz.size) (fun j hj=>by rw[hz.cell (p:=⟨gl,_,none⟩) hgl]; exact hc j hj) (hC.keep (Keeps.below hz) (Keeps.below hz)) (hf.at.below hz) hpl hfl);have c3:=hc 3 (by omega);have c5:=hc 5 (by omega);have f3:=hz (r*9+3);have f5:=hz (r*9+5);simp[prtV] at c3 c5;have HB0:=zh (z01 w (z0r (.slice ac f.cmds.length cc) (.slice ao f.occ.length co) (.slice ap f.rep.length cp)));have HS:=zh (StepR.refl h hf hrq);have HX:=zh (And.intro hP (And.intro hn (And.intro c3 (And.intro c5 (And.intro f3 f5)))));clear hc hC hz hc1 ho1 hp1 h hf hP hn;cases broken with
 | true=>
  go_enter Tryz.func106,Tryz.ntmps106
  go_wp2
  refine bodyPost_ret (v:=.tuple #[]) (by simp[results,Tryz.results106]) rfl ?_;have h1:=(uh HS).setR (uh HX).1 (uh HX).2.1 hr 3 (by omega) (.int .u8 102) { y with ph:=102 } (fun q=>rfl) rfl rfl;exact⟨rfl,h1.below (z01 _ _)⟩
 | false=>
  have HSW:=zh (show y.stepW f false=if y.readyB f then { y with ph:=103,been:=true } else y from rfl);go_enter Tryz.func106,Tryz.ntmps106
  go_wp2_with fail
  refine(uh HRD _ (uh HB0)).mono ?_;rintro e w1 ⟨rfl,hb1⟩;have hB1:=(uh HB0).trans (hb1.mono (by simp));have HB1:=zh hB1;clear c3 c5 f3 f5;obtain⟨-,-,c3,c5,f3,f5⟩:=uh HX;rw[<-hB1.cell (p:=⟨gl,_,none⟩) hgl] at c3 c5;rw[<-hB1.frozen (p:=⟨gl,_,none⟩) hgl] at f3 f5;have hgw:gl < w1.heap.size:=Nat.lt_of_lt_of_le hgl hB1.size;clear hb1 hB1;obtain⟨b,hb⟩:∃b,y.readyB f=b:=⟨_,rfl⟩
  rw[hb] at HSW ⊢;clear hb HRD;cases b with
  | false=>
   have HSW2:=zh (show y.stepW f false=y from uh HSW);go_wp2
   refine bodyPost_end (v:=.tuple #[]) (by simp[results,Tryz.results106,go_sem]) rfl ?_;exact⟨rfl,by rw[uh HSW2]; exact(uh HS).below (uh HB1)⟩
  | true=>
   have HSW2:=zh (show y.stepW f false={ y with ph:=103,been:=true } from uh HSW);go_wp2
   refine bodyPost_end (v:=.tuple #[]) (by simp[results,Tryz.results106,go_sem]) rfl ?_;refine⟨rfl,?_⟩;rw[uh HSW2];exact(((uh HS).below (uh HB1)).setR (uh HX).1 (uh HX).2.1 hr 3 (by omega) (.int .u8 103) { y with ph:=103 } (fun q=>rfl) rfl rfl).setR (uh HX).1 (uh HX).2.1 hr 5 (by omega) (.bool true) { y with ph:=103,been:=true } (fun q=>rfl) rfl rfl
set_option maxRecDepth 100000 in
set_option maxHeartbeats 4000000 in
theorem stepGreen_any (R P:Nat->Prop) (g:Nat) (B:PBx) (vs vr vt vw va vq:Value) (qs:List Q3) (gl n cl r:Nat) (y:PRt) (vfr:Value) (f:PFr) (broken:Bool) (w:World) (h:PM w R g (B.putR r y) vs vr vt (.slice (some ⟨gl,0,none⟩) n cl) vw va vq qs) (hf:FrPIn P w vfr f) (hn:n=B.rts.length) (hr:r < B.rts.length) (hrq:r < qs.length)
  (hP:∀b,P b->b≠gl/\qs[r].2.2.ownBlock≠some b) (hpl:y.rt.path.length<=1000) (hfl:y.rt.flank.length<=1000) (hml:y.marked.length<=1000) :
  Calls Tryz.prog 107 #[.pointer (some ⟨gl,r*9,none⟩),vfr,.bool broken] w fun e w'=>e=.returned (.tuple #[])/\StepR R P g B vs vr vt vw va vq qs gl n cl r hrq vfr f w w' (y.stepG f broken):=by
 obtain⟨vc,vo,vp,rfl,hc1,ho1,hp1⟩:=hf.at;obtain⟨ac,cc,rfl,-⟩:=SlAt.open hc1;obtain⟨ao,co,rfl,-⟩:=SlAt.open ho1;obtain⟨ap,cp,rfl,-⟩:=SlAt.open hp1;obtain⟨hc,hC,hz,hgl,-⟩:=h.rAt hn hr hrq;have HRD:=zh (fun (wz:World) (hz:Below w.heap.size w wz)=>isReady_at gl (r*9) y _ _ f wz (Nat.lt_of_lt_of_le hgl hz.size) (fun j hj=>by rw[hz.cell (p:=⟨gl,_,none⟩) hgl]; exact hc j hj) (hC.keep (Keeps.below hz) (Keeps.below hz)) (hf.at.below hz) hpl hfl);have HSA:=zh (fun (wz:World) (hz:Below w.heap.size w wz)=>z3z gl (r*9) y _ 0 wz (fun j hj=>by rw[hz.cell (p:=⟨gl,_,none⟩) hgl]; exact hc j hj) (hC.keep (Keeps.below hz) (Keeps.below hz)));have HOC:=zh (fun (wz:World) (hz:Below w.heap.size w wz)=>occ_any _ f (y.secAt 0) wz (hf.at.below hz));have HEN:=zh (fun (wz:World) (hz:Below w.heap.size w wz)=>enter_any R g B vs vr vt vw va vq qs gl n cl r y wz (h.below hz) hn hr hrq hml);have c3:=hc 3 (by omega);have f3:=hz (r*9+3);simp[prtV] at c3;have hfb:=heap_alloc_new w (z0r (.slice ac f.cmds.length cc) (.slice ao f.occ.length co) (.slice ap f.rep.length cp));have HB0:=zh (z01 w (z0r (.slice ac f.cmds.length cc) (.slice ao f.occ.length co) (.slice ap f.rep.length cp)));have HS:=zh (StepR.refl h hf hrq);have HX:=zh (And.intro hP (And.intro hn (And.intro c3 f3)));have HFB:=zh hfb;clear hc hC hz hc1 ho1 hp1 h hf hP hn c3 f3 hfb;have HSG:=zh (show y.stepG f broken=if f.occ.getD (y.secAt 0) false then y.enter else if broken then { y with ph:=102 } else if y.readyB f then y else { y with ph:=119 } from rfl);generalize y.secAt 0=s at *;obtain⟨bo,hbo⟩:∃b,f.occ.getD s false=b:=⟨_,rfl⟩
 rw[hbo] at HSG HOC;clear hbo;go_enter Tryz.func107,Tryz.ntmps107
 go_wp2
 go_cut [9] (fun v wx=>v=.bool bo/\Below w.heap.size w wx/\wx.heap[w.heap.size]?=some (z0r (.slice ac f.cmds.length cc) (.slice ao f.occ.length co) (.slice ap f.rep.length cp)))
 case first=>
  go_region_with (first
   | (go_at_call 147; refine(uh HSA _ ?_).mono ?_; (first | exact(uh HB0) | exact(uh HB0).drew | exact(uh HB0).drew.drew); rintro e w1 ⟨rfl,hw1⟩; subst hw1)
   | (go_at_call 120; refine(uh HOC _ ?_).mono ?_; (first | exact(uh HB0) | exact(uh HB0).drew | exact(uh HB0).drew.drew); rintro e w2 ⟨rfl,hb2⟩))
  all_goals
   have HB2:=zh (show Below w.heap.size w w2/\w2.heap[w.heap.size]?=some (z0r (.slice ac f.cmds.length cc) (.slice ao f.occ.length co) (.slice ap f.rep.length cp)) from ⟨(uh HB0).drew.trans (hb2.mono (by simp)),(hb2.block w.heap.size (by simp)).trans (uh HFB)⟩);clear hb2;go_wp2_with fail
   go_meet
   exact⟨rfl,(uh HB2).1,(uh HB2).2⟩
 case rest=>
  obtain⟨rfl,hbc,hfc⟩:=hcut;have HBC:=zh hbc;obtain⟨-,-,c3,f3⟩:=uh HX;rw[<-hbc.cell (p:=⟨gl,_,none⟩) hgl] at c3;rw[<-hbc.frozen (p:=⟨gl,_,none⟩) hgl] at f3;have hgw:gl < wc.heap.size:=Nat.lt_of_lt_of_le hgl hbc.size;have hwz:w.heap.size < wc.heap.size:=z0g hfc;obtain⟨⟨y0,y1,y2⟩,-,qf⟩:=tri0 hfc;clear hbc hfc HFB HB0;cases bo with
  | true=>
   have HSG2:=zh (show y.stepG f broken=y.enter from uh HSG);go_wp2_with fail
   refine(uh HEN wc (uh HBC)).mono ?_;rintro e w2 ⟨rfl,hp2,ho2⟩;have HR2:=zh (And.intro hp2 ho2);clear hp2 ho2 c3 f3 y0 y1 y2;go_wp2
   refine bodyPost_ret (v:=.tuple #[]) (by simp[results,Tryz.results107]) rfl ?_;refine⟨rfl,?_⟩;rw[uh HSG2];have h1:=(uh HS).below (uh HBC);exact⟨(uh HR2).1,h1.2.1.only (uh HR2).2 (fun b hb hh=>by rcases hh with hh | hh; exact((uh HX).1 b hb).1 hh; exact((uh HX).1 b hb).2 hh),h1.2.2.trans (uh HR2).2⟩
  | false=>
   cases broken with
   | true=>
    have HSG2:=zh (show y.stepG f true={ y with ph:=102 } from uh HSG);clear y0 y1 y2;go_wp2
    refine bodyPost_ret (v:=.tuple #[]) (by simp[results,Tryz.results107]) rfl ?_;refine⟨rfl,?_⟩;rw[uh HSG2];exact((uh HS).below (uh HBC)).setR (uh HX).1 (uh HX).2.1 hr 3 (by omega) (.int .u8 102) { y with ph:=102 } (fun q=>rfl) rfl rfl
   | false=>
    have HSG1:=zh (show y.stepG f false=if y.readyB f then y else { y with ph:=119 } from uh HSG);clear HSG;go_wp2_with fail
    refine(uh HRD wc (uh HBC)).mono ?_;rintro e w2 ⟨rfl,hb2⟩;have hB2:=(uh HBC).trans (hb2.mono (uh HBC).size);have HB2:=zh hB2;clear c3 f3 y0 y1 y2;obtain⟨-,-,c3,f3⟩:=uh HX;rw[<-hB2.cell (p:=⟨gl,_,none⟩) hgl] at c3;rw[<-hB2.frozen (p:=⟨gl,_,none⟩) hgl] at f3;have hgw2:gl < w2.heap.size:=Nat.lt_of_lt_of_le hgl hB2.size;clear hb2 hB2;obtain⟨b,hb⟩:∃b,y.readyB f=b:=⟨_,rfl⟩
    rw[hb] at HSG1 ⊢;clear hb HRD;cases b with
    | true=>
     have HSG2:=zh (show y.stepG f false=y from uh HSG1);go_wp2
     refine bodyPost_end (v:=.tuple #[]) (by simp[results,Tryz.results107,go_sem]) rfl ?_;exact⟨rfl,by rw[uh HSG2]; exact(uh HS).below (uh HB2)⟩
    | false=>
     have HSG2:=zh (show y.stepG f false={ y with ph:=119 } from uh HSG1);go_wp2
     refine bodyPost_end (v:=.tuple #[]) (by simp[results,Tryz.results107,go_sem]) rfl ?_;refine⟨rfl,?_⟩;rw[uh HSG2];exact((uh HS).below (uh HB2)).setR (uh HX).1 (uh HX).2.1 hr 3 (by omega) (.int .u8 119) { y with ph:=119 } (fun q=>rfl) rfl rfl
end Go.Proofs.YtkbpocecbcaiiabGreatDoor
