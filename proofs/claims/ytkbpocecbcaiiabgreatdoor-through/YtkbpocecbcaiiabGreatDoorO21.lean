import Derived.Test.YtkbpocecbcaiiabGreatDoorO20
namespace Go.Proofs.YtkbpocecbcaiiabGreatDoor
open Go.RowKit
set_option maxRecDepth 100000 in
set_option maxHeartbeats 4000000 in
theorem mayRelease_at (g o:Nat) (x:PRt) (cs:List Value) (vfr:Value) (f:PFr) (w:World) (hg:g < w.heap.size) (hc:∀j,j < 9->w.cell? ⟨g,o+j,none⟩=cs[j]?) (hC:CPRt w x cs) (hf:FrP w vfr f) (hfr:x.freed<=1000) (hpl:x.rt.path.length<=1000) :
  Calls Tryz.prog 150 #[.pointer (some ⟨g,o,none⟩),vfr] w fun e w'=>e=.returned (.bool (x.relB f))/\Below w.heap.size w w':=by
 have HIM:=zh (fun (k:Nat) (wz:World) (hz:Below w.heap.size w wz)=>isMarked_at g o x cs k wz (fun j hj=>by rw[hz.cell (p:=⟨g,_,none⟩) hg]; exact hc j hj) (hC.keep (Keeps.below hz) (Keeps.below hz)));have HSA:=zh (fun (i:Int) (wz:World) (hz:Below w.heap.size w wz)=>z3z g o x cs i wz (fun j hj=>by rw[hz.cell (p:=⟨g,_,none⟩) hg]; exact hc j hj) (hC.keep (Keeps.below hz) (Keeps.below hz)));have HOC:=zh (fun (s:Nat) (wz:World) (hz:Below w.heap.size w wz)=>occ_any _ f s wz (hf.below hz));obtain⟨vc,vo,vp,rfl,hc1,ho1,hp1⟩:=hf;obtain⟨ac,cc,rfl,-⟩:=SlAt.open hc1;obtain⟨ao,co,rfl,-⟩:=SlAt.open ho1;obtain⟨ap,cp,rfl,-⟩:=SlAt.open hp1;obtain⟨vq,vf,vm,rfl,hP,-,-⟩:=hC;have c1:=hc 1 (by omega);have c8:=hc 8 (by omega);simp at c1 c8;obtain⟨ai,ci,rfl,-⟩:=SlAt.open hP;obtain⟨Z,hZ⟩:∃Z,Z=x.relB f:=⟨_,rfl⟩
 rw[<-hZ];unfold PRt.relB at hZ;have HFB:=zh (heap_alloc_new w (z0r (.slice ac f.cmds.length cc) (.slice ao f.occ.length co) (.slice ap f.rep.length cp)));have hW0:=z01 w (z0r (.slice ac f.cmds.length cc) (.slice ao f.occ.length co) (.slice ap f.rep.length cp));have HW0:=zh hW0;clear hW0 hc1 ho1 hp1 hP hc;have HIMf:=zh (uh HIM x.freed);have HIM1:=zh (uh HIM (x.freed+1));have HSAf:=zh (uh HSA (x.freed:Int));have HSA1:=zh (uh HSA ((x.freed:Int) - 1));have HOCf:=zh (uh HOC (x.secAt (x.freed:Int)));have HOC1:=zh (uh HOC (x.secAt ((x.freed:Int) - 1)));generalize x.rt.path.length=pl at *;obtain⟨fr,hfe⟩:∃fr,x.freed=fr:=⟨_,rfl⟩
 rw[hfe] at HIMf HIM1 HSAf HSA1 HOCf HOC1 hZ c8 hfr;clear hfe;generalize x.secAt (fr:Int)=sf at *;generalize x.secAt ((fr:Int) - 1)=s1 at *;obtain⟨bm,hbm⟩:∃b,x.marked.getD fr false=b:=⟨_,rfl⟩
 obtain⟨bm1,hbm1⟩:∃b,x.marked.getD (fr+1) false=b:=⟨_,rfl⟩
 obtain⟨bo,hbo⟩:∃b,f.occ.getD sf false=b:=⟨_,rfl⟩
 obtain⟨bo1,hbo1⟩:∃b,f.occ.getD s1 false=b:=⟨_,rfl⟩
 rw[hbm] at HIMf hZ;rw[hbm1] at HIM1 hZ;rw[hbo] at HOCf hZ;rw[hbo1] at HOC1 hZ;clear hbm hbm1 hbo hbo1 HIM HSA HOC;have HZ:=zh hZ;clear hZ;cases bm with
 | false=>
  have HZ2:=zh (show Z=false from uh HZ);go_enter Tryz.func150,Tryz.ntmps150
  go_wp2_with fail
  refine(uh HIMf _ (uh HW0)).mono ?_;rintro e w1 ⟨rfl,hw1⟩;subst hw1;go_wp2
  go_ret
  exact⟨z04 (uh HZ2).symm,uh HW0⟩
 | true=>
  by_cases hlast:fr+1=pl
  ·have HZ2:=zh (show Z=!bo1 by rw[uh HZ,if_pos rfl,if_pos hlast])
   have b1:((fr:Int)==(pl:Int) - 1)=true:=by simp; omega
   have e1:IntKind.i64.wrap ((pl:Int) - 1)=(pl:Int) - 1:=Go.IntWalk.i64_in _ (by omega);have e2:IntKind.i64.wrap ((fr:Int) - 1)=(fr:Int) - 1:=Go.IntWalk.i64_in _ (by omega);clear hlast;go_enter Tryz.func150,Tryz.ntmps150
   go_wp2_with fail
   refine(uh HIMf _ (uh HW0)).mono ?_;rintro e w1 ⟨rfl,hw1⟩;subst hw1;go_wp2
   go_quiet (fail)
   go_wp2
   generalize hW1:World.drewN _ _=W1;have hB1:Below w.heap.size w W1:=by rw[<-hW1]; exact below_drewN (uh HW0) _
   have hfW:W1.heap[w.heap.size]?=some (z0r (.slice ac f.cmds.length cc) (.slice ao f.occ.length co) (.slice ap f.rep.length cp)):=by rw[<-hW1]; exact uh HFB
   obtain⟨⟨y0,y1,y2⟩,-,qf⟩:=tri0 hfW;rw[<-hB1.cell (p:=⟨g,_,none⟩) hg] at c8;have hgW:g < W1.heap.size:=Nat.lt_of_lt_of_le hg hB1.size;have HB1:=zh hB1;clear hW1 hB1 hfW c1;go_region_with (first
    | (go_at_call 147; refine(uh HSA1 _ ?_).mono ?_; (first | exact(uh HB1) | exact(uh HB1).drew | exact(uh HB1).drew.drew | exact(uh HB1).drew.drew.drew); rintro e w1 ⟨rfl,hw1⟩; subst hw1)
    | (go_at_call 120; refine(uh HOC1 _ ?_).mono ?_; (first | exact(uh HB1) | exact(uh HB1).drew | exact(uh HB1).drew.drew | exact(uh HB1).drew.drew.drew); rintro e w2 ⟨rfl,hb2⟩))
   all_goals
    have HB2:=zh (show Below w.heap.size w w2 from (by first | exact(uh HB1).trans (hb2.mono (uh HB1).size) | exact(uh HB1).drew.trans (hb2.mono (uh HB1).size) | exact(uh HB1).drew.drew.trans (hb2.mono (uh HB1).size)));clear hb2;go_wp2
    go_ret
    exact⟨z04 (uh HZ2).symm,uh HB2⟩
  ·have HZ2:=zh (show Z=(!bo&&bm1) by rw[uh HZ,if_pos rfl,if_neg hlast])
   have b1:((fr:Int)==(pl:Int) - 1)=false:=by simp; omega
   have e1:IntKind.i64.wrap ((pl:Int) - 1)=(pl:Int) - 1:=Go.IntWalk.i64_in _ (by omega);have hf1:(fr:Int)+1=((fr+1:Nat):Int):=by omega
   obtain⟨fr1,hfr1⟩:∃k,k=fr+1:=⟨_,rfl⟩
   rw[<-hfr1] at HIM1 hf1;have e2:IntKind.i64.wrap ((fr:Int)+1)=(fr1:Int):=by rw[hf1]; exact Go.IntWalk.i64_in _ (by omega)
   clear hlast hfr1;cases bo with
   | true=>
    have HZ3:=zh (show Z=false from uh HZ2);go_enter Tryz.func150,Tryz.ntmps150
    go_wp2_with fail
    refine(uh HIMf _ (uh HW0)).mono ?_;rintro e w1 ⟨rfl,hw1⟩;subst hw1;go_wp2
    go_quiet (fail)
    go_wp2
    generalize hW1:World.drewN _ _=W1;have hB1:Below w.heap.size w W1:=by rw[<-hW1]; exact below_drewN (uh HW0) _
    have hfW:W1.heap[w.heap.size]?=some (z0r (.slice ac f.cmds.length cc) (.slice ao f.occ.length co) (.slice ap f.rep.length cp)):=by rw[<-hW1]; exact uh HFB
    obtain⟨⟨y0,y1,y2⟩,-,qf⟩:=tri0 hfW;rw[<-hB1.cell (p:=⟨g,_,none⟩) hg] at c8;have hgW:g < W1.heap.size:=Nat.lt_of_lt_of_le hg hB1.size;have HB1:=zh hB1;clear hW1 hB1 hfW c1 HZ HZ2 HFB HW0 HIMf HSA1 HOC1 hpl hfr hf1 b1 e1
    first
    | go_region_with (first
       | (go_at_call 147; refine(uh HSAf _ ?_).mono ?_; (first | exact(uh HB1) | exact(uh HB1).drew | exact(uh HB1).drew.drew | exact(uh HB1).drew.drew.drew); rintro e w1 ⟨rfl,hw1⟩; subst hw1)
       | (go_at_call 120; refine(uh HOCf _ ?_).mono ?_; (first | exact(uh HB1) | exact(uh HB1).drew | exact(uh HB1).drew.drew | exact(uh HB1).drew.drew.drew); rintro e w2 ⟨rfl,hb2⟩))
    | fail
    all_goals
     have HB2:=zh (show Below w.heap.size w w2 from (by first | exact(uh HB1).trans (hb2.mono (uh HB1).size) | exact(uh HB1).drew.trans (hb2.mono (uh HB1).size) | exact(uh HB1).drew.drew.trans (hb2.mono (uh HB1).size)));clear hb2;go_wp2
     go_ret
     exact⟨z04 (uh HZ3).symm,uh HB2⟩
   | false=>
    have HZ3:=zh (show Z=bm1 from uh HZ2);have C8:=zh c8;go_enter Tryz.func150,Tryz.ntmps150
    go_wp2_with fail
    refine(uh HIMf _ (uh HW0)).mono ?_;rintro e w1 ⟨rfl,hw1⟩;subst hw1;go_wp2
    go_quiet (fail)
    go_wp2
    generalize hW1:World.drewN _ _=W1;have hB1:Below w.heap.size w W1:=by rw[<-hW1]; exact below_drewN (uh HW0) _
    have hfW:W1.heap[w.heap.size]?=some (z0r (.slice ac f.cmds.length cc) (.slice ao f.occ.length co) (.slice ap f.rep.length cp)):=by rw[<-hW1]; exact uh HFB
    obtain⟨⟨y0,y1,y2⟩,-,qf⟩:=tri0 hfW;rw[<-hB1.cell (p:=⟨g,_,none⟩) hg] at c8;have hgW:g < W1.heap.size:=Nat.lt_of_lt_of_le hg hB1.size;have HB1:=zh hB1;clear hW1 hB1 hfW c1 HZ HZ2 HFB HW0 HIMf HSA1 HOC1 hpl hfr hf1 b1 e1
    first
    | go_region_with (first
       | (go_at_call 147; refine(uh HSAf _ ?_).mono ?_; (first | exact(uh HB1) | exact(uh HB1).drew | exact(uh HB1).drew.drew | exact(uh HB1).drew.drew.drew); rintro e w1 ⟨rfl,hw1⟩; subst hw1)
       | (go_at_call 120; refine(uh HOCf _ ?_).mono ?_; (first | exact(uh HB1) | exact(uh HB1).drew | exact(uh HB1).drew.drew | exact(uh HB1).drew.drew.drew); rintro e w2 ⟨rfl,hb2⟩; have hB2:Below w.heap.size w w2:=(by first | exact(uh HB1).trans (hb2.mono (uh HB1).size) | exact(uh HB1).drew.trans (hb2.mono (uh HB1).size) | exact(uh HB1).drew.drew.trans (hb2.mono (uh HB1).size)); have HB2:=zh hB2; have hgw2:g < w2.heap.size:=Nat.lt_of_lt_of_le hg hB2.size; have d8:=uh C8; rw[<-hB2.cell (p:=⟨g,o+8,none⟩) hg] at d8; clear hb2 hB2)
       | (go_at_call 171; refine(uh HIM1 _ ?_).mono ?_; (first | exact(uh HB2) | exact(uh HB2).drew | exact(uh HB2).drew.drew); rintro e w3 ⟨rfl,hw3⟩; subst hw3))
    | fail
    all_goals
     go_wp2
     go_ret
     exact⟨z04 (uh HZ3).symm,by first | exact(uh HB2) | exact(uh HB2).drew | exact(uh HB2).drew.drew⟩
end Go.Proofs.YtkbpocecbcaiiabGreatDoor
