import Derived.Test.YtkbpocecbcaiiabGreatDoorO39
namespace Go.Proofs.YtkbpocecbcaiiabGreatDoor
open Go.RowKit
def ansS (lamps moves as_ sv:ByteArray):ByteArray:=(((((((⟨#[61]⟩:ByteArray)++lamps)++⟨#[47]⟩)++moves)++⟨#[47]⟩)++as_)++⟨#[47]⟩)++sv
set_option maxRecDepth 100000 in
set_option maxHeartbeats 8000000 in
theorem answer_any (g:Nat) (B:PBx) (vfr va vb:Value) (f:PFr) (as_ sv:List Nat) (w:World) (h:PBoxAt w g B) (hf:FrP w vfr f) (ha:Byts w va as_) (hb:Ints w vb sv) (hr:B.rts.length<=1000) (hok:∀y,y∈B.rts->PRtOK y) (hl:B.sws.length<=1000) (hs9:∀t,t∈sv->t < 9) (hsl:sv.length<=1000)
  (hz1:as_.length<=1000) :
  Calls Tryz.prog 38 #[.pointer (some ⟨g,0,none⟩),vfr,va,vb] w fun e w'=>e=.returned (.string (ansS (z0i B.lampsT) (z0i (B.movesT f)) (z0i as_) (z21 sv)))/\Below w.heap.size w w':=by
 have HSI:=zh (fun (wz:World) (hz:Below w.heap.size w wz)=>signals_any g B wz (h.below hz) hr);have HMO:=zh (fun (wz:World) (hz:Below w.heap.size w wz)=>moves_any g B _ f wz (h.below hz) (hf.below hz) hr hok hl);have HDI:=zh (fun (wz:World) (hz:Below w.heap.size w wz)=>digits_any vb sv wz (hb.keep (Keeps.below hz)) hs9 hsl);have HCV:=zh (fun (wz:World) (hz:Below w.heap.size w wz)=>byts_str (ha.keep (Keeps.below hz)));obtain⟨vc,vo,vr9,rfl,h1,h2,h3⟩:=hf;obtain⟨ac,cc,rfl,-⟩:=SlAt.open h1;obtain⟨ao,co,rfl,-⟩:=SlAt.open h2;obtain⟨ap,cp,rfl,-⟩:=SlAt.open h3;obtain⟨aa,ca,rfl,-⟩:=SlAt.open ha;obtain⟨ab,cb,rfl,-⟩:=SlAt.open hb;have HFB:=zh (heap_alloc_new w (z0r (.slice ac f.cmds.length cc) (.slice ao f.occ.length co) (.slice ap f.rep.length cp)));have HW0:=zh (z01 w (z0r (.slice ac f.cmds.length cc) (.slice ao f.occ.length co) (.slice ap f.rep.length cp)));clear h1 h2 h3 ha hb h hok hs9;have z1:(z0i B.lampsT).size<=1000:=by rw[z3s]; simp[PBx.lampsT]; exact hr
 have z2:(z0i (B.movesT f)).size<=1000:=by
  rw[z3s];have:=flat_le (B.moveT f) (by intro s; unfold PBx.moveT; split <;> simp) B.sws.length;unfold PBx.movesT;omega
 have z3:(z0i as_).size<=1000:=by rw[z3s]; exact hz1
 have z4:(z21 sv).size<=1000:=by rw[z2p]; exact hsl
 unfold ansS;generalize z0i B.lampsT=t1 at *;generalize z0i (B.movesT f)=t2 at *;generalize z0i as_=t3 at *;generalize z21 sv=t4 at *;have zz:∀a b:ByteArray,a.size<=8000->b.size<=1000->∀W:World,(Op.stringOp .add a b).run Tryz.prog W=.ok (.string (a++b)) W:=fun a b ha hb W=>run_string_add W a b (by omega) (by omega);obtain⟨s1,e1⟩:∃s,(⟨#[61]⟩:ByteArray)++t1=s:=⟨_,rfl⟩
 obtain⟨s2,e2⟩:∃s,s1++(⟨#[47]⟩:ByteArray)=s:=⟨_,rfl⟩
 obtain⟨s3,e3⟩:∃s,s2++t2=s:=⟨_,rfl⟩
 obtain⟨s4,e4⟩:∃s,s3++(⟨#[47]⟩:ByteArray)=s:=⟨_,rfl⟩
 obtain⟨s5,e5⟩:∃s,s4++t3=s:=⟨_,rfl⟩
 obtain⟨s6,e6⟩:∃s,s5++(⟨#[47]⟩:ByteArray)=s:=⟨_,rfl⟩
 obtain⟨s7,e7⟩:∃s,s6++t4=s:=⟨_,rfl⟩
 have k0:(⟨#[61]⟩:ByteArray).size=1:=rfl;have k00:(⟨#[47]⟩:ByteArray).size=1:=rfl;have k1:s1.size<=1001:=by rw[<-e1,ByteArray.size_append]; omega
 have k2:s2.size<=1002:=by rw[<-e2,ByteArray.size_append]; omega
 have k3:s3.size<=2002:=by rw[<-e3,ByteArray.size_append]; omega
 have k4:s4.size<=2003:=by rw[<-e4,ByteArray.size_append]; omega
 have k5:s5.size<=3003:=by rw[<-e5,ByteArray.size_append]; omega
 have k6:s6.size<=3004:=by rw[<-e6,ByteArray.size_append]; omega
 have j1:=zz ⟨#[61]⟩ t1 (by omega) (by omega);have j2:=zz s1 ⟨#[47]⟩ (by omega) (by omega);have j3:=zz s2 t2 (by omega) (by omega);have j4:=zz s3 ⟨#[47]⟩ (by omega) (by omega);have j5:=zz s4 t3 (by omega) (by omega);have j6:=zz s5 ⟨#[47]⟩ (by omega) (by omega);have j7:=zz s6 t4 (by omega) (by omega);rw[e1] at j1;rw[e2] at j2;rw[e3] at j3;rw[e4] at j4;rw[e5] at j5;rw[e6] at j6;rw[e7] at j7;rw[e1,e2,e3,e4,e5,e6,e7];clear zz e1 e2 e3 e4 e5 e6 e7 k0 k00;go_enter Tryz.func38,Tryz.ntmps38
 go_wp2
 generalize hW1:World.alloc _ _=W1;have hB1:Below w.heap.size w W1:=by rw[<-hW1]; exact uh HW0
 have hfb:W1.heap[w.heap.size]?=some (z0r (.slice ac f.cmds.length cc) (.slice ao f.occ.length co) (.slice ap f.rep.length cp)):=by rw[<-hW1]; exact uh HFB
 obtain⟨⟨y0,y1,y2⟩,-,qf⟩:=tri0 hfb;have hcv1:=uh HCV W1.drew hB1.drew;have HB1:=zh hB1;have HF1:=zh hfb;clear hW1 hB1 hfb HW0 HFB hr hl hsl hz1;generalize f.cmds.length=nc at *;generalize f.occ.length=no at *;generalize f.rep.length=nr at *;generalize as_.length=na at *;generalize sv.length=ns at *;go_region_with (first
  | (go_at_call 80; refine(uh HSI _ ?_).mono ?_; (first | exact(uh HB1).drew | exact(uh HB1)); rintro e w2 ⟨rfl,hb2⟩; have hB2:Below w.heap.size w w2:=(uh HB1).drew.trans (hb2.mono (uh HB1).size); have hcv2:=uh HCV w2 hB2; have HB2:=zh hB2; obtain⟨⟨u0,u1,u2⟩,-,qu⟩:=tri0 ((hb2.block w.heap.size qf).trans (uh HF1)); clear hb2 hB2)
  | (go_at_call 81; refine(uh HMO _ ?_).mono ?_; (first | exact(uh HB2)); rintro e w3 ⟨rfl,hb3⟩; have hB3:Below w.heap.size w w3:=(uh HB2).trans (hb3.mono (uh HB2).size); have hcv3:=uh HCV w3 hB3; have HB3:=zh hB3; clear hb3 hB3)
  | (go_at_call 82; refine(uh HDI _ ?_).mono ?_; (first | exact(uh HB3)); rintro e w4 ⟨rfl,hw4⟩; subst hw4))
 all_goals
  go_wp2
  go_ret
  exact⟨rfl,uh HB3⟩
end Go.Proofs.YtkbpocecbcaiiabGreatDoor
