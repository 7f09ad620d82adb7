import Derived.Test.YtkbpocecbcaiiabGreatDoorO40
namespace Go.Proofs.YtkbpocecbcaiiabGreatDoor
open Go.RowKit
def PBx.s1 (B:PBx) (f:PFr):PBx:=B.lateN f B.sws.length
def PBx.s2 (B:PBx) (f:PFr):PBx:=(B.s1 f).stepN f (B.s1 f).rts.length
def PBx.s3 (B:PBx) (f:PFr):PBx:=(B.s2 f).doN f f.cmds.length
def PBx.s4 (B:PBx) (f:PFr):PBx:=(B.s3 f).grants f
def PBx.ansB (B:PBx) (f:PFr):ByteArray:=ansS (z0i (B.s4 f).lampsT) (z0i ((B.s4 f).movesT f)) (z0i ((B.s2 f).doAs f f.cmds.length)) (z21 ((B.s3 f).servN f (B.s3 f).waits.length))
def PBx.cyc (B:PBx) (s:ByteArray):PBx:=if B.L.frameB s then B.s4 (B.L.pfrOf s) else B
def PBx.ans (B:PBx) (s:ByteArray):ByteArray:=if B.L.frameB s then B.ansB (B.L.pfrOf s) else ⟨#[33]⟩
structure CycOK (B:PBx) (f:PFr):Prop where
 g0:PGd B
 T:B.L.T<=1000
 late:∀x,x∈B.sws->x.late<=1000
 sws:B.sws.length<=1000
 gave:∀k (hk:k < (B.s1 f).rts.length),(B.s1 f).rts[k].gave f=true->0 < ((B.s1 f).stepN f k).sta.getD (B.s1 f).rts[k].train 0/\((B.s1 f).stepN f k).sta.getD (B.s1 f).rts[k].train 0<=1000
 w2:(B.s2 f).waits.length<=500
 cm:f.cmds.length<=100
 g3:PGd (B.s3 f)
 w3:(B.s3 f).waits.length<=1000
 g4:(B.s4 f).rts.length<=1000/\(∀y,y∈(B.s4 f).rts->PRtOK y)/\(B.s4 f).sws.length<=1000
 sv:(∀t,t∈(B.s3 f).servN f (B.s3 f).waits.length->t < 9)/\((B.s3 f).servN f (B.s3 f).waits.length).length<=1000
 da:((B.s2 f).doAs f f.cmds.length).length<=1000
structure Stg (w wk:World) (l:Nat) (o:Obj) (D Dk P:Nat->Prop) (g:Nat) (B:PBx) (vfr:Value) (f:PFr):Prop where
 boxf:BoxF wk Dk P g B vfr f
 from_:∀b,Dk b->D b\/(w.heap.size<=b/\b≠l)
 only:Only D w wk
 fr:wk.heap[l]?=some o
theorem Stg.op {w wk wl:World} {l:Nat} {o:Obj} {D Dk Dl P:Nat->Prop} {g:Nat} {B B':PBx} {vfr:Value} {f:PFr} (h:Stg w wk l o D Dk P g B vfr f) (hD:∀b,D b->b < w.heap.size) (hl:w.heap.size<=l) (hb:BoxF wl Dl P g B' vfr f) (ho:Only Dk wk wl) (hd:∀b,Dl b->Dk b\/wk.heap.size<=b):Stg w wl l o D Dl P g B' vfr f:=by
 have hlt:=z0g h.fr;refine⟨hb,fun b hb=>?_,h.only.far ho (fun i hi hd=>?_),?_⟩
 ·rcases hd b hb with h1 | h1
  ·exact h.from_ b h1
  ·have:=h.only.size; exact Or.inr ⟨by omega,by omega⟩
 ·rcases h.from_ i hd with h1 | h1
  ·exact h1
  ·omega
 ·rw[ho.block _ hlt (fun hd=>by
   rcases h.from_ _ hd with h1 | h1
   ·have:=hD _ h1; omega
   ·exact h1.2 rfl)]
  exact h.fr
set_option maxRecDepth 100000 in
set_option maxHeartbeats 8000000 in
theorem pCycle_any (D:Nat->Prop) (g:Nat) (B:PBx) (s:ByteArray) (w:World) (h:PBoxIn w D g B) (hc:B.L.frameB s=true->CycOK B (B.L.pfrOf s)) :
  Calls Tryz.prog 11 #[.pointer (some ⟨g,0,none⟩),.string s] w fun e w'=>e=.returned (.string (B.ans s))/\PBoxIn w' (grow D w w') g (B.cyc s)/\Only D w w':=by
 obtain⟨R,vs,vr,vt,vl,vw,va,vq,qs,hM,h1,h2,h3⟩:=id h;have HRD:=zh (fRead_any _ B.L s w (hM.plan.2 w (fun _ _=>rfl)));obtain⟨⟨q0,q1,q2,q3,q4,q5,q6,q7,q8,q9⟩,-,qg⟩:=box10 hM.box;obtain⟨_,_,_,he,hS,hRo,hT⟩:=hM.plan.2 w (fun _ _=>rfl);simp only[Value.agg.injEq,Array.mk.injEq,List.cons.injEq,and_true,true_and] at he;obtain⟨rfl,rfl,rfl⟩:=he;obtain⟨b1,e1,rfl,-⟩:=SlAt.open hS;obtain⟨b2,e2,rfl,-⟩:=SlAt.open hRo;obtain⟨b3,e3,rfl,-⟩:=SlAt.open hT;have HB:=zh h;have HC:=zh hc;have HAN:=zh (And.intro (PBx.ans.eq_1 B s) (PBx.cyc.eq_1 B s));clear hS hRo hT hM h1 h2 h3 h hc q6 q7 q8 q9;obtain⟨f,hf⟩:∃f,B.L.pfrOf s=f:=⟨_,rfl⟩
 rw[hf] at HAN HC HRD;clear hf;obtain⟨bf,hbf⟩:∃b,B.L.frameB s=b:=⟨_,rfl⟩
 rw[hbf] at HAN HC HRD;clear hbf;go_enter Tryz.func11,Tryz.ntmps11
 go_wp2_with fail
 refine(uh HRD).mono ?_;rintro e w1 ⟨v1,rfl,⟨a1,a2,a3,n1,n2,n3,c1,c2,c3,rfl⟩,hF1,hb1⟩;have HB1:=zh hb1;clear q0 q1 q2 q3 q4 q5 HRD;cases bf with
 | false=>
  have HA2:=zh (show B.ans s=⟨#[33]⟩/\B.cyc s=B from ⟨(uh HAN).1,(uh HAN).2⟩);clear hF1 hb1;go_wp2
  go_ret
  have hb2:=(uh HB1).trans ((z01 w1 (.cells #[.slice a1 n1 c1,.slice a2 n2 c2,.slice a3 n3 c3] 76)).mono (uh HB1).size);refine⟨by rw[(uh HA2).1] <;> rfl,?_,Only.of_below hb2⟩;rw[(uh HA2).2];exact((uh HB).only (Only.of_below (F:=fun _=>False) hb2) (fun _ _ h=>h)).mono (fun b hb=>Or.inl hb) (grow_lt (uh HB).lt hb2.size)
 | true=>
  have HA2:=zh (show B.ans s=B.ansB f/\B.cyc s=B.s4 f from ⟨(uh HAN).1,(uh HAN).2⟩);have hCO:=uh HC rfl;have HCO:=zh hCO;have hfr:=hF1 rfl;have hD:=(uh HB).lt;have hbf0:BoxF w1 D (fun k=>w.heap.size<=k/\k < w1.heap.size) g B (.agg #[.slice a1 n1 c1,.slice a2 n2 c2,.slice a3 n3 c3]) f:=
   ⟨(uh HB).only (Only.of_below (F:=fun _=>False) hb1) (fun _ _ h=>h),hfr,fun b hb hd=>by have:=hD b hd; have:=hb.1; omega⟩
  obtain⟨W2,hW2⟩:∃W2,W2=w1.alloc (z0r (.slice a1 n1 c1) (.slice a2 n2 c2) (.slice a3 n3 c3)):=⟨_,rfl⟩
  have hbf2:=hbf0.below (z01 w1 (z0r (.slice a1 n1 c1) (.slice a2 n2 c2) (.slice a3 n3 c3)));have hfb2:=heap_alloc_new w1 (z0r (.slice a1 n1 c1) (.slice a2 n2 c2) (.slice a3 n3 c3));have hbw2:Below w.heap.size w W2:=by rw[hW2]; exact hb1.trans ((z01 w1 _).mono hb1.size)
  rw[<-hW2] at hbf2 hfb2;have HW2:=zh hbw2;have HF2:=zh hfb2;have HBF2:=zh hbf2;have H1:=zh (countLate_f D _ g B _ f W2 hbf2 hCO.g0.rl (fun x hx=>(hCO.g0.ok x hx).freed) hCO.T hCO.late);rw[hW2] at H1;have hz2:w1.heap.size < W2.heap.size:=by rw[hW2]; simp
  clear hF1 hfr hbf0 hbf2 hfb2 hbw2 hb1 hCO;go_wp2_with fail
  refine(uh H1).mono ?_;rw[<-hW2];rintro e w3 ⟨rfl,hB3,hO3⟩;have hDD:=(uh HB).lt;have hlw:w.heap.size<=w1.heap.size:=(uh HB1).size;have HS2:=zh (show Stg w W2 w1.heap.size (z0r (.slice a1 n1 c1) (.slice a2 n2 c2) (.slice a3 n3 c3)) D D (fun k=>w.heap.size<=k/\k < w1.heap.size) g B (.agg #[.slice a1 n1 c1,.slice a2 n2 c2,.slice a3 n3 c3]) f from ⟨uh HBF2,fun b hb=>Or.inl hb,Only.of_below (uh HW2),uh HF2⟩);have hS3:=(uh HS2).op hDD hlw hB3 hO3 (fun b hb=>by
   rcases hb with hb | hb
   ·exact Or.inl hb
   ·exact Or.inr hb.1)
  have HS3:=zh hS3;have HDD:=zh hDD;have hCO:=uh HCO;obtain⟨l1,l2,l3,l4,l5⟩:=lateN_pres B f B.sws.length;have hr1:(B.s1 f).rts=B.rts:=l2;have H2:=zh (stepRoutes_f _ _ g (B.s1 f) _ f w3 hS3.boxf (by rw[hr1]; exact hCO.g0.rl) (by rw[hr1]; exact hCO.g0.ok) hCO.gave);obtain⟨⟨y0,y1,y2⟩,-,qf⟩:=tri0 hS3.fr;clear hB3 hO3 hS3 hDD H1 HBF2 HW2 HF2 hCO l1 l2 l3 l4 l5 hr1 hW2;go_wp2_with fail
  refine(uh H2).mono ?_;rintro e w4 ⟨rfl,hB4,hO4⟩;have hS4:=(uh HS3).op (uh HDD) hlw hB4 hO4 (fun b hb=>by
   rcases hb with hb | hb
   ·exact Or.inl hb
   ·exact Or.inr hb.1)
  have HS4:=zh hS4;have H3:=zh (obey_any _ _ g (B.s2 f) _ f w4 hS4.boxf (uh HCO).w2 (uh HCO).cm);clear y0 y1 y2 qf;obtain⟨⟨y0,y1,y2⟩,-,qf⟩:=tri0 hS4.fr;clear hB4 hO4 hS4 H2 HS3 HS2;go_wp2_with fail
  refine(uh H3).mono ?_;rintro e w5 ⟨v5,rfl,D5,o5,hBs,hown5,hnd5⟩;have hS5:=(uh HS4).op (uh HDD) hlw hBs.boxf hBs.only (fun b hb=>(hBs.from_ b hb).imp id (fun h=>Nat.le_of_lt h));have HS5:=zh hS5;have H4:=zh (grantFromQueue_any _ _ g (B.s3 f) _ f w5 hS5.boxf (uh HCO).g3 (uh HCO).w3);have HO5:=zh (And.intro hown5 hnd5);obtain⟨av,cv,hv5⟩:=z02 hown5;subst hv5;clear y0 y1 y2 qf;obtain⟨⟨y0,y1,y2⟩,-,qf⟩:=tri0 hS5.fr;clear hBs hown5 hnd5 hS5 H3 HS4;go_wp2_with fail
  refine(uh H4).mono ?_;rintro e w6 ⟨v6,rfl,D6,o6,hBs,hown6,hnd6⟩;have hS6:=(uh HS5).op (uh HDD) hlw hBs.boxf hBs.only (fun b hb=>(hBs.from_ b hb).imp id (fun h=>Nat.le_of_lt h));have HS6:=zh hS6;have hown5':=own_only (uh HO5).1 hBs.only (uh HO5).2;have hCO:=uh HCO;have H5:=zh (answer_any g (B.s4 f) _ _ v6 f _ _ w6 hS6.boxf.box.at hS6.boxf.frame.at (Byts.ofOwn hown5' rfl) (Ints.ofOwn hown6 rfl) hCO.g4.1 hCO.g4.2.1 hCO.g4.2.2 hCO.sv.1 hCO.sv.2 hCO.da);obtain⟨a6,c6,hv6⟩:=z02 hown6;subst hv6;clear y0 y1 y2 qf;obtain⟨⟨y0,y1,y2⟩,-,qf⟩:=tri0 hS6.fr;clear hBs hown6 hnd6 hS6 H4 HS5 hown5' hCO HO5;go_wp2_with fail
  refine(uh H5).mono ?_;rintro e w7 ⟨rfl,hb7⟩;have hS6:=uh HS6;have HFIN:=zh (show PBoxIn w7 (grow D w w7) g (B.s4 f)/\Only D w w7 from ⟨(hS6.boxf.box.only (Only.of_below (F:=fun _=>False) hb7) (fun _ _ h=>h)).mono (fun b hb=>by
    have hlt:=hS6.boxf.box.lt b hb;rcases hS6.from_ b hb with h5 | h5
    ·exact Or.inl h5
    ·exact Or.inr ⟨h5.1,Nat.lt_of_lt_of_le hlt hb7.size⟩) (grow_lt (uh HDD) (Nat.le_trans hS6.only.size hb7.size)),hS6.only.trans (Only.of_below hb7)⟩)
  clear hb7 hS6 H5 y0 y1 y2;go_wp2
  go_ret
  exact⟨by rw[(uh HA2).1] <;> rfl,by rw[(uh HA2).2]; exact(uh HFIN).1,(uh HFIN).2⟩
def RBx.doA (C:RBx) (c x:Nat):Nat:=
 if c=114 then C.askA (x - 49) else if c=99 then (if C.canc (x - 65) then 107 else 110) else if C.failed.getD (x - 97) false then 109 else 110
def RBx.doC (C:RBx) (f:Fr) (c x:Nat):RBx:=
 if c=114 then C.ask (x - 49) else if c=99 then C.cancel f (x - 65) else if C.failed.getD (x - 97) false then { C with failed:=C.failed.set (x - 97) false } else C
end Go.Proofs.YtkbpocecbcaiiabGreatDoor
namespace Go.Proofs.YtkbpocecbcaiiabGreatDoor
open Go.RowKit
end Go.Proofs.YtkbpocecbcaiiabGreatDoor
namespace Go.Proofs.YtkbpocecbcaiiabGreatDoor
open Go.RowKit
theorem own_baseR {w:World} {b b':Nat} {e:TypeId} {sz:Nat} {v:Value} {n:Nat} {xs:List Value} (h:w.ownsRow b e sz v n xs) (hb:b'<=b):w.ownsRow b' e sz v n xs:=by
 refine⟨h.1,?_⟩;rcases h.2 with h2 | ⟨g,cap,cur,hv,hg,r⟩
 ·exact .inl h2
 ·exact .inr ⟨g,cap,cur,hv,Nat.le_trans hb hg,r⟩
theorem z35 {w w':World} {F:Nat->Prop} {b:Nat} {e:TypeId} {sz:Nat} {v:Value} {n:Nat} {xs:List Value} (h:w.ownsRow b e sz v n xs) (ho:Only F w w') (hn:∀k,v.ownBlock=some k->¬F k):w'.ownsRow b e sz v n xs:=
 z1w (P:=fun k=>k < w.heap.size/\¬F k) h (fun k hk=>ho.block k hk.1 hk.2) (fun k hk=>⟨(h.lt k hk).2,hn k hk⟩)
structure WatchOK (C:RBx) (f:Fr):Prop where
 sw:C.L.sw.length<=1000
 wl:C.wanted.length=C.L.sw.length
 fl:C.failed.length=C.L.sw.length
 dl:C.late.length=C.L.sw.length
 pl:f.rep.length=C.L.sw.length
 ll:C.lines.length<=C.L.rts.length
 r1:C.L.rts.length<=1000
 go:∀x,x∈C.lines->x.gone<=1000
 lb:∀x,x∈C.late->x<=1000
structure DoOK (C:RBx) (f:Fr):Prop where
 l:C.lines.length=C.L.rts.length
 st:C.sta.length=C.L.tns.length
 fl:C.failed.length=C.L.sw.length
 wl:C.waits.length<=1000
 ft:∀r,r < C.L.rts.length->(C.L.rt r).foot < f.occ.length
def RLnW (t:Nat):RLn:=⟨119,t,false,[],0,0⟩
end Go.Proofs.YtkbpocecbcaiiabGreatDoor
