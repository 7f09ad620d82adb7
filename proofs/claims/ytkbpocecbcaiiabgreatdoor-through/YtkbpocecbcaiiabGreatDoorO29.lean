import Derived.Test.YtkbpocecbcaiiabGreatDoorO28
namespace Go.Proofs.YtkbpocecbcaiiabGreatDoor
open Go.RowKit
def PBx.do1 (B:PBx) (f:PFr) (c:Nat×Nat):PBx:=if c.1=114 then B.ask c.2 else if c.1=99 then B.cancel f c.2 else if c.1=109 then B.mend c.2 else B
def PBx.doA (B:PBx) (c:Nat×Nat):Nat:=if c.1=114 then B.askA c.2 else if c.1=99 then (if B.cancB c.2 then 107 else 110) else if c.1=109 then (if (B.sw c.2).failed then 109 else 110) else 0
def PBx.doN (B:PBx) (f:PFr):Nat->PBx
 | 0=>B
 | k+1=>(B.doN f k).do1 f (f.cmds.getD k (0,0))
def PBx.doAs (B:PBx) (f:PFr) (k:Nat):List Nat:=(List.range k).map (fun j=>(B.doN f j).doA (f.cmds.getD j (0,0)))
theorem ask_waits (B:PBx) (t:Nat):(B.ask t).waits.length<=B.waits.length+1:=by
 unfold PBx.ask; split <;> simp
theorem do1_waits (B:PBx) (f:PFr) (c:Nat×Nat):(B.do1 f c).waits.length<=B.waits.length+1:=by
 unfold PBx.do1;split
 ·exact ask_waits B _
 ·split
  ·unfold PBx.cancel; split <;> simp[PBx.putR]
  ·split
   ·unfold PBx.mend; split <;> simp[PBx.putS]
   ·omega
theorem doN_waits (B:PBx) (f:PFr) (k:Nat):(B.doN f k).waits.length<=B.waits.length+k:=by
 induction k with
 | zero=>exact Nat.le_refl _
 | succ k ih=>have:=do1_waits (B.doN f k) f (f.cmds.getD k (0,0)); simp only[PBx.doN]; omega
structure Beside (w wr:World) (D D' P:Nat->Prop) (g:Nat) (B:PBx) (vfr:Value) (f:PFr) (o:Obj):Prop where
 boxf:BoxF wr D' P g B vfr f
 from_:∀b,D' b->D b\/w.heap.size < b
 only:Only D w wr
 fr:wr.heap[w.heap.size]?=some o
theorem Beside.op {w wr w2:World} {D D' P:Nat->Prop} {g:Nat} {B B':PBx} {vfr:Value} {f:PFr} {o:Obj} (h:Beside w wr D D' P g B vfr f o) (hD:∀b,D b->b < w.heap.size) (hb:BoxF w2 (grow D' wr w2) P g B' vfr f) (ho:Only D' wr w2):Beside w w2 D (grow D' wr w2) P g B' vfr f o:=by
 have hlt:=z0g h.fr;refine⟨hb,fun b hb=>?_,h.only.far ho (fun i hi hd=>?_),?_⟩
 ·rcases hb with hb | hb
  ·exact h.from_ b hb
  ·exact Or.inr (by omega)
 ·rcases h.from_ i hd with h1 | h1
  ·exact h1
  ·omega
 ·rw[ho.block _ hlt (fun hd=>by
   rcases h.from_ _ hd with h1 | h1
   ·have:=hD _ h1; omega
   ·omega)]
  exact h.fr
theorem Beside.below {w wr w2:World} {D D' P:Nat->Prop} {g:Nat} {B:PBx} {vfr:Value} {f:PFr} {o:Obj} (h:Beside w wr D D' P g B vfr f o) (hb:Below wr.heap.size wr w2):Beside w w2 D D' P g B vfr f o:=
 ⟨h.boxf.below hb,h.from_,h.only.trans (Only.of_below hb),(hb.block _ (z0g h.fr)).trans h.fr⟩
theorem Beside.grown {w wr w2:World} {D D' P:Nat->Prop} {g:Nat} {B:PBx} {vfr:Value} {f:PFr} {o o2:Obj} {row:Option Nat} (h:Beside w wr D D' P g B vfr f o) (hg:(wr.alloc o2).grownBy w2 row) (hrow:∀b,row=some b->¬D' b/\w.heap.size < b/\¬P b):Beside w w2 D D' P g B vfr f o:=by
 have ho:=only_grown hg;refine⟨⟨h.boxf.box.only ho (fun k hk e=>(hrow k e).1 hk),h.boxf.frame.only ho (fun k hk e=>(hrow k e).2.2 hk),h.boxf.apart⟩,h.from_,h.only.far ho (fun i hi e=>by have:=(hrow i e).2.1; omega),?_⟩;rw[ho.block _ (z0g h.fr) (fun e=>by have:=(hrow _ e).2.1; omega)];exact h.fr
theorem own_only {w w':World} {F:Nat->Prop} {b:Nat} {e:TypeId} {sz:Nat} {v:Value} {n:Nat} {xs:List Value} (h:w.ownsRow b e sz v n xs) (ho:Only F w w') (hn:∀k,v.ownBlock=some k->¬F k):w'.ownsRow b e sz v n xs:=
 z1w (P:=fun k=>k < w.heap.size/\¬F k) h (fun k hk=>ho.block k hk.1 hk.2) (fun k hk=>⟨(h.lt k hk).2,hn k hk⟩)
def ObeyP (w:World) (D P:Nat->Prop) (g:Nat) (B:PBx) (vfr:Value) (f:PFr) (as_:List Nat) (v:Value) (w':World):Prop:=
 ∃D' o,Beside w w' D D' P g B vfr f o/\w'.ownsRow (w.heap.size+1) 5 1 v as_.length (bytsV as_)/\∀b,v.ownBlock=some b->¬D' b
set_option maxRecDepth 100000 in
set_option maxHeartbeats 8000000 in
theorem obey_any (D P:Nat->Prop) (g:Nat) (B:PBx) (vfr:Value) (f:PFr) (w:World) (h:BoxF w D P g B vfr f) (hwl:B.waits.length<=500) (hcl:f.cmds.length<=100) :
  Calls Tryz.prog 36 #[.pointer (some ⟨g,0,none⟩),vfr] w fun e w'=>∃v,e=.returned v/\ObeyP w D P g (B.doN f f.cmds.length) vfr f (B.doAs f f.cmds.length) v w':=by
 obtain⟨vc,vo,vp,rfl,hc1,ho1,hp1⟩:=h.frame.at;obtain⟨ac,cc,rfl,-,-,c3⟩:=SlAt.open hc1;obtain⟨ao,co,rfl,-⟩:=SlAt.open ho1;obtain⟨ap,cp,rfl,-⟩:=SlAt.open hp1;have hb0:=z01 w (z0r (.slice ac f.cmds.length cc) (.slice ao f.occ.length co) (.slice ap f.rep.length cp));have HD:=zh h.box.lt;have HPL:=zh h.frame.1;have HS0:=zh (show Beside w (w.alloc (z0r (.slice ac f.cmds.length cc) (.slice ao f.occ.length co) (.slice ap f.rep.length cp))) D D P g B _ f (z0r (.slice ac f.cmds.length cc) (.slice ao f.occ.length co) (.slice ap f.rep.length cp)) from ⟨h.below hb0,fun b hb=>Or.inl hb,Only.of_below hb0,heap_alloc_new _ _⟩);obtain⟨i0,hi0⟩:=info_parts Tryz.infoByte;have HIB:=zh hi0;obtain⟨n,hn⟩:∃n,n=f.cmds.length:=⟨_,rfl⟩
 have HN:=zh hn;rw[<-hn] at hcl HS0 ⊢;clear h hc1 ho1 hp1 c3 hb0 hi0 hn;go_enter Tryz.func36,Tryz.ntmps36
 go_wp2
 go_loopw [5,12] (fun d i wr=>∃k:Nat,∃D',i=.int .i64 k/\k<=n/\Beside w wr D D' P g (B.doN f k) (.agg #[.slice ac n cc,.slice ao f.occ.length co,.slice ap f.rep.length cp]) f (z0r (.slice ac n cc) (.slice ao f.occ.length co) (.slice ap f.rep.length cp))/\wr.ownsRow (w.heap.size+1) 5 1 d k (bytsV (B.doAs f k))/\∀b,d.ownBlock=some b->¬D' b) (fun _ i _=>n - (intOf i).toNat)
 case atStart=>exact⟨0,D,rfl,Nat.zero_le _,uh HS0,World.ownsRow_nil _ _ _ _,fun b hb=>by cases hb⟩
 case round=>
  clear HS0;obtain⟨k,D',rfl,hk,hS,hown,hnd⟩:=hrel;have hwk:=doN_waits B f k;obtain⟨E,hE⟩:∃E,E=B.doN f k:=⟨_,rfl⟩
  rw[<-hE] at hS hwk;obtain⟨⟨y0,y1,y2⟩,-,qf⟩:=tri0 hS.fr;have hos:=hS.only.size;obtain⟨ah,ch,hvh⟩:=z02 hown;subst hvh;by_cases hlt:k < n
  ·have hkc:k < f.cmds.length:=by rw[<-uh HN]; exact hlt
   obtain⟨vc',vo',vp',he,hcc,-,-⟩:=hS.boxf.frame.at;simp only[Value.agg.injEq,Array.mk.injEq,List.cons.injEq,and_true] at he;obtain⟨rfl,rfl,rfl⟩:=he;obtain⟨ac',cc',he,hnc,hcm,c3⟩:=SlAt.open hcc;simp only[Value.slice.injEq] at he;obtain⟨gc,oc,hac,hgc,csc,-,hCc,hcc3⟩:=c3 k hkc;rw[<-he.1] at hac;subst hac;unfold CCmd cmdV at hCc;subst hCc;have x0:=hcc3 0 (by omega);have x1:=hcc3 1 (by omega);simp at x0 x1;rw[<-uh HN] at hnc;unfold maxLen at hcm;have l1:(k:Int) < n:=by omega
   have l0:(0:Int)<=k:=by omega
   have HNX:=zh (show B.doN f (k+1)=E.do1 f f.cmds[k] by
    rw[hE];show (B.doN f k).do1 f (f.cmds.getD k (0,0))=_;rw[z1f _ _ _ hkc])
   have HAX:=zh (show bytsV (B.doAs f (k+1))=bytsV (B.doAs f k)++[.int .u8 (E.doA f.cmds[k]:Nat)] by
    have e1:B.doAs f (k+1)=B.doAs f k++[E.doA f.cmds[k]]:=by
     unfold PBx.doAs;rw[List.range_succ,List.map_append,hE]
     congr 1
     show [(B.doN f k).doA (f.cmds.getD k (0,0))]=_;rw[z1f _ _ _ hkc]
    rw[e1]; exact z2g _ _)
   have hgcw:gc < wr.heap.size:=hgc;have hSa:=fun o=>hS.below (z01 wr o);have HSA:=zh hSa;have HOW:=zh (And.intro hown hnd);have HFIN:=zh (show ∀(o:Obj) (w1 w4:World) (E':PBx) (a:Nat) (g4 c4:Nat) (o2:Obj),BoxF w1 (grow D' (wr.alloc o) w1) P g E' (.agg #[.slice (some ⟨gc,oc,none⟩) n cc,.slice ao f.occ.length co,.slice ap f.rep.length cp]) f->Only D' (wr.alloc o) w1 →
     (w1.alloc o2).grownBy w4 (Value.slice ah k ch).ownBlock->((Value.slice ah k ch).ownBlock=some g4\/g4=w1.heap.size+1) →
     Beside w w4 D (grow D' (wr.alloc o) w1) P g E' (.agg #[.slice (some ⟨gc,oc,none⟩) n cc,.slice ao f.occ.length co,.slice ap f.rep.length cp]) f (z0r (.slice (some ⟨gc,oc,none⟩) n cc) (.slice ao f.occ.length co) (.slice ap f.rep.length cp))/\∀b,(Value.slice (some ⟨g4,0,none⟩) (k+1) c4).ownBlock=some b->¬grow D' (wr.alloc o) w1 b by
    intro o w1 w4 E' a g4 c4 o2 hB1 hO1 hg4 hat;have hS1:=(hSa o).op (uh HD) hB1 hO1;have hnot:∀b,(Value.slice ah k ch).ownBlock=some b->¬grow D' (wr.alloc o) w1 b/\w.heap.size < b/\¬P b:=by
     intro b hb;have hlt5:=hown.lt b hb;refine⟨fun hh=>?_,by omega,fun hp=>by have:=uh HPL b hp; omega⟩;rcases hh with hh | hh
     ·exact hnd b hb hh
     ·have:=hh.1; simp at this; omega
    refine⟨hS1.grown hg4 hnot,fun b hb hh=>?_⟩;have e':g4=b:=by simpa [Value.ownBlock] using hb
    subst e';rcases hat with h5 | h5
    ·exact(hnot g4 h5).1 hh
    ·have:=hS1.boxf.box.lt g4 hh; omega)
   have HOW1:=zh (show ∀(o:Obj) (w1:World),Only D' (wr.alloc o) w1->w1.ownsRow (w.heap.size+1) 5 1 (.slice ah k ch) k (bytsV (B.doAs f k)) from fun o w1 ho=>own_only (hown.alloc o) ho hnd);clear hSa hS hown hnd hcc hcc3 c3 hE he;obtain⟨c,hc⟩:∃c,f.cmds[k]=c:=⟨_,rfl⟩
   rw[hc] at x0 x1 HNX HAX;clear hc hkc;obtain⟨kd,nm⟩:=c;simp only at x0 x1;have hE1:E.waits.length<=1000:=by omega
   by_cases h1:kd=114
   ·have HN2:=zh (show B.doN f (k+1)=E.ask nm by rw[uh HNX]; unfold PBx.do1; rw[if_pos h1])
    have HA2:=zh (show E.doA (kd,nm)=E.askA nm by unfold PBx.doA; rw[if_pos h1]);rw[uh HA2] at HAX;have b1:((kd:Int)==114)=true:=by simp[h1]
    clear h1;go_wp2_with fail
    refine(request_f D' P g E _ f nm _ (uh HSA _).boxf hE1).mono ?_;rintro e w1 ⟨rfl,hB1,hO1⟩;have HR1:=zh (And.intro hB1 hO1);have hown1:=uh HOW1 _ w1 hO1;have hz1:=hO1.size;simp at hz1;clear hB1 hO1 x0 x1 y0 y1 y2;generalize E.askA nm=an at *;go_wp2_with (at_builtin; refine wpList_append_lies _ rfl _ _ 74 rfl (w.heap.size+1) 5 i0 (.int .u8 0) 1 1 Tryz.underlying74 (uh HIB).1 (uh HIB).2.1 (uh HIB).2.2.1 (uh HIB).2.2.2 rfl (by decide) (.slice ah k ch) k (bytsV (B.doAs f k)) rfl (hown1.alloc _) ⟨w1.heap.size,0,none⟩ 1 1 [.int .u8 (an:Nat)] rfl rfl (z0q _ _ _) (z0a rfl) (by decide) (by unfold maxLen; omega) (by omega) (by simp; omega) _ rfl ?_; intro g4 c4 w4 hown4 hgrow4 hat4 hlt4)
    have HF4:=zh (uh HFIN _ w1 w4 _ an g4 c4 _ (uh HR1).1 (uh HR1).2 hgrow4 (hat4.imp (fun e=>e) (fun e=>by rw[e]; simp)));exact⟨⟨k+1,_,by go_num,by omega,by rw[uh HN2]; exact(uh HF4).1,by rw[uh HAX]; exact hown4,(uh HF4).2⟩,by simp[intOf]; omega⟩
   ·have b1:((kd:Int)==114)=false:=by simp; omega
    by_cases h2:kd=99
    ·have HN2:=zh (show B.doN f (k+1)=E.cancel f nm by rw[uh HNX]; unfold PBx.do1; rw[if_neg h1,if_pos h2])
     have HA2:=zh (show E.doA (kd,nm)=(if E.cancB nm then 107 else 110) by unfold PBx.doA; rw[if_neg h1,if_pos h2]);rw[uh HA2] at HAX;have b2:((kd:Int)==99)=true:=by simp[h2]
     clear h1 h2;go_wp2_with fail
     refine(cancel_f D' P g E _ f nm _ (uh HSA _).boxf).mono ?_;rintro e w1 ⟨rfl,hB1,hO1⟩;have HR1:=zh (And.intro hB1 hO1);have hown1:=uh HOW1 _ w1 hO1;have hz1:=hO1.size;simp at hz1;clear hB1 hO1 x0 x1 y0 y1 y2;obtain⟨an,han⟩:∃an,(if E.cancB nm then 107 else 110:Nat)=an:=⟨_,rfl⟩
     rw[han] at HAX ⊢;clear han;go_wp2_with (at_builtin; refine wpList_append_lies _ rfl _ _ 74 rfl (w.heap.size+1) 5 i0 (.int .u8 0) 1 1 Tryz.underlying74 (uh HIB).1 (uh HIB).2.1 (uh HIB).2.2.1 (uh HIB).2.2.2 rfl (by decide) (.slice ah k ch) k (bytsV (B.doAs f k)) rfl (hown1.alloc _) ⟨w1.heap.size,0,none⟩ 1 1 [.int .u8 (an:Nat)] rfl rfl (z0q _ _ _) (z0a rfl) (by decide) (by unfold maxLen; omega) (by omega) (by simp; omega) _ rfl ?_; intro g4 c4 w4 hown4 hgrow4 hat4 hlt4)
     have HF4:=zh (uh HFIN _ w1 w4 _ an g4 c4 _ (uh HR1).1 (uh HR1).2 hgrow4 (hat4.imp (fun e=>e) (fun e=>by rw[e]; simp)));exact⟨⟨k+1,_,by go_num,by omega,by rw[uh HN2]; exact(uh HF4).1,by rw[uh HAX]; exact hown4,(uh HF4).2⟩,by simp[intOf]; omega⟩
    ·have b2:((kd:Int)==99)=false:=by simp; omega
     by_cases h3:kd=109
     ·have HN2:=zh (show B.doN f (k+1)=E.mend nm by rw[uh HNX]; unfold PBx.do1; rw[if_neg h1,if_neg h2,if_pos h3])
      have HA2:=zh (show E.doA (kd,nm)=(if (E.sw nm).failed then 109 else 110) by unfold PBx.doA; rw[if_neg h1,if_neg h2,if_pos h3]);rw[uh HA2] at HAX;have b3:((kd:Int)==109)=true:=by simp[h3]
      clear h1 h2 h3;go_wp2_with fail
      refine(mend_f D' P g E _ f nm _ (uh HSA _).boxf).mono ?_;rintro e w1 ⟨rfl,hB1,hO1⟩;have HR1:=zh (And.intro hB1 hO1);have hown1:=uh HOW1 _ w1 hO1;have hz1:=hO1.size;simp at hz1;clear hB1 hO1 x0 x1 y0 y1 y2;obtain⟨an,han⟩:∃an,(if (E.sw nm).failed then 109 else 110:Nat)=an:=⟨_,rfl⟩
      rw[han] at HAX ⊢;clear han;go_wp2_with (at_builtin; refine wpList_append_lies _ rfl _ _ 74 rfl (w.heap.size+1) 5 i0 (.int .u8 0) 1 1 Tryz.underlying74 (uh HIB).1 (uh HIB).2.1 (uh HIB).2.2.1 (uh HIB).2.2.2 rfl (by decide) (.slice ah k ch) k (bytsV (B.doAs f k)) rfl (hown1.alloc _) ⟨w1.heap.size,0,none⟩ 1 1 [.int .u8 (an:Nat)] rfl rfl (z0q _ _ _) (z0a rfl) (by decide) (by unfold maxLen; omega) (by omega) (by simp; omega) _ rfl ?_; intro g4 c4 w4 hown4 hgrow4 hat4 hlt4)
      have HF4:=zh (uh HFIN _ w1 w4 _ an g4 c4 _ (uh HR1).1 (uh HR1).2 hgrow4 (hat4.imp (fun e=>e) (fun e=>by rw[e]; simp)));exact⟨⟨k+1,_,by go_num,by omega,by rw[uh HN2]; exact(uh HF4).1,by rw[uh HAX]; exact hown4,(uh HF4).2⟩,by simp[intOf]; omega⟩
     ·have HN2:=zh (show B.doN f (k+1)=E by rw[uh HNX]; unfold PBx.do1; rw[if_neg h1,if_neg h2,if_neg h3])
      have HA2:=zh (show E.doA (kd,nm)=0 by unfold PBx.doA; rw[if_neg h1,if_neg h2,if_neg h3]);rw[uh HA2] at HAX;have b3:((kd:Int)==109)=false:=by simp; omega
      have hown0:=(uh HOW).1;have hnd0:=zh (uh HOW).2;clear h1 h2 h3 y0 y1 y2;go_wp2_with (at_builtin; refine wpList_append_lies _ rfl _ _ 74 rfl (w.heap.size+1) 5 i0 (.int .u8 0) 1 1 Tryz.underlying74 (uh HIB).1 (uh HIB).2.1 (uh HIB).2.2.1 (uh HIB).2.2.2 rfl (by decide) (.slice ah k ch) k (bytsV (B.doAs f k)) rfl ((hown0.alloc _).alloc _) ⟨wr.heap.size+1,0,none⟩ 1 1 [.int .u8 0] rfl rfl (z0t (wr.alloc _) [.int .u8 0] _ _ (by simp)) (z0a rfl) (by decide) (by unfold maxLen; omega) (by omega) (by simp; omega) _ rfl ?_; intro g4 c4 w4 hown4 hgrow4 hat4 hlt4)
      have HF4:=zh (uh HFIN _ _ w4 _ 0 g4 c4 _ ((uh HSA _).boxf.up (Below.refl _ _)) (Only.refl _ _) hgrow4 (hat4.imp (fun e=>e) (fun e=>by rw[e]; simp)));exact⟨⟨k+1,_,by go_num,by omega,by rw[uh HN2]; exact(uh HF4).1,by rw[uh HAX]; exact hown4,(uh HF4).2⟩,by simp[intOf]; omega⟩
  ·obtain rfl:k=n:=by omega
   have l1:¬(k:Int) < k:=by omega
   have HF:=zh (And.intro hS (And.intro hown hnd));have HEE:=zh hE;clear hS hown hnd y0 y1 y2 hE;go_wp2
   go_ret
   refine⟨_,rfl,D',_,by rw[<-uh HEE]; exact(uh HF).1,?_,(uh HF).2.2⟩;have:=(uh HF).2.1
   simpa [PBx.doAs] using this
def PRt.setB (x:PRt) (t:Nat):Bool:=x.ph != 46&&x.train==t
def PBx.setFor (B:PBx) (t:Nat):Bool:=(List.range B.rts.length).any (fun r=>(B.route r).setB t)
set_option maxHeartbeats 2000000 in
theorem hasRouteSet_any (g:Nat) (B:PBx) (t:Nat) (w:World) (h:PBoxAt w g B) (hr:B.rts.length<=1000) :
  Calls Tryz.prog 113 #[.pointer (some ⟨g,0,none⟩),.int .i64 t] w fun e w'=>e=.returned (.bool (B.setFor t))/\w'=w:=by
 obtain⟨vs,vr,vt,vl,vw,va,vq,hB,-,hL,-⟩:=h;obtain⟨al,cl,rfl,-,hml,l3⟩:=SlAt.open hL;obtain⟨⟨-,-,-,-,-,-,q6,-⟩,-,qg⟩:=box10 hB;have HK:=zh (show ∀k (h:k < B.rts.length),(B.route k).setB t=(B.rts[k].ph != 46&&B.rts[k].train==t) by
  intro k h;unfold PBx.route PRt.setB;rw[z1f _ _ _ h])
 obtain⟨Z,hZ⟩:∃Z,Z=B.setFor t:=⟨_,rfl⟩
 rw[<-hZ];unfold PBx.setFor at hZ;generalize hff:(fun r=>(B.route r).setB t)=f at hZ;have HK2:=zh (show ∀k (h:k < B.rts.length),f k=(B.rts[k].ph != 46&&B.rts[k].train==t) by
  intro k h; rw[<-hff]; exact uh HK k h)
 clear HK hff;generalize B.rts=ls at *;unfold maxLen at hml;have HZ:=zh hZ;clear hL hB hZ;go_enter Tryz.func113,Tryz.ntmps113
 go_wp2
 go_loopw [11] (fun i wr=>∃k:Nat,k<=ls.length/\i=.int .i64 k/\(∀j,j < k->f j=false)/\wr=w) (fun i _=>ls.length - (intOf i).toNat)
 case atStart=>exact⟨0,Nat.zero_le _,rfl,fun j h=>by omega,rfl⟩
 case round=>
  obtain⟨k,hk,rfl,hno,rfl⟩:=hrel;have HNO:=zh hno;clear hno;by_cases hlt:k < ls.length
  ·obtain⟨gl,ol,hal,hgl,cs,-,hC,hc⟩:=l3 k hlt
   subst hal;obtain⟨vp,vf,vm,rfl,-,-,-⟩:=hC;have c3:=hc 3 (by omega);have c4:=hc 4 (by omega);simp at c3 c4;have HIS:=zh (isSet_at gl (ol+k*9) ls[k].ph wr c3);have HF:=zh (uh HK2 k hlt);have e1:(k:Int) < ls.length:=by omega
   have e0:(0:Int)<=k:=by omega
   clear hc l3;have HNN:=zh (show f k=false->∀j,j < k+1->f j=false from fun h=>step_all (uh HNO) h);have HTR:=zh (show f k=true->Z=true by
    intro h; rw[uh HZ,anyr_true hlt h])
   obtain⟨b0,hb0⟩:∃b,(ls[k].ph != 46)=b:=⟨_,rfl⟩
   rw[hb0] at HIS HF;clear hb0;generalize ls[k].train=tr at *;go_wp2_with fail
   refine(uh HIS).mono ?_;rintro e w1 ⟨rfl,hw1⟩;subst hw1;cases b0 with
   | false=>
    have HN2:=zh (uh HNN (by rw[uh HF]; rfl));go_wp2
    exact⟨⟨k+1,by omega,by go_num,uh HN2,by trivial⟩,by simp[intOf]; omega⟩
   | true=>
    rw[Bool.true_and] at HF;by_cases ht:tr=t
    ·have b1:((tr:Int)==t)=true:=by simp[ht]
     have HZ2:=zh (uh HTR (by rw[uh HF]; simp[ht]));clear ht;go_wp2
     go_ret
     exact⟨z04 (uh HZ2).symm,rfl⟩
    ·have b1:((tr:Int)==t)=false:=by simp; omega
     have HN2:=zh (uh HNN (by rw[uh HF]; simp[ht]));clear ht;go_wp2
     exact⟨⟨k+1,by omega,by go_num,uh HN2,by trivial⟩,by simp[intOf]; omega⟩
  ·obtain rfl:k=ls.length:=by omega
   have HZ2:=zh (show Z=false by rw[uh HZ,anyr_false (uh HNO)]);clear l3;go_wp2
   go_ret
   exact⟨z04 (uh HZ2).symm,rfl⟩
def PBx.lockOK (B:PBx) (p:List (Nat×Nat)):Bool:=p.all (fun x=>!(B.lockedBy x.1).isSome)
set_option maxHeartbeats 2000000 in
theorem mayLock_any (g:Nat) (B:PBx) (vp vfr:Value) (p:List (Nat×Nat)) (f:PFr) (w:World) (h:PBoxAt w g B) (hp:Items w vp p) (hf:FrP w vfr f) (hr:B.rts.length<=1000) (hfr:∀x,x∈B.rts->x.freed<=1000) :
  Calls Tryz.prog 114 #[.pointer (some ⟨g,0,none⟩),vp,vfr] w fun e w'=>e=.returned (.bool (B.lockOK p&&f.freeB p))/\Below w.heap.size w w':=by
 have HLK:=zh (fun (x:Nat) (wz:World) (hz:Below w.heap.size w wz)=>isLocked_any g B x wz (h.below hz) hr hfr);have HFR:=zh (fun (wz:World) (hz:Below w.heap.size w wz)=>isFree_any vp _ p f wz (hp.keep (Keeps.below hz)) (hf.below hz));obtain⟨vc,vo,vr,rfl,h1,h2,h3⟩:=hf;obtain⟨ac,cc,rfl,-⟩:=SlAt.open h1;obtain⟨ao,co,rfl,-⟩:=SlAt.open h2;obtain⟨ap,cp,rfl,-⟩:=SlAt.open h3;obtain⟨ai,ci,rfl,hpl,hm,p3⟩:=SlAt.open hp;unfold maxLen at hm;obtain⟨Z,hZ⟩:∃Z,Z=(B.lockOK p&&f.freeB p):=⟨_,rfl⟩
 rw[<-hZ];unfold PBx.lockOK at hZ;have HZ:=zh hZ;have HFB:=zh (heap_alloc_new w (z0r (.slice ac f.cmds.length cc) (.slice ao f.occ.length co) (.slice ap f.rep.length cp)));have HW0:=zh (z01 w (z0r (.slice ac f.cmds.length cc) (.slice ao f.occ.length co) (.slice ap f.rep.length cp)));clear h1 h2 h3 hp hZ h hfr;go_enter Tryz.func114,Tryz.ntmps114
 go_wp2
 go_loopw [11] (fun i wr=>∃k:Nat,i=.int .i64 k/\k<=p.length/\(∀j,j < k->∀h:j < p.length,(!(B.lockedBy p[j].1).isSome)=true)/\Below w.heap.size w wr/\wr.heap[w.heap.size]?=some (z0r (.slice ac f.cmds.length cc) (.slice ao f.occ.length co) (.slice ap f.rep.length cp))) (fun i _=>p.length - (intOf i).toNat)
 case atStart=>exact⟨0,rfl,Nat.zero_le _,fun j h=>by omega,uh HW0,uh HFB⟩
 case round=>
  clear HFB HW0;obtain⟨k,rfl,hk,hno,hb,hfb⟩:=hrel;have HNO:=zh hno;have HB:=zh hb;have HFB:=zh hfb;have hbs:=hb.size;have hwz:w.heap.size < wr.heap.size:=z0g hfb;clear hno;by_cases hlt:k < p.length
  ·obtain⟨gp,op,hap,hgp,csp,-,hCp,hcp⟩:=p3 k hlt
   subst hap;unfold CItem itemV at hCp;subst hCp;have x0:=hcp 0 (by omega);have x1:=hcp 1 (by omega);rw[<-hb.cell (p:=⟨gp,_,none⟩) hgp] at x0 x1;simp at x0 x1;have l1:(k:Int) < p.length:=by omega
   have l0:(0:Int)<=k:=by omega
   have hgw:gp < wr.heap.size:=by omega
   have HFD:=zh (show (!(B.lockedBy p[k].1).isSome)=false->Z=false by
    intro h; rw[uh HZ,z34 hlt h]; rfl)
   have HNN:=zh (show (!(B.lockedBy p[k].1).isSome)=true->∀j,j < k+1->∀h:j < p.length,(!(B.lockedBy p[j].1).isSome)=true by
    intro h j hj hj2;by_cases hj':j < k
    ·exact uh HNO j hj' hj2
    ·obtain rfl:j=k:=by omega
     exact h)
   have HOK:=zh (uh HLK p[k].1);clear hcp p3 hb hfb;generalize p[k].1=x at *;generalize p[k].2=x2 at *;go_wp2_with fail
   refine(uh HOK _ ((uh HB).alloc hbs _)).mono ?_;rintro e w1 ⟨rfl,hb1⟩;have HB2:=zh (((uh HB).alloc hbs _).trans (hb1.mono (by simp; omega)));have HF2:=zh ((hb1.block w.heap.size (by simp; omega)).trans ((Below.heap_alloc _ _ _ hwz).trans (uh HFB)));clear hb1 x0 x1;generalize (B.lockedBy x).isSome=z at *;cases z with
   | true=>
    have HZ2:=zh (uh HFD rfl);go_wp2
    go_ret
    exact⟨z04 (uh HZ2).symm,uh HB2⟩
   | false=>
    have HN2:=zh (uh HNN rfl);go_wp2
    exact⟨⟨k+1,by go_num,by omega,uh HN2,uh HB2,uh HF2⟩,by simp[intOf]; omega⟩
  ·have HZ2:=zh (show Z=f.freeB p by
    rw[uh HZ,z3y (fun j hj=>uh HNO j (by omega) hj),Bool.true_and])
   have l1:¬(k:Int) < p.length:=by omega
   obtain⟨⟨y0,y1,y2⟩,-,qf⟩:=tri0 hfb;clear p3 hb hfb;go_wp2_with fail
   refine(uh HFR wr (uh HB)).mono ?_;rintro e w1 ⟨rfl,hb1⟩;have HB2:=zh ((uh HB).trans (hb1.mono hbs));clear hb1 y0 y1 y2;go_wp2
   go_ret
   exact⟨z04 (uh HZ2).symm,uh HB2⟩
def PBx.wantedAs (B:PBx) (s c:Nat):Bool:=decide (s < B.sws.length)&&(B.sw s).wanted==c
set_option maxHeartbeats 1000000 in
theorem isWantedAs_any (g:Nat) (B:PBx) (s c:Nat) (w:World) (h:PBoxAt w g B) :
  Calls Tryz.prog 152 #[.pointer (some ⟨g,0,none⟩),.int .i64 s,.int .u8 c] w fun e w'=>e=.returned (.bool (B.wantedAs s c))/\w'=w:=by
 obtain⟨vs,vr,vt,vl,vw,va,vq,hB,-,-,hW,-⟩:=h;obtain⟨⟨-,-,-,-,-,-,-,q7,-⟩,-,qg⟩:=box10 hB;obtain⟨ai,ci,rfl,hpl,hm,p3⟩:=SlAt.open hW;unfold maxLen at hm;obtain⟨Z,hZ⟩:∃Z,Z=B.wantedAs s c:=⟨_,rfl⟩
 rw[<-hZ];unfold PBx.wantedAs PBx.sw at hZ;generalize B.sws=p at *;have l0:(0:Int)<=s:=by omega
 clear hB hW;by_cases hk:s < p.length
 ·rw[decide_eq_true hk,Bool.true_and,z1f _ _ _ hk] at hZ
  obtain⟨gp,op,rfl,hgp,csp,-,hCp,hcp⟩:=p3 s hk;unfold CPSw swV at hCp;subst hCp;have x0:=hcp 0 (by omega);simp at x0;have l1:(s:Int) < p.length:=by omega
  clear hcp p3;generalize p[s].wanted=x at *;have HZ:=zh (show ((x:Int)==(c:Int))=Z by rw[hZ,Bool.eq_iff_iff]; simp; omega);clear hZ hk;go_enter Tryz.func152,Tryz.ntmps152
  go_wp2
  go_ret
  exact⟨z04 (by have:=uh HZ; first | exact this | (rw[<-this]; done)),rfl⟩
 ·rw[decide_eq_false hk,Bool.false_and] at hZ
  subst hZ;have l1:¬(s:Int) < p.length:=by omega
  clear p3 hk;go_enter Tryz.func152,Tryz.ntmps152
  go_wp2
  go_ret
  exact⟨rfl,rfl⟩
def PBx.wantOK1 (B:PBx) (f:PFr) (x:Nat×Nat):Bool:=B.wantedAs x.1 x.2||!(B.heldB x.1||f.occ.getD x.1 false)
def PBx.wantOK (B:PBx) (f:PFr) (l:List (Nat×Nat)):Bool:=!B.anyF l&&l.all (B.wantOK1 f)
set_option maxRecDepth 100000 in
set_option maxHeartbeats 4000000 in
theorem mayWant_any (g:Nat) (B:PBx) (vp vfr:Value) (p:List (Nat×Nat)) (f:PFr) (w:World) (h:PBoxAt w g B) (hp:Items w vp p) (hf:FrP w vfr f) (hr:B.rts.length<=1000) (hfr:∀x,x∈B.rts->x.freed<=1000) :
  Calls Tryz.prog 115 #[.pointer (some ⟨g,0,none⟩),vp,vfr] w fun e w'=>e=.returned (.bool (B.wantOK f p))/\Below w.heap.size w w':=by
 have HAF:=zh (fun (wz:World) (hz:Below w.heap.size w wz)=>anyFailed_any g B vp p wz (h.below hz) (hp.keep (Keeps.below hz)));have HWA:=zh (fun (x c:Nat) (wz:World) (hz:Below w.heap.size w wz)=>isWantedAs_any g B x c wz (h.below hz));have HHD:=zh (fun (x:Nat) (wz:World) (hz:Below w.heap.size w wz)=>isHeld_any g B x wz (h.below hz) hr hfr);have HOC:=zh (fun (x:Nat) (wz:World) (hz:Below w.heap.size w wz)=>occ_any _ f x wz (hf.below hz));obtain⟨vc,vo,vr,rfl,h1,h2,h3⟩:=hf;obtain⟨ac,cc,rfl,-⟩:=SlAt.open h1;obtain⟨ao,co,rfl,-⟩:=SlAt.open h2;obtain⟨ap,cp,rfl,-⟩:=SlAt.open h3;obtain⟨ai,ci,rfl,hpl,hm,p3⟩:=SlAt.open hp;unfold maxLen at hm;obtain⟨Z,hZ⟩:∃Z,Z=B.wantOK f p:=⟨_,rfl⟩
 rw[<-hZ];unfold PBx.wantOK at hZ;have HZ:=zh hZ;have HFB:=zh (heap_alloc_new w (z0r (.slice ac f.cmds.length cc) (.slice ao f.occ.length co) (.slice ap f.rep.length cp)));have HW0:=zh (z01 w (z0r (.slice ac f.cmds.length cc) (.slice ao f.occ.length co) (.slice ap f.rep.length cp)));clear h1 h2 h3 hp hZ h hfr;go_enter Tryz.func115,Tryz.ntmps115
 go_wp2_with fail
 refine(uh HAF _ (uh HW0)).mono ?_;rintro e w1 ⟨rfl,hb1⟩;have hB1:=(uh HW0).trans (hb1.mono (by simp));have HB1:=zh hB1;have HF1:=zh ((hb1.block w.heap.size (by simp)).trans (uh HFB));clear hb1 hB1 HW0 HFB;obtain⟨ba,hba⟩:∃b,B.anyF p=b:=⟨_,rfl⟩
 rw[hba] at HZ ⊢;clear hba;cases ba with
 | true=>
  have HZ2:=zh (show Z=false from uh HZ);clear p3;go_wp2
  go_ret
  exact⟨z04 (uh HZ2).symm,uh HB1⟩
 | false=>
  have HZ1:=zh (show Z=p.all (B.wantOK1 f) from uh HZ);clear HZ;go_wp2
  go_loopw [14] (fun i wr=>∃k:Nat,i=.int .i64 k/\k<=p.length/\(∀j,j < k->∀h:j < p.length,B.wantOK1 f p[j]=true)/\Below w.heap.size w wr/\wr.heap[w.heap.size]?=some (z0r (.slice ac f.cmds.length cc) (.slice ao f.occ.length co) (.slice ap f.rep.length cp))) (fun i _=>p.length - (intOf i).toNat)
  case atStart=>exact⟨0,rfl,Nat.zero_le _,fun j h=>by omega,uh HB1,uh HF1⟩
  case round=>
   clear HF1 HB1;obtain⟨k,rfl,hk,hno,hb,hfb⟩:=hrel;have HNO:=zh hno;have HB:=zh hb;have HFB:=zh hfb;have hbs:=hb.size;have hwz:w.heap.size < wr.heap.size:=z0g hfb;clear hno;by_cases hlt:k < p.length
   ·obtain⟨gp,op,hap,hgp,csp,-,hCp,hcp⟩:=p3 k hlt
    subst hap;unfold CItem itemV at hCp;subst hCp;have x0:=hcp 0 (by omega);have x1:=hcp 1 (by omega);rw[<-hb.cell (p:=⟨gp,_,none⟩) hgp] at x0 x1;simp at x0 x1;have l1:(k:Int) < p.length:=by omega
    have l0:(0:Int)<=k:=by omega
    have hgw:gp < wr.heap.size:=by omega
    have HFD:=zh (show B.wantOK1 f p[k]=false->Z=false by
     intro h; rw[uh HZ1,z34 hlt h])
    have HNN:=zh (show B.wantOK1 f p[k]=true->∀j,j < k+1->∀h:j < p.length,B.wantOK1 f p[j]=true by
     intro h j hj hj2;by_cases hj':j < k
     ·exact uh HNO j hj' hj2
     ·obtain rfl:j=k:=by omega
      exact h)
    have HW1:=zh (show B.wantOK1 f p[k]=(B.wantedAs p[k].1 p[k].2||!(B.heldB p[k].1||f.occ.getD p[k].1 false)) from rfl);have HWK:=zh (uh HWA p[k].1 p[k].2);have HHK:=zh (uh HHD p[k].1);have HOK:=zh (uh HOC p[k].1);clear hcp p3 hb hfb HWA HHD HOC;obtain⟨q,hq⟩:∃q,p[k]=q:=⟨_,rfl⟩
    rw[hq] at x0 x1 HFD HNN HW1 HWK HHK HOK;clear hq;obtain⟨x,c⟩:=q;simp only at x0 x1 HW1 HWK HHK HOK;go_wp2_with fail
    refine(uh HWK _ ((uh HB).alloc hbs _)).mono ?_;rintro e w2 ⟨rfl,hw2⟩;have hB2:Below w.heap.size w w2:=by rw[hw2]; exact(uh HB).alloc hbs _
    have hx2:w2.heap[wr.heap.size]?=some (.cells #[.int .i64 x,.int .u8 c] 168 (0,0)):=by rw[hw2]; exact heap_alloc_new _ _
    have hf2:w2.heap[w.heap.size]?=some (z0r (.slice ac f.cmds.length cc) (.slice ao f.occ.length co) (.slice ap f.rep.length cp)):=by rw[hw2]; exact(Below.heap_alloc _ _ _ hwz).trans (uh HFB)
    have HB2:=zh hB2;have HX2:=zh hx2;have HF2:=zh hf2;have hz2:=hB2.size;obtain⟨⟨z0,z1⟩,-,qz⟩:=duo0 hx2;clear hw2 hB2 hx2 hf2 x0 x1;obtain⟨bw,hbw⟩:∃b,B.wantedAs x c=b:=⟨_,rfl⟩
    rw[hbw] at HW1 ⊢;clear hbw;cases bw with
    | true=>
     have HN2:=zh (uh HNN (by rw[uh HW1]; rfl));go_wp2
     exact⟨⟨k+1,by go_num,by omega,uh HN2,uh HB2,uh HF2⟩,by simp[intOf]; omega⟩
    | false=>
     rw[Bool.false_or] at HW1;go_wp2_with fail
     refine(uh HHK w2 (uh HB2)).mono ?_;rintro e w3 ⟨rfl,hb3⟩;have HB3:=zh ((uh HB2).trans (hb3.mono hz2));have HF3:=zh ((hb3.block w.heap.size (z0g (uh HF2))).trans (uh HF2));clear z0 z1;obtain⟨⟨z0,z1⟩,-,qz3⟩:=duo0 ((hb3.block _ qz).trans (uh HX2));obtain⟨⟨y0,y1,y2⟩,-,qf⟩:=tri0 (uh HF3);clear hb3;obtain⟨bh,hbh⟩:∃b,B.heldB x=b:=⟨_,rfl⟩
     rw[hbh] at HW1 ⊢;clear hbh;cases bh with
     | true=>
      have HZ2:=zh (uh HFD (by rw[uh HW1]; rfl));go_wp2
      go_ret
      exact⟨z04 (uh HZ2).symm,uh HB3⟩
     | false=>
      rw[Bool.false_or] at HW1;go_wp2_with fail
      refine(uh HOK w3 (uh HB3)).mono ?_;rintro e w4 ⟨rfl,hb4⟩;have HB4:=zh ((uh HB3).trans (hb4.mono (uh HB3).size));have HF4:=zh ((hb4.block w.heap.size (z0g (uh HF3))).trans (uh HF3));clear hb4 y0 y1 y2 z0 z1;obtain⟨bo,hbo⟩:∃b,f.occ.getD x false=b:=⟨_,rfl⟩
      rw[hbo] at HW1 ⊢;clear hbo;cases bo with
      | true=>
       have HZ2:=zh (uh HFD (by rw[uh HW1]; rfl));go_wp2
       go_ret
       exact⟨z04 (uh HZ2).symm,uh HB4⟩
      | false=>
       have HN2:=zh (uh HNN (by rw[uh HW1]; rfl));go_wp2
       exact⟨⟨k+1,by go_num,by omega,uh HN2,uh HB4,uh HF4⟩,by simp[intOf]; omega⟩
   ·have HZ2:=zh (show Z=true by
     rw[uh HZ1,z3y (fun j hj=>uh HNO j (by omega) hj)])
    have l1:¬(k:Int) < p.length:=by omega
    clear p3 hb hfb;go_wp2
    go_ret
    exact⟨z04 (uh HZ2).symm,uh HB⟩
def oneM (l:List Nat) (t:Nat):List Nat:=l.set t (l.getD t 0+1)
theorem oneM_get (l:List Nat) (t i:Nat) (h:i < l.length) (h':i < (oneM l t).length):(oneM l t)[i]=if i=t then l[i]+1 else l[i]:=by
 have h2:i < (l.set t (l.getD t 0+1)).length:=by simpa using h
 show (l.set t (l.getD t 0+1))[i]'h2=_;by_cases hi:t=i
 ·subst hi
  rw[List.getElem_set_self,if_pos rfl,z1f _ _ _ h]
 ·rw[List.getElem_set_ne hi,if_neg (fun e=>hi e.symm)]
set_option maxHeartbeats 2000000 in
theorem oneMore_any (v:Value) (l:List Nat) (t:Nat) (w:World) (h:Ints w v l) (hl:l.length<=1000) (hx:∀x,x∈l->x<=1000) :
  Calls Tryz.prog 116 #[v,.int .i64 t] w fun e w'=>∃a n c,e=.returned (.slice a n c)/\w'.ownsRow w.heap.size 3 1 (.slice a n c) l.length (intsV (oneM l t))/\Below w.heap.size w w':=by
 obtain⟨ai,ci,rfl,hpl,hm,p3⟩:=SlAt.open h;unfold maxLen at hm;obtain⟨i0,hi0⟩:=info_parts Tryz.infoInt;have HI:=zh hi0;have HX:=zh hx;have hol:(oneM l t).length=l.length:=by simp[oneM]
 clear hi0 h hx;go_enter Tryz.func116,Tryz.ntmps116
 go_wp2
 go_loopw [5,10] (fun d i wr=>∃k:Nat,i=.int .i64 k/\k<=l.length/\wr.ownsRow w.heap.size 3 1 d k (intsV ((oneM l t).take k))/\Below w.heap.size w wr) (fun _ i _=>l.length - (intOf i).toNat)
 case atStart=>exact⟨0,rfl,Nat.zero_le _,World.ownsRow_nil _ _ _ _,Below.refl _ _⟩
 case round=>
  obtain⟨k,rfl,hk,hown,hb⟩:=hrel;have HB:=zh hb;have hbs:=hb.size;by_cases hlt:k < l.length
  ·obtain⟨gp,op,hap,hgp,csp,-,hCp,hcp⟩:=p3 k hlt
   subst hap;unfold CInt at hCp;subst hCp;have x0:=hcp 0 (by omega);rw[<-hb.cell (p:=⟨gp,_,none⟩) hgp] at x0;simp at x0;have l1:(k:Int) < l.length:=by omega
   have l0:(0:Int)<=k:=by omega
   have hx1:=uh HX _ (List.getElem_mem hlt);have hkm:k < (oneM l t).length:=by rw[hol]; exact hlt
   have HSN:=zh (show intsV ((oneM l t).take (k+1))=intsV ((oneM l t).take k)++[.int .i64 ((if k=t then l[k]+1 else l[k]:Nat):Int)] by
    rw[List.take_succ_eq_append_getElem hkm,z0x,oneM_get _ _ _ hlt])
   obtain⟨ah,ch,hvh⟩:=z02 hown;subst hvh;clear hcp p3 hb hkm;generalize l[k]=x at *;by_cases hkt:k=t
   ·rw[if_pos hkt] at HSN
    have b1:((k:Int)==t)=true:=by simp[hkt]
    have HE:=zh (show (x:Int)+1=((x+1:Nat):Int) by omega);clear hkt;go_wp2_with (at_builtin; refine wpList_append_own _ rfl _ _ 49 rfl w.heap.size 3 i0 (.int .i64 0) 1 8 Tryz.underlying49 (uh HI).1 (uh HI).2.1 (uh HI).2.2.1 (uh HI).2.2.2 rfl (by decide) _ _ _ rfl (hown.alloc _) ⟨wr.heap.size,0,none⟩ 1 1 [.int .i64 ((x:Int)+1)] rfl rfl (z0q _ _ _) (z0a rfl) (by unfold maxLen; omega) (by omega) (by simp; omega) ?_; intro v' w2 hown2 hgrow _)
    exact⟨⟨k+1,by go_num,by omega,by rw[uh HSN,<-uh HE]; exact hown2,z0p (uh HB) hbs hown hgrow⟩,by simp[intOf]; omega⟩
   ·rw[if_neg hkt] at HSN
    have b1:((k:Int)==t)=false:=by simp; omega
    clear hkt;go_wp2_with (at_builtin; refine wpList_append_own _ rfl _ _ 49 rfl w.heap.size 3 i0 (.int .i64 0) 1 8 Tryz.underlying49 (uh HI).1 (uh HI).2.1 (uh HI).2.2.1 (uh HI).2.2.2 rfl (by decide) _ _ _ rfl (hown.alloc _) ⟨wr.heap.size,0,none⟩ 1 1 [.int .i64 (x:Nat)] rfl rfl (z0q _ _ _) (z0a rfl) (by unfold maxLen; omega) (by omega) (by simp; omega) ?_; intro v' w2 hown2 hgrow _)
    exact⟨⟨k+1,by go_num,by omega,by rw[uh HSN]; exact hown2,z0p (uh HB) hbs hown hgrow⟩,by simp[intOf]; omega⟩
  ·obtain rfl:k=l.length:=by omega
   rw[List.take_of_length_le (by omega)] at hown;have HOW:=zh hown;obtain⟨ah,ch,hvh⟩:=z02 hown;subst hvh;have l1:¬(l.length:Int) < l.length:=by omega
   clear hown hb p3 hol;go_wp2
   go_ret
   exact⟨_,_,_,rfl,uh HOW,uh HB⟩
theorem PM.newMk {w:World} {R:Nat->Prop} {g:Nat} {B:PBx} {vs vr vt vw va vq:Value} {qs:List Q3} {gl n cap r:Nat} {y:PRt} (h:PM w R g (B.putR r y) vs vr vt (.slice (some ⟨gl,0,none⟩) n cap) vw va vq qs) (hn:n=B.rts.length) (hr:r < B.rts.length) (hrq:r < qs.length)
  (m:Value) (bs:List Bool) (hm:w.ownsRow 0 4 1 m bs.length (z17 bs)) (hR:∀b,m.ownBlock=some b->¬R b/\∀i (hi:i < qs.length),i≠r->qs[i].2.2.ownBlock≠some b) :
  PM (w.setCell ⟨gl,r*9+7,none⟩ m) R g (B.putR r { y with marked:=bs }) vs vr vt (.slice (some ⟨gl,0,none⟩) n cap) vw va vq (qs.set r (qs[r].1,qs[r].2.1,m)):=by
 have hr':r < (B.putR r y).rts.length:=by simpa [PBx.putR] using hr
 have hy:(B.putR r y).rts[r]=y:=by simp[PBx.putR]
 have hlen:(B.putR r y).rts.length=B.rts.length:=by simp[PBx.putR]
 subst hn;have hT:=z2f h.routes (k:=gl) rfl;have kk:=fun e (n2:115≠e)=>Keeps.setCell ⟨gl,r*9+7,none⟩ m hT n2;have hs:SameOn R w (w.setCell ⟨gl,r*9+7,none⟩ m):=z16 (h.out gl (.inr (.inl rfl)));have hql:=h.qlen;rw[hlen] at hql;refine { box:=?_,plan:=?_,items:=?_,routes:=?_,qlen:=?_,marks:=?_,sws:=?_,sta:=?_,waits:=?_,smm:=?_,saq:=h.saq,out:=?_ }
 ·exact(kk _ (by decide) _ _ _ h.box).trans h.box
 ·exact h.plan.same hs (by simp[World.setCell])
 ·intro w' hw i a b
  have a':i < B.rts.length:=by simpa [PBx.putR] using a
  have b':i < qs.length:=by simpa using b
  have:=(h.items.same hs) w' hw i (by rw[hlen]; exact a') b';by_cases hi:r=i
  ·subst hi
   rw[hy] at this
   simpa [PBx.putR] using this
  ·simpa [PBx.putR,List.getElem_set_ne hi] using this
 ·have h0:=h.routes
  rw[hlen] at h0;have h1:=(h0.stored (r*9+7) m).1;rw[flat_setP _ 9 r 7 (z5m _ _) (by rw[prtsV_len _ _ h.qlen,hlen]; exact hr) m (by omega),prtsV_get _ _ _ _ hr' hrq,hy] at h1;have e:(prtV y qs[r]).set 7 m=prtV { y with marked:=bs } (qs[r].1,qs[r].2.1,m):=rfl;rw[e,<-prtsV_set] at h1
  simpa [PBx.putR] using h1
 ·simpa [PBx.putR] using hql
 ·intro i a b
  have a':i < qs.length:=by simpa using a
  have b':i < B.rts.length:=by simpa [PBx.putR] using b
  by_cases hi:r=i
  ·subst hi
   simpa [PBx.putR] using z06 hm (kk _ (by decide))
  ·have:=z06 (h.marks i a' (by rw[hlen]; exact b')) (kk _ (by decide))
   simpa [PBx.putR,List.getElem_set_ne hi] using this
 ·exact z06 h.sws (kk _ (by decide))
 ·exact z06 h.sta (kk _ (by decide))
 ·exact z06 h.waits (kk _ (by decide))
 ·intro i j hi hj hij b hb
  have hi':i < qs.length:=by simpa using hi
  have hj':j < qs.length:=by simpa using hj
  by_cases h1:r=i
  ·subst h1
   rw[List.getElem_set_ne hij];simp only[List.getElem_set_self] at hb;exact(hR b hb).2 j hj' (fun e=>hij e.symm)
  ·rw[List.getElem_set_ne h1] at hb
   by_cases h2:r=j
   ·subst h2
    simp only[List.getElem_set_self];intro hc;exact(hR b hc).2 i hi' (fun e=>h1 e.symm) hb
   ·rw[List.getElem_set_ne h2]
    exact h.smm i j hi' hj' hij b hb
 ·intro b hb
  rcases hb with hb | hb | hb | hb | hb | ⟨q,hq,hb⟩
  ·exact h.out b (.inl hb)
  ·exact h.out b (.inr (.inl hb))
  ·exact h.out b (.inr (.inr (.inl hb)))
  ·exact h.out b (.inr (.inr (.inr (.inl hb))))
  ·exact h.out b (.inr (.inr (.inr (.inr (.inl hb)))))
  ·rcases List.mem_or_eq_of_mem_set hq with h1 | h1
   ·exact h.out b (.inr (.inr (.inr (.inr (.inr ⟨q,h1,hb⟩)))))
   ·subst h1; exact(hR b hb).1
theorem PM.newSta {w:World} {R:Nat->Prop} {g:Nat} {B:PBx} {vs vr vt vl vw va vq:Value} {qs:List Q3} (h:PM w R g B vs vr vt vl vw va vq qs) (v:Value) (l:List Nat) (hv:w.ownsRow 0 3 1 v l.length (intsV l)) (hR:∀b,v.ownBlock=some b->¬R b/\vq.ownBlock≠some b) :
  PM (w.setCell ⟨g,8,none⟩ v) R g { B with sta:=l } vs vr vt vl vw v vq qs:=by
 have hT:Typed w g 86:=⟨_,_,h.box⟩
 have kk:=fun e (n2:86≠e)=>Keeps.setCell ⟨g,8,none⟩ v hT n2;have hs:SameOn R w (w.setCell ⟨g,8,none⟩ v):=z16 (h.out g (.inl rfl));refine { box:=?_,plan:=?_,items:=?_,routes:=?_,qlen:=h.qlen,marks:=?_,sws:=?_,sta:=?_,waits:=?_,smm:=h.smm,saq:=?_,out:=?_ }
 ·exact z0b v h.box
 ·exact h.plan.same hs (by simp[World.setCell])
 ·exact h.items.same hs
 ·exact z06 h.routes (kk _ (by decide))
 ·exact fun i a b=>z06 (h.marks i a b) (kk _ (by decide))
 ·exact z06 h.sws (kk _ (by decide))
 ·exact z06 hv (kk _ (by decide))
 ·exact z06 h.waits (kk _ (by decide))
 ·exact fun b hb=>(hR b hb).2
 ·intro b hb
  rcases hb with hb | hb | hb | hb | hb | hb
  ·exact h.out b (.inl hb)
  ·exact h.out b (.inr (.inl hb))
  ·exact h.out b (.inr (.inr (.inl hb)))
  ·exact(hR b hb).1
  ·exact h.out b (.inr (.inr (.inr (.inr (.inl hb)))))
  ·exact h.out b (.inr (.inr (.inr (.inr (.inr hb)))))
theorem PM.newWaits {w:World} {R:Nat->Prop} {g:Nat} {B:PBx} {vs vr vt vl vw va vq:Value} {qs:List Q3} (h:PM w R g B vs vr vt vl vw va vq qs) (v:Value) (l:List Nat) (hv:w.ownsRow 0 3 1 v l.length (intsV l)) (hR:∀b,v.ownBlock=some b->¬R b/\va.ownBlock≠some b) :
  PM (w.setCell ⟨g,9,none⟩ v) R g { B with waits:=l } vs vr vt vl vw va v qs:=by
 have hT:Typed w g 86:=⟨_,_,h.box⟩
 have kk:=fun e (n2:86≠e)=>Keeps.setCell ⟨g,9,none⟩ v hT n2;have hs:SameOn R w (w.setCell ⟨g,9,none⟩ v):=z16 (h.out g (.inl rfl));refine { box:=?_,plan:=?_,items:=?_,routes:=?_,qlen:=h.qlen,marks:=?_,sws:=?_,sta:=?_,waits:=?_,smm:=h.smm,saq:=?_,out:=?_ }
 ·exact z0b v h.box
 ·exact h.plan.same hs (by simp[World.setCell])
 ·exact h.items.same hs
 ·exact z06 h.routes (kk _ (by decide))
 ·exact fun i a b=>z06 (h.marks i a b) (kk _ (by decide))
 ·exact z06 h.sws (kk _ (by decide))
 ·exact z06 h.sta (kk _ (by decide))
 ·exact z06 hv (kk _ (by decide))
 ·exact fun b hb e=>(hR b e).2 hb
 ·intro b hb
  rcases hb with hb | hb | hb | hb | hb | hb
  ·exact h.out b (.inl hb)
  ·exact h.out b (.inr (.inl hb))
  ·exact h.out b (.inr (.inr (.inl hb)))
  ·exact h.out b (.inr (.inr (.inr (.inl hb))))
  ·exact(hR b hb).1
  ·exact h.out b (.inr (.inr (.inr (.inr (.inr hb)))))
def PRt.set (y:PRt) (t:Nat):PRt:={ y with ph:=119,train:=t,been:=false,marked:=List.replicate y.rt.path.length false,freed:=0 }
set_option maxRecDepth 100000 in
set_option maxHeartbeats 4000000 in
theorem set_any (R:Nat->Prop) (g:Nat) (B:PBx) (vs vr vt vw va vq:Value) (qs:List Q3) (gl n cl r:Nat) (y:PRt) (t:Nat) (w:World) (h:PM w R g (B.putR r y) vs vr vt (.slice (some ⟨gl,0,none⟩) n cl) vw va vq qs) (hn:n=B.rts.length) (hr:r < B.rts.length) (hrq:r < qs.length) (hpl:y.rt.path.length<=1000) :
  Calls Tryz.prog 117 #[.pointer (some ⟨gl,r*9,none⟩),.int .i64 t] w fun e w'=>e=.returned (.tuple #[])/\(∃m,PM w' R g (B.putR r (y.set t)) vs vr vt (.slice (some ⟨gl,0,none⟩) n cl) vw va vq (qs.set r (qs[r].1,qs[r].2.1,m))/\∀b,m.ownBlock=some b->w.heap.size<=b)/\Only (fun b=>b=gl) w w':=by
 obtain⟨hc,hC,hz,hgl,-⟩:=h.rAt hn hr hrq;obtain⟨vp0,vf0,vm0,hcs,hPP,-,-⟩:=hC;have c1:=hc 1 (by omega);have c3:=hc 3 (by omega);have c4:=hc 4 (by omega);have c5:=hc 5 (by omega);have c7:=hc 7 (by omega);have c8:=hc 8 (by omega);rw[hcs] at c1 c7;simp at c1 c7;simp[prtV] at c3 c4 c5 c8;have f3:=hz (r*9+3);have f4:=hz (r*9+4);have f5:=hz (r*9+5);have f7:=hz (r*9+7);have f8:=hz (r*9+8);obtain⟨ai,ci,rfl,-⟩:=SlAt.open hPP;have HM:=zh h;have HN:=zh hn;obtain⟨i3,hi3⟩:=info_parts Tryz.infoBool;have hmk:=fun (wz:World)=>run_make (P:=Tryz.prog) wz 48 4 i3 (.bool false) Tryz.underlying48 hi3.1 hi3.2.1 .i64 .i64 (y.rt.path.length:Int) (y.rt.path.length:Int) (by omega) (by omega) (by rw[hi3.2.2.2]; omega) (by omega);rw[hi3.2.2.1] at hmk;simp only[Int.toNat_natCast,Nat.mul_one] at hmk;have HST:=zh (PRt.set.eq_1 y t);have n1:gl≠w.heap.size:=by omega
 clear hc hz hcs hPP h hn hi3;obtain⟨np,hnp⟩:∃k,y.rt.path.length=k:=⟨_,rfl⟩
 rw[hnp] at c1 hmk hpl HST;clear hnp;have hms:(madeCells #[Value.bool false] np).size=np:=by
  have e:=congrArg List.length (toList_madeCells_one (Value.bool false) np)
  simpa using e
 go_enter Tryz.func117,Tryz.ntmps117
 go_wp2
 refine bodyPost_end (v:=.tuple #[]) (by simp[results,Tryz.results117,go_sem]) rfl ?_;have HT:=zh (show (madeCells #[Value.bool false] np).toList=z17 (List.replicate np false) by
  rw[toList_madeCells_one]; simp[z17])
 obtain⟨mc,hmcd⟩:∃mc,madeCells #[Value.bool false] np=mc:=⟨_,rfl⟩
 rw[hmcd] at HT hms ⊢;have h:=uh HM;have hn:=uh HN;have h3:=((h.setR hn hr 3 (by omega) (.int .u8 119) { y with ph:=119 } (fun q=>rfl) rfl rfl).setR hn hr 4 (by omega) (.int .i64 t) { y with ph:=119,train:=t } (fun q=>rfl) rfl rfl).setR hn hr 5 (by omega) (.bool false) { y with ph:=119,train:=t,been:=false } (fun q=>rfl) rfl rfl;obtain⟨W3,hW3⟩:∃W3,((w.setCell ⟨gl,r*9+3,none⟩ (.int .u8 119)).setCell ⟨gl,r*9+4,none⟩ (.int .i64 t)).setCell ⟨gl,r*9+5,none⟩ (.bool false)=W3:=⟨_,rfl⟩
 have hz3:W3.heap.size=w.heap.size:=by rw[<-hW3]; simp[World.setCell]
 have ho3:Only (fun b=>b=gl) w W3:=by
  rw[<-hW3];exact((Only.setCell (F:=fun b=>b=gl) (a:=⟨gl,r*9+3,none⟩) rfl _).trans (Only.setCell (F:=fun b=>b=gl) (a:=⟨gl,r*9+4,none⟩) rfl _)).trans (Only.setCell (F:=fun b=>b=gl) (a:=⟨gl,r*9+5,none⟩) rfl _)
 rw[hW3] at h3;have hown:=World.ownsRow_lit (base:=0) (e:=4) (size:=1) W3 mc np (Nat.zero_le _) (by unfold maxLen; omega) (by omega);rw[uh HT,hz3] at hown;have h4:=h3.below (z01 W3 (.cells mc 4));have h5:=h4.newMk hn hr hrq (.slice (some ⟨w.heap.size,0,none⟩) np np) (List.replicate np false) (by simpa using hown) (fun b hb=>by
  have hbw:b=w.heap.size:=by simpa [Value.ownBlock] using hb.symm
  subst hbw;refine⟨fun hR=>?_,fun i hi _ e=>?_⟩
  ·have:=h.plan.1 _ hR; omega
  ·have:=((h.marks i hi (by rw[<-h.qlen]; exact hi)).lt _ e).2; omega)
 have hrq2:r < (qs.set r (qs[r].1,qs[r].2.1,(.slice (some ⟨w.heap.size,0,none⟩) np np:Value))).length:=by simpa using hrq
 have h6:=h5.setR hn hr 8 (by omega) (.int .i64 0) { y with ph:=119,train:=t,been:=false,marked:=List.replicate np false,freed:=0 } (fun q=>rfl) rfl rfl;have hgl3:gl < W3.heap.size:=by rw[hz3]; exact hgl
 have ew:((W3.alloc (.cells mc 4)).setCell ⟨gl,r*9+7,none⟩ (.slice (some ⟨w.heap.size,0,none⟩) np np)).setCell ⟨gl,r*9+8,none⟩ (.int .i64 0) =
   ((W3.setCell ⟨gl,r*9+7,none⟩ (.slice (some ⟨w.heap.size,0,none⟩) np np)).setCell ⟨gl,r*9+8,none⟩ (.int .i64 0)).alloc (.cells mc 4):=by
  rw[World.setCell_alloc_past _ _ _ _ hgl3,World.setCell_alloc_past _ _ _ _ (by simpa [World.setCell] using hgl3)]
 rw[ew] at h6;rw[hW3];refine⟨rfl,⟨(.slice (some ⟨w.heap.size,0,none⟩) np np),by rw[uh HST]; exact h6,?_⟩,?_⟩
 ·intro b hb
  have hbw:w.heap.size=b:=by simpa [Value.ownBlock] using hb
  omega
 rw[<-ew];exact ho3.trans (((Only.of_below (z01 W3 (.cells mc 4))).trans (Only.setCell (F:=fun b=>b=gl) (a:=⟨gl,r*9+7,none⟩) rfl _)).trans (Only.setCell (F:=fun b=>b=gl) (a:=⟨gl,r*9+8,none⟩) rfl _))
def PBx.want1 (B:PBx) (x:Nat×Nat):PBx:=if x.1 < B.sws.length then B.putS x.1 { B.sw x.1 with wanted:=x.2 } else B
set_option maxRecDepth 100000 in
set_option maxHeartbeats 2000000 in
theorem want_any (R:Nat->Prop) (g:Nat) (B:PBx) (vs vr vt vl vw va vq:Value) (qs:List Q3) (s c:Nat) (w:World) (h:PM w R g B vs vr vt vl vw va vq qs) :
  Calls Tryz.prog 118 #[.pointer (some ⟨g,0,none⟩),.int .i64 s,.int .u8 c] w fun e w'=>e=.returned (.tuple #[])/\PM w' R g (B.want1 (s,c)) vs vr vt vl vw va vq qs/\Only (fun b=>vw.ownBlock=some b) w w':=by
 have HCC:=zh (PBx.want1.eq_1 B (s,c));have HUP:=zh (And.intro h (Only.refl (fun b=>vw.ownBlock=some b) w));obtain⟨⟨q0,q1,q2,q3,q4,q5,q6,q7,q8,q9⟩,-,qg⟩:=box10 h.box;obtain⟨aw,cw,hvw⟩:=z02 h.sws;subst hvw;have l0:(0:Int)<=s:=by omega
 by_cases hs:s < B.sws.length
 ·obtain⟨gw,cw',haw,hw1,hw2,hgw⟩:=z2w h.sws (by omega)
  simp only[Value.slice.injEq,true_and] at haw;obtain⟨rfl,rfl⟩:=haw;unfold maxLen at hw2;obtain⟨hc,hz,-⟩:=h.swCells rfl hs;have c0:=hc 0 (by omega);have f0:=hz (s*3+0);simp[swV] at c0 f0;have hsw:B.sw s=B.sws[s]:=z1f _ _ _ hs;rw[if_pos hs] at HCC;simp only[hsw] at HCC;have HMS:=zh (h.setSw rfl s 0 hs (by omega) (.int .u8 c) { B.sws[s] with wanted:=c } rfl);have HOO:=zh (Only.setCell (F:=fun b=>(Value.slice (some ⟨gw,0,none⟩) B.sws.length cw).ownBlock=some b) (w:=w) (a:=⟨gw,s*3,none⟩) rfl (.int .u8 c));have l1:(s:Int) < B.sws.length:=by omega
  clear hc hz h q0 q1 q2 q3 q4 q5 q6 q8 q9 hsw;obtain⟨xx,hxx⟩:∃x,B.sws[s]=x:=⟨_,rfl⟩
  rw[hxx] at HCC HMS c0;clear hxx;generalize B.sws.length=n at *;go_enter Tryz.func118,Tryz.ntmps118
  go_wp2
  refine bodyPost_end (v:=.tuple #[]) (by simp[results,Tryz.results118,go_sem]) rfl ?_;exact⟨rfl,by rw[uh HCC]; exact uh HMS,uh HOO⟩
 ·rw[if_neg hs] at HCC
  have l1:¬(s:Int) < B.sws.length:=by omega
  clear h q0 q1 q2 q3 q4 q5 q6 q8 q9 hs;generalize B.sws.length=n at *;go_enter Tryz.func118,Tryz.ntmps118
  go_wp2
  refine bodyPost_end (v:=.tuple #[]) (by simp[results,Tryz.results118,go_sem]) rfl ?_;exact⟨rfl,by rw[uh HCC]; exact(uh HUP).1,(uh HUP).2⟩
def PBoxQ (w:World) (D:Nat->Prop) (g:Nat) (B:PBx) (vq:Value):Prop:=∃R vs vr vt vl vw va qs,PM w R g B vs vr vt vl vw va vq qs/\(∀b,R b->D b)/\(∀b,D b->b < w.heap.size) ∧
 ∀b,(b=g\/vl.ownBlock=some b\/vw.ownBlock=some b\/va.ownBlock=some b\/vq.ownBlock=some b\/∃q,q∈qs/\q.2.2.ownBlock=some b)->D b
structure BoxQ (w:World) (D P:Nat->Prop) (g:Nat) (B:PBx) (vfr:Value) (f:PFr) (vq:Value):Prop where
 box:PBoxQ w D g B vq
 frame:FrPIn P w vfr f
 apart:∀b,P b->¬D b
theorem PBoxQ.in_ {w:World} {D:Nat->Prop} {g:Nat} {B:PBx} {vq:Value} (h:PBoxQ w D g B vq):PBoxIn w D g B:=by
 obtain⟨R,vs,vr,vt,vl,vw,va,qs,h,h1,h2,h3⟩:=h;exact⟨R,vs,vr,vt,vl,vw,va,vq,qs,h,h1,h2,h3⟩
theorem BoxF.q {w:World} {D P:Nat->Prop} {g:Nat} {B:PBx} {vfr:Value} {f:PFr} (h:BoxF w D P g B vfr f):∃vq,BoxQ w D P g B vfr f vq:=by
 obtain⟨R,vs,vr,vt,vl,vw,va,vq,qs,h',h1,h2,h3⟩:=h.box;exact⟨vq,⟨R,vs,vr,vt,vl,vw,va,qs,h',h1,h2,h3⟩,h.frame,h.apart⟩
theorem PBoxQ.only {w w':World} {D F:Nat->Prop} {g:Nat} {B:PBx} {vq:Value} (h:PBoxQ w D g B vq) (ho:Only F w w') (hd:∀k,D k->¬F k):PBoxQ w' D g B vq:=by
 obtain⟨R,vs,vr,vt,vl,vw,va,qs,h,h1,h2,h3⟩:=h;have hs:SameOn D w w':=fun k hk=>ho.block k (h2 k hk) (hd k hk);have hsR:SameOn R w w':=fun k hk=>hs k (h1 k hk);refine⟨R,vs,vr,vt,vl,vw,va,qs,{ h with box:=?_,plan:=?_,items:=?_,routes:=?_,marks:=?_,sws:=?_,sta:=?_,waits:=?_ },h1,fun k hk=>Nat.lt_of_lt_of_le (h2 k hk) ho.size,h3⟩
 ·exact(hs g (h3 g (.inl rfl))).trans h.box
 ·exact h.plan.same hsR ho.size
 ·exact h.items.same hsR
 ·exact z1w h.routes hs (fun k hk=>h3 k (.inr (.inl hk)))
 ·exact fun i a b=>z1w (h.marks i a b) hs (fun k hk=>h3 k (.inr (.inr (.inr (.inr (.inr ⟨_,List.getElem_mem a,hk⟩))))))
 ·exact z1w h.sws hs (fun k hk=>h3 k (.inr (.inr (.inl hk))))
 ·exact z1w h.sta hs (fun k hk=>h3 k (.inr (.inr (.inr (.inl hk)))))
 ·exact z1w h.waits hs (fun k hk=>h3 k (.inr (.inr (.inr (.inr (.inl hk))))))
theorem BoxQ.below {w w':World} {D P:Nat->Prop} {g:Nat} {B:PBx} {vfr:Value} {f:PFr} {vq:Value} (h:BoxQ w D P g B vfr f vq) (hb:Below w.heap.size w w'):BoxQ w' D P g B vfr f vq:=
 ⟨h.box.only (Only.of_below (F:=fun _=>False) hb) (fun _ _ h=>h),h.frame.below hb,h.apart⟩
theorem PBoxQ.mono {w:World} {D D':Nat->Prop} {g:Nat} {B:PBx} {vq:Value} (h:PBoxQ w D g B vq) (hd:∀b,D b->D' b) (hz:∀b,D' b->b < w.heap.size):PBoxQ w D' g B vq:=by
 obtain⟨R,vs,vr,vt,vl,vw,va,qs,h,h1,h2,h3⟩:=h;exact⟨R,vs,vr,vt,vl,vw,va,qs,h,fun b hb=>hd b (h1 b hb),hz,fun b hb=>hd b (h3 b hb)⟩
theorem BoxQ.up {w w':World} {D P:Nat->Prop} {g:Nat} {B:PBx} {vfr:Value} {f:PFr} {vq:Value} (h:BoxQ w D P g B vfr f vq) (hb:Below w.heap.size w w'):BoxQ w' (grow D w w') P g B vfr f vq:=
 ⟨(h.below hb).box.mono (fun b hb=>Or.inl hb) (grow_lt h.box.in_.lt hb.size),(h.below hb).frame,fun b hbP hh=>by
   rcases hh with hh | hh
   ·exact h.apart b hbP hh
   ·have:=h.frame.1 b hbP; omega⟩
theorem BoxQ.make {w w':World} {D P F:Nat->Prop} {g:Nat} {B:PBx} {vfr:Value} {f:PFr} {R:Nat->Prop} {vs vr vt vl vw va vq:Value} {qs:List Q3} (hD:∀b,D b->b < w.heap.size) (hA:∀b,P b->¬D b) (hPl:∀b,P b->b < w.heap.size) (hF:FrPIn P w' vfr f) (ho:Only F w w') (hFD:∀b,F b->D b)
  (h:PM w' R g B vs vr vt vl vw va vq qs) (hR:∀b,R b->D b) (hown:∀b,(b=g\/vl.ownBlock=some b\/vw.ownBlock=some b\/va.ownBlock=some b\/vq.ownBlock=some b\/∃q,q∈qs/\q.2.2.ownBlock=some b)->D b\/w.heap.size<=b) :
  BoxQ w' (grow D w w') P g B vfr f vq/\Only D w w':=by
 have hlt:∀b,(b=g\/vl.ownBlock=some b\/vw.ownBlock=some b\/va.ownBlock=some b\/vq.ownBlock=some b\/∃q,q∈qs/\q.2.2.ownBlock=some b)->b < w'.heap.size:=by
  rintro b (rfl | hb | hb | hb | hb | ⟨q,hq,hb⟩)
  ·exact z0g h.box
  ·exact(h.routes.lt b hb).2
  ·exact(h.sws.lt b hb).2
  ·exact(h.sta.lt b hb).2
  ·exact(h.waits.lt b hb).2
  ·obtain⟨i,hi,rfl⟩:=List.getElem_of_mem hq
   exact((h.marks i hi (by rw[<-h.qlen]; exact hi)).lt b hb).2
 refine⟨⟨⟨R,vs,vr,vt,vl,vw,va,qs,h,fun b hb=>Or.inl (hR b hb),grow_lt hD ho.size,fun b hb=>?_⟩,hF,fun b hb hh=>?_⟩,ho.mono hFD⟩
 ·rcases hown b hb with h1 | h1
  ·exact Or.inl h1
  ·exact Or.inr ⟨h1,hlt b hb⟩
 ·rcases hh with hh | hh
  ·exact hA b hb hh
  ·have:=hPl b hb; omega
structure St where
 done:Bool
 holds:Nat
 ahead:List Nat
def CSt (w:World) (x:St) (cs:List Value):Prop:=∃va,cs=[.bool x.done,.int .i64 x.holds,va]/\Ints w va x.ahead
theorem CSt.keep {w w':World} {x:St} {cs:List Value} (h:CSt w x cs) (k:Keeps 3 w w'):CSt w' x cs:=by
 obtain⟨va,e,a⟩:=h;exact⟨va,e,a.keep k⟩
def Sts (w:World) (v:Value) (l:List St):Prop:=SlAt 191 3 CSt w v l
theorem Sts.keep {w w':World} {v:Value} {l:List St} (h:Sts w v l) (k:Keeps 191 w w') (k1:Keeps 3 w w'):Sts w' v l:=SlAt.keep h k (fun _ _ h=>h.keep k1)
theorem Sts.below {w w':World} {v:Value} {l:List St} (h:Sts w v l) (k:Below w.heap.size w w'):Sts w' v l:=h.keep (.below k) (.below k)
def z2x (l:List St) (who:Nat):Bool:=(List.range l.length).all (fun i=>i==who||(l.getD i ⟨false,0,[]⟩).done||!(l.getD who ⟨false,0,[]⟩).ahead.contains (l.getD i ⟨false,0,[]⟩).holds)
theorem stD (l:List St) (i:Nat) (h:i < l.length):l.getD i ⟨false,0,[]⟩=l[i]:=by
 simp[List.getD_eq_getElem?_getD,List.getElem?_eq_getElem h]
set_option maxHeartbeats 400000 in
theorem has_any (v:Value) (l:List Nat) (x:Nat) (w:World) (h:Ints w v l) :
  Calls Tryz.prog 182 #[v,.int .i64 x] w fun e w'=>e=.returned (.bool (l.contains x))/\w'=w:=by
 obtain⟨ao,cap,rfl,h1,h2,h3⟩:=SlAt.open h;clear h;unfold maxLen at h2;generalize hz:l.contains x=z;have HZ:=zh hz;clear hz;go_enter Tryz.func182,Tryz.ntmps182
 go_wp2
 go_loop [9] (fun i=>∃k:Nat,i=.int .i64 k/\k<=l.length/\(∀j (hj:j < l.length),j < k->l[j]≠x)) (fun i=>l.length - (intOf i).toNat)
 case atStart=>exact⟨0,rfl,Nat.zero_le _,fun j _ h=>by omega⟩
 case round=>
  obtain⟨k,rfl,hk,hno⟩:=hrel;have HNO:=zh hno;clear hno;by_cases hlt:k < l.length
  ·obtain⟨g,off,hao,-,cs,-,hC,hc⟩:=h3 k hlt
   unfold CInt at hC;subst hC;have hc0:=hc 0 (by omega);simp at hc0;have hmem:=zh (List.getElem_mem hlt);clear hc h3;by_cases hx:l[k]=x
   ·have d:((l[k]:Int)==(x:Int))=true:=by simp; omega
    have HZ2:=zh (show z=true by rw[<-uh HZ,List.contains_iff_mem,<-hx]; exact uh hmem);clear hx;generalize l[k]=y at *;go_wp2
    go_ret
    exact⟨z04 (uh HZ2).symm,rfl⟩
   ·have d:((l[k]:Int)==(x:Int))=false:=by simp; omega
    have HNK:=zh (show ∀j (hj:j < l.length),j < k+1->l[j]≠x by
     intro j hj hjk;rcases Nat.lt_or_ge j k with h | h
     ·exact uh HNO j hj h
     ·obtain rfl:j=k:=by omega
      exact hx)
    clear hx;obtain⟨y,hy⟩:∃y,y=l[k]:=⟨_,rfl⟩
    rw[<-hy] at d hc0;clear hy hmem;go_wp2
    exact⟨⟨k+1,by go_num,by omega,uh HNK⟩,by simp[intOf]; omega⟩
  ·have HZ2:=zh (show z=false by
    rw[<-uh HZ];apply Bool.eq_false_iff.2;intro hc;rw[List.contains_iff_mem] at hc;obtain⟨j,hj,e⟩:=List.getElem_of_mem hc;exact uh HNO j hj (by omega) e)
   clear h3;go_wp2
   go_ret
   exact⟨z04 (uh HZ2).symm,rfl⟩
set_option maxHeartbeats 400000 in
theorem allDone_any (v:Value) (l:List St) (w:World) (h:Sts w v l) :
  Calls Tryz.prog 132 #[v] w fun e w'=>e=.returned (.bool (l.all (·.done)))/\Below w.heap.size w w':=by
 obtain⟨ao,cap,rfl,h1,h2,h3⟩:=SlAt.open h;clear h;unfold maxLen at h2;generalize hz:l.all (·.done)=z;have HZ:=zh hz;clear hz;go_enter Tryz.func132,Tryz.ntmps132
 go_wp2
 go_loopw [7] (fun i wr=>∃k:Nat,i=.int .i64 k/\k<=l.length/\(∀j (hj:j < l.length),j < k->l[j].done=true)/\Below w.heap.size w wr) (fun i _=>l.length - (intOf i).toNat)
 case atStart=>exact⟨0,rfl,Nat.zero_le _,fun j _ h=>by omega,Below.refl _ _⟩
 case round=>
  obtain⟨k,rfl,hk,hno,hb⟩:=hrel;have HNO:=zh hno;have HB:=zh hb;have hsz:=hb.size;clear hno;by_cases hlt:k < l.length
  ·obtain⟨g,off,hao,hg,cs,-,hC,hc⟩:=h3 k hlt
   subst hao;obtain⟨va,rfl,hI⟩:=hC;obtain⟨aa,ca,rfl,-,-,-⟩:=SlAt.open hI;have hc0:=hc 0 (by omega);have hc1:=hc 1 (by omega);have hc2:=hc 2 (by omega);rw[<-hb.cell (p:=⟨g,_,none⟩) hg] at hc0 hc1 hc2;simp at hc0 hc1 hc2;have hgw:g < wr.heap.size:=by omega
   have hmem:=zh (List.getElem_mem hlt);clear hc h3 hI hb;cases hd:l[k].done with
   | false=>
    have HZ2:=zh (show z=false by rw[<-uh HZ,List.all_eq_false]; exact⟨l[k],uh hmem,by simp[hd]⟩);rw[hd] at hc0;clear hd;generalize l[k]=y at *;go_wp2
    go_ret
    exact⟨z04 (uh HZ2).symm,(uh HB).alloc hsz _⟩
   | true=>
    have HNK:=zh (show ∀j (hj:j < l.length),j < k+1->l[j].done=true by
     intro j hj hjk;rcases Nat.lt_or_ge j k with h | h
     ·exact uh HNO j hj h
     ·obtain rfl:j=k:=by omega
      exact hd)
    rw[hd] at hc0;clear hd hmem;obtain⟨y,hy⟩:∃y,y=l[k]:=⟨_,rfl⟩
    rw[<-hy] at hc1 hc2;clear hy;go_wp2
    exact⟨⟨k+1,by go_num,by omega,uh HNK,(uh HB).alloc hsz _⟩,by simp[intOf]; omega⟩
  ·have HZ2:=zh (show z=true by
    rw[<-uh HZ,List.all_eq_true];intro y hy;obtain⟨j,hj,rfl⟩:=List.getElem_of_mem hy;exact uh HNO j hj (by omega))
   clear h3;go_wp2
   go_ret
   exact⟨z04 (uh HZ2).symm,hb⟩
end Go.Proofs.YtkbpocecbcaiiabGreatDoor
