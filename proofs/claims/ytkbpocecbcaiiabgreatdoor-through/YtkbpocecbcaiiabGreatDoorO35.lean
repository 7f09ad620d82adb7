import Derived.Test.YtkbpocecbcaiiabGreatDoorO34
namespace Go.Proofs.YtkbpocecbcaiiabGreatDoor
open Go.RowKit
def Lay.holdsAt (L:Lay) (t:Tn) (g:Nat):Nat:=if g=0 then t.start else L.endOf (t.jny.getD (g - 1) 0)
def Lay.aheadAt (L:Lay) (l:List Nat):List Nat:=l.flatMap (fun r=>secs (L.rt r).path)
def Lay.stAt (L:Lay) (t:Tn) (g:Nat):St:=⟨decide (t.jny.length<=g),L.holdsAt t (min t.jny.length g),L.aheadAt (t.jny.drop g)⟩
theorem grow_belowB {B B':Nat} {w wr w1:World} {o:Obj} {v:Value} {e:TypeId} {size n:Nat} {xs:List Value} (hb:Below B w wr) (hB:B<=wr.heap.size) (hBB:B<=B')
  (hown:wr.ownsRow B' e size v n xs) (hg:(wr.alloc o).grownBy w1 v.ownBlock):Below B w w1:=
 (hb.alloc hB o).grown hg (by simp; omega) (fun k hk=>Nat.le_trans hBB (hown.lt k hk).1)
def rtObj (R:Rt) (v1 v2:Value):Obj:=.cells #[.int .i64 R.foot,v1,v2] 113
theorem rt_after {wr w1:World} {R:Rt} {v1 v2:Value} (hb:Below wr.drew.heap.size wr.drew w1) (hV:VRt w1 (.agg #[.int .i64 R.foot,v1,v2]) R) :
  (w1.alloc (rtObj R v1 v2)).heap[w1.heap.size]?=some (rtObj R v1 v2)/\VRt (w1.alloc (rtObj R v1 v2)) (.agg #[.int .i64 R.foot,v1,v2]) R/\Below wr.heap.size wr (w1.alloc (rtObj R v1 v2)):=by
 have hb':Below wr.heap.size wr w1:=((Below.refl _ _).drew).trans hb;exact⟨heap_alloc_new _ _,hV.below (z01 _ _),hb'.alloc hb'.size _⟩
theorem rt_before {wr w1:World} {R:Rt} {z:Obj} {v1 v2:Value} (hb:Below (wr.alloc z).drew.heap.size (wr.alloc z).drew w1) (hV:VRt w1 (.agg #[.int .i64 R.foot,v1,v2]) R)
  (hz:w1.heap[wr.heap.size]?=some (.cells #[.int .i64 0,.slice none 0 0,.slice none 0 0] 113 (0,0))) :
  (((w1.setCell ⟨wr.heap.size,0,none⟩ (.int .i64 R.foot)).setCell ⟨wr.heap.size,1,none⟩ v1).setCell ⟨wr.heap.size,2,none⟩ v2).heap[wr.heap.size]?=some (rtObj R v1 v2) ∧
  VRt (((w1.setCell ⟨wr.heap.size,0,none⟩ (.int .i64 R.foot)).setCell ⟨wr.heap.size,1,none⟩ v1).setCell ⟨wr.heap.size,2,none⟩ v2) (.agg #[.int .i64 R.foot,v1,v2]) R ∧
  Below wr.heap.size wr (((w1.setCell ⟨wr.heap.size,0,none⟩ (.int .i64 R.foot)).setCell ⟨wr.heap.size,1,none⟩ v1).setCell ⟨wr.heap.size,2,none⟩ v2):=by
 have h0:Below wr.heap.size wr (wr.alloc z).drew:=(z01 wr z).drew;have hb':Below wr.heap.size wr w1:=h0.trans (hb.mono h0.size);refine⟨?_,?_,?_⟩
 ·exact z0b (j:=2) _ (z0b (j:=1) _ (z0b (j:=0) _ hz))
 ·obtain⟨vp,vf,e,a,b⟩:=hV
  have hk:=store3 (⟨_,_,hz⟩:Typed w1 wr.heap.size 113) (.int .i64 R.foot) v1 v2 168 (by decide);exact⟨vp,vf,e,a.keep hk,b.keep hk⟩
 ·exact((hb'.setCell (p:=⟨wr.heap.size,0,none⟩) (Nat.le_refl _) _).setCell (p:=⟨wr.heap.size,1,none⟩) (Nat.le_refl _) _).setCell (p:=⟨wr.heap.size,2,none⟩) (Nat.le_refl _) _
set_option maxHeartbeats 16000000 in
theorem trainAt_any (v vt:Value) (L:Lay) (t:Tn) (g:Nat) (w:World) (h:CLay w v L) (ht:VTn w vt t) (hp:L.Paths) (hj:∀r,r∈t.jny->r < L.rts.length)
  (hl:t.jny.length<=1000) (hpl:∀r,r∈L.rts->r.path.length<=1000) (hg:g<=1000) :
  Calls Tryz.prog 164 #[v,vt,.int .i64 g] w fun e w'=>∃a n c,e=.returned (.agg #[.bool (L.stAt t g).done,.int .i64 (L.stAt t g).holds,.slice a n c])/\Ints w' (.slice a n c) (L.stAt t g).ahead/\Below w.heap.size w w':=by
 have HL:=zh h;obtain⟨vs,vr,vtt,rfl,-,-,-⟩:=h;obtain⟨vj,rfl,hJ⟩:=ht;obtain⟨aj,cj,rfl,h1,h2,h3⟩:=SlAt.open hJ;unfold maxLen at h2;obtain⟨i0,hi0⟩:=info_parts Tryz.infoInt;have HI:=zh hi0;have HP:=zh hp;have HJ:=zh hj;have HPL:=zh hpl;clear hp hJ hi0 hj hpl;obtain⟨S,hS⟩:∃S,S=L.stAt t g:=⟨_,rfl⟩
 rw[<-hS];have HS:=zh hS;clear hS;go_enter Tryz.func164,Tryz.ntmps164
 go_wp2
 go_loopw [8] (fun i wr=>∃(k:Nat) (acc:List Nat) (va:Value),i=.int .i64 k/\k<=t.jny.length/\acc=L.aheadAt ((t.jny.take k).drop g)/\acc.length<=1000*k ∧
   wr.ownsRow (w.heap.size+4) 3 1 va acc.length (intsV acc) ∧
   wr.heap[w.heap.size+1+1]?=some (.cells #[.bool false,.int .i64 0,.slice none 0 0] 191 (0,0)) ∧
   wr.heap[w.heap.size+1+1+1]?=some (.cells #[.bool (decide (t.jny.length<=g)),.int .i64 (L.holdsAt t (min k g):Nat),va] 191 (0,0)) ∧
   Below (w.heap.size+2) ((w.alloc (z0n L vs vr vtt)).alloc (.cells #[.int .i64 t.start,.slice aj t.jny.length cj] 186)) wr) (fun i _=>t.jny.length - (intOf i).toNat)
 case atStart=>
  refine⟨0,[],_,rfl,Nat.zero_le _,by simp[Lay.aheadAt],by simp,World.ownsRow_nil _ _ _ _,?_,?_,?_⟩
  ·simpa [z0n] using blk1 ((w.alloc (z0n L vs vr vtt)).alloc (.cells #[.int .i64 t.start,.slice aj t.jny.length cj] 186)) (.cells #[.bool false,.int .i64 0,.slice none 0 0] 191) (.cells #[.bool (decide (t.jny.length<=g)),.int .i64 t.start,.slice none 0 0] 191)
  ·simpa [Lay.holdsAt,z0n] using blk2 ((w.alloc (z0n L vs vr vtt)).alloc (.cells #[.int .i64 t.start,.slice aj t.jny.length cj] 186)) (.cells #[.bool false,.int .i64 0,.slice none 0 0] 191) (.cells #[.bool (decide (t.jny.length<=g)),.int .i64 t.start,.slice none 0 0] 191)
  ·exact((Below.refl _ _).alloc (by simp) _).alloc (by simp) _
 case round=>
  obtain⟨k,acc,va,rfl,hk,hacc,hal,hown,hR,hO,hb⟩:=hrel;obtain⟨ah,ch,hva⟩:=z02 hown;subst hva;have HB:=zh hb;have HR:=zh hR;have HO:=zh hO;have HA:=zh hacc;have qs:=z1r hb;have b1:=blk1 w (z0n L vs vr vtt) (.cells #[.int .i64 t.start,.slice aj t.jny.length cj] 186);obtain⟨⟨q0,q1,q2,q3,q4,q5⟩,-,-⟩:=six0 ((hb.block _ (by omega)).trans b1);have b2:=blk2 w (z0n L vs vr vtt) (.cells #[.int .i64 t.start,.slice aj t.jny.length cj] 186);obtain⟨⟨t0,t1⟩,-,-⟩:=duo0 ((hb.block _ (by omega)).trans b2);clear b1 b2 hacc;by_cases hlt:k < t.jny.length
  ·obtain⟨gg,off,hao,hgg,cs,-,hC,hc⟩:=h3 k hlt
   subst hao;unfold CInt at hC;subst hC;have hc0:=hc 0 (by omega);rw[<-(z08 hb).cell (p:=⟨gg,_,none⟩) hgg] at hc0;simp at hc0;have HX:=zh (uh HJ _ (List.getElem_mem hlt));have HD:=zh (show t.jny.getD k 0=t.jny[k] by simp[List.getD_eq_getElem?_getD,List.getElem?_eq_getElem hlt]);have HTK:=zh (show t.jny.take (k+1)=t.jny.take k++[t.jny[k]] from (List.take_append_getElem hlt).symm);clear hc h3 hb hR hO;generalize t.jny[k]=x at *;have H1:=zh (fun (wz:World) (hz:Below w.heap.size w wz)=>RouteAt_any _ L x wz ((uh HL).below hz));rw[show decide (x < L.rts.length)=true from decide_eq_true (uh HX)] at H1;have l1:(k:Int) < t.jny.length:=by omega
   have hgw:gg < wr.heap.size:=by omega
   have hgw0:w.heap.size < wr.heap.size:=by omega
   have hmem:L.rt x∈L.rts:=by rw[rt_eq L x (uh HX)]; exact List.getElem_mem _
   have HNE:=zh (uh HP (L.rt x) hmem);have hpl:=uh HPL (L.rt x) hmem;have HEND:=zh (show L.endOf x=lastN (L.rt x).path from rfl);have HAH:=zh (show L.aheadAt [x]=secs (L.rt x).path by simp[Lay.aheadAt]);have l2:=z0g (uh HR);have l3:=z0g (uh HO);clear hmem;generalize L.rt x=R at *;go_wp2
   go_cut [9,10] (fun u u' wx=>∃(b:Nat) (a1 a2:Option Addr) (n1 n2 c1 c2:Nat),u=.pointer (some ⟨b,0,none⟩)/\u'=.bool true/\wx.heap[b]?=some (.cells #[.int .i64 R.foot,.slice a1 n1 c1,.slice a2 n2 c2] 113 (0,0))/\VRt wx (.agg #[.int .i64 R.foot,.slice a1 n1 c1,.slice a2 n2 c2]) R/\Below wr.heap.size wr wx)
   case first=>
    go_region_with (go_at_call 181; refine(uh H1 _ ?_).mono ?_; (first | exact(z08 (uh HB)).drew | exact((z08 (uh HB)).alloc (by omega) _).drew); rintro e w1 ⟨tt,a1,a2,n1,n2,c1,c2,rfl,hV,hb1⟩; have hv:=hV (uh HX); obtain⟨vp,vf,he,hI1,hI2⟩:=hv; simp only[Value.agg.injEq,Array.mk.injEq,List.cons.injEq,and_true,Value.int.injEq,true_and] at he; obtain⟨rfl,rfl,rfl⟩:=he; have HVV:=zh (show VRt w1 (.agg #[.int .i64 R.foot,.slice a1 n1 c1,.slice a2 n2 c2]) R from ⟨_,_,rfl,hI1,hI2⟩); clear hV hI1 hI2; (try (have hz:w1.heap[wr.heap.size]?=some (.cells #[.int .i64 0,.slice none 0 0,.slice none 0 0] 113 (0,0)):=(hb1.block wr.heap.size (by simp)).trans (heap_alloc_new wr.drew _); obtain⟨⟨z0,z1,z2⟩,⟨y0,y1,y2⟩,yq⟩:=tri0 hz)); have HB1:=zh hb1; clear hb1)
    all_goals
     first
      | (have H9:=zh (rt_before (uh HB1) (uh HVV) hz); clear HB1; go_wp2_with fail; go_meet; exact⟨_,_,_,_,_,_,_,rfl,rfl,(uh H9).1,(uh H9).2.1,(uh H9).2.2⟩)
      | (have H9:=zh (rt_after (uh HB1) (uh HVV)); clear HB1; go_wp2_with fail; go_meet; exact⟨_,_,_,_,_,_,_,rfl,rfl,(uh H9).1,(uh H9).2.1,(uh H9).2.2⟩)
   case rest=>
    obtain⟨b,a1,a2,n1,n2,c1,c2,rfl,rfl,hblk,hV,hb1⟩:=hcut;have HB1:=zh ((uh HB).trans (hb1.mono (B':=w.heap.size+2) (by omega)));have hz1:=hb1.size;have HR1:=zh ((hb1.block _ l2).trans (uh HR));have hO1:=(hb1.block _ l3).trans (uh HO);have HO1:=zh hO1;have hown1:=z0j hown hb1;have HV:=zh hV;obtain⟨⟨z0,z1,z2⟩,⟨y0,y1,y2⟩,yq⟩:=tri0 hblk;clear hV hb1 hc0 q0 q1 q2 q3 q4 q5 t0 t1 HR HO HB H1 hown hblk;by_cases hkg:k < g
    ·have hkg':(k:Int) < g:=by omega
     go_wp2_with fail
     refine(Last_any _ R _ (uh HV) (uh HNE)).mono ?_;rintro e w2 ⟨rfl,hb2⟩;have hO2:=(hb2.block _ (by omega)).trans (uh HO1);have hR2:=(hb2.block _ (by omega)).trans (uh HR1);have hown2:=z0j hown1 hb2;have hb3:=(uh HB1).trans (hb2.mono (B':=w.heap.size+2) (by omega));obtain⟨⟨o0,o1,o2⟩,⟨f0,f1,f2⟩,qo⟩:=tri0 hO2;have F:=zh (And.intro hO2 (And.intro hR2 (And.intro hown2 hb3)));clear hb2 hO2 hR2 hown2 hb3 hown1 z0 z1 z2 y0 y1 y2 yq;go_wp2
     have hx1:t.jny.getD k 0=x:=uh HD;refine⟨⟨k+1,acc,_,by go_num,by omega,?_,by omega,z3e (uh F).2.2.1 (w.heap.size+1+1+1) 1 _ ⟨_,_,(uh F).1⟩ (by decide),?_,?_,(uh F).2.2.2.setCell (p:=⟨w.heap.size+1+1+1,1,none⟩) (by show w.heap.size+2<=w.heap.size+1+1+1; omega) _⟩,by simp[intOf]; omega⟩
     ·rw[uh HA,uh HTK,List.drop_append]
      have e1:([x]:List Nat).drop (g - (t.jny.take k).length)=[]:=by
       apply List.drop_of_length_le; simp; omega
      rw[e1,List.append_nil]
     ·exact(Below.heap_setCell _ _ _ _ (by simp)).trans (uh F).2.1
     ·have:=z0b (j:=1) (.int .i64 (lastN R.path:Nat)) (uh F).1
      have e2:L.holdsAt t (min (k+1) g)=lastN R.path:=by
       rw[Nat.min_eq_left (by omega)];simp only[Lay.holdsAt,Nat.add_one_ne_zero,if_false,Nat.add_sub_cancel];rw[hx1,uh HEND]
      rw[e2];exact this
    ·have hkg':¬(k:Int) < g:=by omega
     obtain⟨vp,vf,he,hI1,hI2⟩:=uh HV;simp only[Value.agg.injEq,Array.mk.injEq,List.cons.injEq,and_true,true_and] at he;obtain⟨rfl,rfl⟩:=he;obtain⟨ap,cp,hsl,p1,p2,-⟩:=SlAt.open hI1;simp only[Value.slice.injEq] at hsl;obtain⟨rfl,rfl,rfl⟩:=hsl;unfold maxLen at p2;have HI1:=zh hI1;clear hI1 hI2 HV hO1;go_wp2
     go_loopw [49] (fun i wi=>∃(m:Nat) (va:Value),i=.int .i64 m/\m<=R.path.length ∧
       wi.ownsRow (w.heap.size+4) 3 1 va (acc.length+m) (intsV (acc++(secs R.path).take m)) ∧
       wi.heap[w.heap.size+1+1]?=some (.cells #[.bool false,.int .i64 0,.slice none 0 0] 191 (0,0)) ∧
       wi.heap[w.heap.size+1+1+1]?=some (.cells #[.bool (decide (t.jny.length<=g)),.int .i64 (L.holdsAt t (min k g):Nat),va] 191 (0,0)) ∧
       Items wi (.slice a1 R.path.length c1) R.path ∧
       Below (w.heap.size+2) ((w.alloc (z0n L vs vr vtt)).alloc (.cells #[.int .i64 t.start,.slice (some ⟨gg,off,none⟩) t.jny.length cj] 186)) wi) (fun i _=>R.path.length - (intOf i).toNat)
     case atStart=>exact⟨0,_,rfl,Nat.zero_le _,by simpa using hown1,uh HR1,uh HO1,uh HI1,uh HB1⟩
     case round=>
      clear hown1 HI1 HB1 HO1 HR1 z0 z1 z2 y0 y1 y2 yq;obtain⟨m,va,rfl,hm,hown,hR,hO,hIt,hb⟩:=hrel;obtain⟨ah',ch',hva⟩:=z02 hown;subst hva;have hsz:=z1r hb;have lO:=z0g hO;have hlen:(secs R.path).length=R.path.length:=by simp[secs]
      by_cases hmlt:m < R.path.length
      ·obtain⟨ap2,cp2,hsl2,-,-,h4⟩:=SlAt.open hIt
       simp only[Value.slice.injEq] at hsl2;obtain⟨rfl,-,rfl⟩:=hsl2;obtain⟨gi,oi,hao,hgi,cs,-,hC,hc⟩:=h4 m hmlt;subst hao;unfold CItem itemV at hC;subst hC;have hc0:=hc 0 (by omega);have hc1:=hc 1 (by omega);simp at hc0 hc1;have HTK2:=zh (show (secs R.path).take (m+1)=(secs R.path).take m++[R.path[m].1] by
        rw[<-List.take_append_getElem (by rw[hlen]; exact hmlt)]; simp[secs])
       have l4:(m:Int) < R.path.length:=by omega
       obtain⟨⟨o0,o1,o2⟩,⟨f0,f1,f2⟩,qo⟩:=tri0 hO;have F:=zh (And.intro hR (And.intro hO (And.intro hIt hb)));clear hR hO hIt hb h4 hc hlen;generalize R.path[m].1=sc at *;generalize R.path[m].2=sg at *;go_wp2_with (at_builtin; refine wpList_append_own _ rfl _ _ 49 rfl (w.heap.size+4) 3 i0 (.int .i64 0) 1 8 Tryz.underlying49 (uh HI).1 (uh HI).2.1 (uh HI).2.2.1 (uh HI).2.2.2 rfl (by decide) _ _ _ rfl ((hown.alloc _).alloc _) ⟨wr.heap.size+1,0,none⟩ 1 1 [.int .i64 sc] rfl rfl (by exact z0t _ [.int .i64 sc] _ _ (by simp)) (z0a rfl) (by unfold maxLen; omega) (by omega) (by simp; omega) ?_; intro v3 w3 hown3 hgrow3 _; have hkt:=(Keeps.alloc 191 wr _).trans (z0f (hown.alloc _) hgrow3 (by decide)); have hki:=(Keeps.alloc 168 wr _).trans (z0f (hown.alloc _) hgrow3 (by decide)); have hR3:=(hkt _ _ _ (uh F).1).trans (uh F).1; have hO3:=(hkt _ _ _ (uh F).2.1).trans (uh F).2.1; have hb3:=grow_belowB ((uh F).2.2.2.alloc (by omega) _) (by simp; omega) (by omega) (hown.alloc _) hgrow3; obtain⟨aj',cj',hv'⟩:=z02 hown3; subst hv'; have HF3:=zh (And.intro hR3 (And.intro hO3 (And.intro ((uh F).2.2.1.keep hki) hb3))); clear o0 o1 o2 f0 f1 f2 qo hR3 hkt hki hb3; obtain⟨⟨o0,o1,o2⟩,⟨f0,f1,f2⟩,qo⟩:=tri0 hO3; clear hO3)
       have hT3:Typed w3 (w.heap.size+1+1+1) 191:=⟨_,_,(uh HF3).2.1⟩
       refine⟨⟨m+1,.slice aj' (acc.length+m+1) cj',by go_num,by omega,?_,?_,?_,(uh HF3).2.2.1.keep (Keeps.setCell _ _ hT3 (by decide)),(uh HF3).2.2.2.setCell (p:=⟨w.heap.size+1+1+1,2,none⟩) (by show w.heap.size+2<=w.heap.size+1+1+1; omega) _⟩,by simp[intOf]; omega⟩
       rotate_left
       ·exact(Below.heap_setCell _ _ _ _ (by simp)).trans (uh HF3).1
       ·exact z0b (j:=2) _ (uh HF3).2.1
       ·rw[uh HTK2,<-List.append_assoc,z0x]
        exact z3e hown3 (w.heap.size+1+1+1) 2 _ hT3 (by decide)
      ·obtain rfl:m=R.path.length:=by omega
       have F:=zh (And.intro hR (And.intro hO hb));clear hR hO hIt hb;rw[List.take_of_length_le (by omega)] at hown;go_wp2
       refine⟨⟨k+1,acc++secs R.path,_,by go_num,by omega,?_,by simp[secs]; omega,by rw[List.length_append,hlen]; exact hown,(uh F).1,?_,(uh F).2.2⟩,by simp[intOf]; omega⟩
       ·rw[uh HTK,List.drop_append]
        have e1:g - (t.jny.take k).length=0:=by simp; omega
        rw[e1,List.drop_zero,Lay.aheadAt,List.flatMap_append];have e2:=uh HA;have e3:=uh HAH;unfold Lay.aheadAt at e2 e3;rw[<-e2,e3]
       ·rw[show min (k+1) g=min k g by omega]
        exact(uh F).2.1
  ·obtain rfl:k=t.jny.length:=by omega
   have hO':=hO;obtain⟨⟨o0,o1,o2⟩,-,qo⟩:=tri0 hO;obtain⟨⟨r0,r1,r2⟩,⟨f0,f1,f2⟩,qr⟩:=tri0 hR;have hkk:=zh (store3 (⟨_,_,hR⟩:Typed wr (w.heap.size+1+1) 191) (.bool (decide (t.jny.length<=g))) (.int .i64 (L.holdsAt t (min t.jny.length g):Nat)) (.slice ah acc.length ch) 3 (by decide));have hfin:=zh (Ints.ofOwn hown rfl);have hbb:=zh (z08 hb);have hS1:=uh HS;have hHA:=uh HA;rw[List.take_length] at hHA;have e1:S.done=decide (t.jny.length<=g):=by rw[hS1]; rfl
   have e2:S.holds=L.holdsAt t (min t.jny.length g):=by rw[hS1]; rfl
   have e3:S.ahead=acc:=by rw[hS1,hHA]; rfl
   have HE:=zh (And.intro e1 (And.intro e2 e3));clear hO hR hb hO' e1 e2 e3 hS1 hHA h3 hown q0 q1 q2 q3 q4 q5;generalize L.holdsAt t (min t.jny.length g)=hh at *;go_wp2
   refine bodyPost_ret (v:=.agg #[.bool (decide (t.jny.length<=g)),.int .i64 (hh:Nat),.slice ah acc.length ch]) (by simp[results,Tryz.results164,go_sem,r0,r1,r2]) rfl ?_;refine⟨_,_,_,by rw[(uh HE).1,(uh HE).2.1],?_,?_⟩
   ·rw[(uh HE).2.2]; exact(uh hfin).keep (uh hkk)
   ·exact(((uh hbb).setCell (p:=⟨w.heap.size+1+1,0,none⟩) (by show w.heap.size<=w.heap.size+1+1; omega) _).setCell (p:=⟨w.heap.size+1+1,1,none⟩) (by show w.heap.size<=w.heap.size+1+1; omega) _).setCell (p:=⟨w.heap.size+1+1,2,none⟩) (by show w.heap.size<=w.heap.size+1+1; omega) _
end Go.Proofs.YtkbpocecbcaiiabGreatDoor
