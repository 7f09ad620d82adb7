import Derived.Test.YtkbpocecbcaiiabGreatDoorO30
namespace Go.Proofs.YtkbpocecbcaiiabGreatDoor
open Go.RowKit
def Lay.pOK (L:Lay) (r:Rt) (i:Nat):Bool:=L.itemOK (r.path.getD i (0,0))&&!((r.path.getD i (0,0)).1==r.foot)&&!has (r.path.take i) (r.path.getD i (0,0)).1
def Lay.fOK (L:Lay) (r:Rt) (i:Nat):Bool:=!has r.path (r.flank.getD i (0,0)).1&&!has (r.flank.take i) (r.flank.getD i (0,0)).1&&(L.sw.getD (r.flank.getD i (0,0)).1 false&&!L.endsB (r.flank.getD i (0,0)).1)
def Lay.routeOK (L:Lay) (r:Rt):Bool:=decide (r.foot < L.sw.length)&&(List.range r.path.length).all (L.pOK r)&&(List.range r.flank.length).all (L.fOK r)
theorem Items.take {w:World} {ao:Option Addr} {n c:Nat} {l:List (Nat×Nat)} (h:Items w (.slice ao n c) l) (i:Nat) (hi:i<=l.length):Items w (.slice ao i c) (l.take i):=by
 obtain⟨ao',cap',he,h1,h2,h3⟩:=h;simp only[Value.slice.injEq] at he;obtain⟨rfl,rfl,rfl⟩:=he;have hl:(l.take i).length=i:=by simp; omega
 refine⟨ao,c,by rw[hl],by omega,h2,?_⟩;rcases h3 with h3 | ⟨g,off,cur,fr,ha,hg,hc⟩
 ·left; rw[h3]; simp
 ·right
  refine⟨g,off,cur,fr,ha,hg,fun j hj=>?_⟩;obtain⟨cs,a,b,d⟩:=hc j (by omega);refine⟨cs,a,?_,d⟩;rw[List.getElem_take]; exact b
theorem getDp (l:List (Nat×Nat)) (i:Nat) (h:i < l.length):l.getD i (0,0)=l[i]:=by
 simp[List.getD_eq_getElem?_getD,List.getElem?_eq_getElem h]
theorem all_range_true' (p:Nat->Bool) (n:Nat) (h:∀o,o < n->p o=true):(List.range n).all p=true:=by
 rw[List.all_eq_true]; intro x hx; exact h x (List.mem_range.1 hx)
theorem all_range_false' (p:Nat->Bool) (n o:Nat) (ho:o < n) (h:p o=false):(List.range n).all p=false:=by
 rw[List.all_eq_false]; exact⟨o,List.mem_range.2 ho,by simp[h]⟩
set_option maxHeartbeats 4000000 in
theorem routeRight_any (v vr0:Value) (L:Lay) (r:Rt) (w:World) (h:CLay w v L) (hr:VRt w vr0 r) (hp:L.Paths) :
  Calls Tryz.prog 128 #[v,vr0] w fun e w'=>e=.returned (.bool (L.routeOK r))/\Below w.heap.size w w':=by
 have HL:=zh h;obtain⟨vs,vr,vt,rfl,-,-,-⟩:=h;obtain⟨vp,vf,rfl,hP,hF⟩:=hr;have HIP:=zh hP;have HIF:=zh hF;obtain⟨ap,cp,rfl,p1,p2,p3⟩:=SlAt.open hP;obtain⟨af,cf,rfl,f1,f2,f3⟩:=SlAt.open hF;unfold maxLen at p2 f2;have HP:=zh hp;generalize hz:L.routeOK r=z;have HZ:=zh hz;clear hz hP hF hp;have H0:=zh (fun (wz:World) (hz:Below w.heap.size w wz)=>z2l _ L r.foot wz ((uh HL).below hz));go_enter Tryz.func128,Tryz.ntmps128
 go_wp2_with fail
 refine(uh H0 _ (z08 (o1:=z0n L vs vr vt) (Below.refl _ _))).mono ?_;rintro e w1 ⟨rfl,hb1⟩;have HB:=zh (show Below (w.heap.size+2) ((w.alloc (z0n L vs vr vt)).alloc (.cells #[.int .i64 r.foot,.slice ap r.path.length cp,.slice af r.flank.length cf] 113)) w1 from hb1.mono (by simp));clear hb1 H0;cases hft:decide (r.foot < L.sw.length) with
 | false=>
  have HZ2:=zh (show z=false by rw[<-uh HZ,Lay.routeOK,hft]; rfl);clear hft p3 f3;go_wp2
  go_ret
  exact⟨z04 (uh HZ2).symm,z08 (uh HB)⟩
 | true=>
  have HZ1:=zh (show z=((List.range r.path.length).all (L.pOK r)&&(List.range r.flank.length).all (L.fOK r)) by rw[<-uh HZ,Lay.routeOK,hft,Bool.true_and]);clear hft HZ;have b1:=blk1 w (z0n L vs vr vt) (.cells #[.int .i64 r.foot,.slice ap r.path.length cp,.slice af r.flank.length cf] 113);have b2:=blk2 w (z0n L vs vr vt) (.cells #[.int .i64 r.foot,.slice ap r.path.length cp,.slice af r.flank.length cf] 113);have BB:=zh (And.intro b1 b2);clear b1 b2;go_wp2
  go_loopg [5] r.path.length (fun n i wr=>∃k:Nat,i=.int .i64 k/\n+k=r.path.length/\(∀j,j < k->L.pOK r j=true) ∧
    Below (w.heap.size+2) ((w.alloc (z0n L vs vr vt)).alloc (.cells #[.int .i64 r.foot,.slice ap r.path.length cp,.slice af r.flank.length cf] 113)) wr)
  case atStart=>exact⟨0,rfl,by omega,fun j h=>by omega,uh HB⟩
  case round=>
   clear HB;obtain⟨k,rfl,hk,hno,hb⟩:=hrel;have HK:=zh hk;have HNO:=zh hno;have HB:=zh hb;have qs:=z1r hb;have hk':k<=r.path.length:=by omega
   obtain⟨⟨q0,q1,q2,q3,q4,q5⟩,-,-⟩:=six0 ((hb.block _ (by omega)).trans (uh BB).1);obtain⟨⟨y0,y1,y2⟩,-,-⟩:=tri0 ((hb.block _ (by omega)).trans (uh BB).2);clear hk hno;by_cases hlt:k < r.path.length
   ·obtain⟨g,off,hao,hg,cs,-,hC,hc⟩:=p3 k hlt
    subst hao;unfold CItem itemV at hC;subst hC;have hc0:=hc 0 (by omega);have hc1:=hc 1 (by omega);have HCW:=zh (And.intro hc0 hc1);rw[<-(z08 hb).cell (p:=⟨g,_,none⟩) hg] at hc0 hc1;simp at hc0 hc1 HCW;have hgw:g < wr.heap.size:=by have:=z1r hb; omega
    have HPOK:=zh (show L.pOK r k=(L.itemOK r.path[k]&&!(r.path[k].1==r.foot)&&!has (r.path.take k) r.path[k].1) by rw[Lay.pOK,getDp _ _ hlt]);have HTK:=zh (fun (wz:World) (hz:Below w.heap.size w wz)=>z4o _ (r.path.take k) r.path[k].1 wz ((Items.take (uh HIP) k hk').keep (Keeps.below hz)));have HIT:=zh (fun (wz:World) (hz:Below w.heap.size w wz)=>pathItemRight_any _ L r.path[k] wz ((uh HL).below hz));have l0:(0:Int)<=k:=by omega
    have l1:(k:Int) < r.path.length:=by omega
    clear hc p3 hb;generalize r.path[k]=x at *;obtain⟨x1,x2⟩:=x;simp only at hc0 hc1 HPOK HTK HIT HCW;generalize L.itemOK (x1,x2)=ok at *;generalize hhs:has (r.path.take k) x1=hs at *;clear hhs;go_wp2
    go_cut [28] (fun u wx=>u=.bool (!ok)/\Below (w.heap.size+2) ((w.alloc (z0n L vs vr vt)).alloc (.cells #[.int .i64 r.foot,.slice (some ⟨g,off,none⟩) r.path.length cp,.slice af r.flank.length cf] 113)) wx)
    case first=>
     go_region_with (go_at_call 160; refine(uh HIT _ ?_).mono ?_; exact(z08 (uh HB)).drew; rintro e w3 ⟨rfl,hb3⟩)
     all_goals
      have hbx3:=zh (((uh HB).drew).trans (hb3.mono (B':=w.heap.size+2) (by show w.heap.size+2<=wr.heap.size; omega)));clear hb3;go_wp2_with fail
      go_meet
      exact⟨rfl,uh hbx3⟩
    case rest=>
     obtain⟨rfl,hb⟩:=hcut;clear HB qs q0 q1 q2 q3 q4 q5 y0 y1 y2;have HB:=zh hb;have qs:=z1r hb;obtain⟨⟨q0,q1,q2,q3,q4,q5⟩,-,-⟩:=six0 ((hb.block _ (by omega)).trans (uh BB).1);obtain⟨⟨y0,y1,y2⟩,-,-⟩:=tri0 ((hb.block _ (by omega)).trans (uh BB).2);have hg0:=(z08 hb).cell (p:=⟨g,off+k*2,none⟩) hg;have hg1:=(z08 hb).cell (p:=⟨g,off+k*2+1,none⟩) hg;rw[(uh HCW).1] at hg0;rw[(uh HCW).2] at hg1;clear hc0 hc1 hb hgw;cases ok with
     | false=>
      have HZ2:=zh (show z=false by
       rw[uh HZ1,all_range_false' _ _ k hlt (by rw[uh HPOK]; rfl),Bool.false_and])
      clear HZ1;go_wp2
      go_ret
      exact⟨z04 (uh HZ2).symm,z08 (uh HB)⟩
     | true=>
      rw[Bool.true_and] at HPOK;by_cases hxf:x1=r.foot
      ·have d:((x1:Int)==(r.foot:Int))=true:=by simp; omega
       have HZ2:=zh (show z=false by
        rw[uh HZ1,all_range_false' _ _ k hlt (by rw[uh HPOK]; simp[hxf]),Bool.false_and])
       clear HZ1 hxf;go_wp2
       go_ret
       exact⟨z04 (uh HZ2).symm,z08 (uh HB)⟩
      ·have d:((x1:Int)==(r.foot:Int))=false:=by simp; omega
       have e1:(x1==r.foot)=false:=by simpa using hxf
       rw[e1] at HPOK;clear hxf e1;go_wp2_with fail
       refine(uh HTK _ (z08 (uh HB))).mono ?_;rintro e w4 ⟨rfl,hb4⟩;have HB4:=zh ((uh HB).trans (hb4.mono (B':=w.heap.size+2) (by omega)));clear hb4;cases hs with
       | true=>
        have HZ2:=zh (show z=false by
         rw[uh HZ1,all_range_false' _ _ k hlt (by rw[uh HPOK]; rfl),Bool.false_and])
        clear HZ1;go_wp2
        go_ret
        exact⟨z04 (uh HZ2).symm,z08 (uh HB4)⟩
       | false=>
        have HNK:=zh (show ∀j,j < k+1->L.pOK r j=true by
         intro j hj;rcases Nat.lt_or_ge j k with h | h
         ·exact uh HNO j h
         ·obtain rfl:j=k:=by omega
          rw[uh HPOK]; rfl)
        go_wp2
        go_roundg (gk - 1)
        case measure=>have:=uh HK; omega
        case rel=>exact⟨k+1,by go_num,by have:=uh HK; omega,uh HNK,uh HB4⟩
   ·have HZ3:=zh (show z=(List.range r.flank.length).all (L.fOK r) by
     obtain rfl:k=r.path.length:=by omega
     rw[uh HZ1,all_range_true' _ _ (uh HNO),Bool.true_and])
    clear HZ1 HNO HK hb p3;go_wp2
    go_loopg [7] r.flank.length (fun n i wr=>∃k:Nat,i=.int .i64 k/\n+k=r.flank.length/\(∀j,j < k->L.fOK r j=true) ∧
      Below (w.heap.size+2) ((w.alloc (z0n L vs vr vt)).alloc (.cells #[.int .i64 r.foot,.slice ap r.path.length cp,.slice af r.flank.length cf] 113)) wr)
    case atStart=>exact⟨0,rfl,by omega,fun j h=>by omega,uh HB⟩
    case round=>
    clear HB qs q0 q1 q2 q3 q4 q5 y0 y1 y2 hk' hlt;obtain⟨k,rfl,hk,hno,hb⟩:=hrel;have HK:=zh hk;have HNO:=zh hno;have HB:=zh hb;have qs:=z1r hb;have hk':k<=r.flank.length:=by omega
    obtain⟨⟨q0,q1,q2,q3,q4,q5⟩,-,-⟩:=six0 ((hb.block _ (by omega)).trans (uh BB).1);obtain⟨⟨y0,y1,y2⟩,-,-⟩:=tri0 ((hb.block _ (by omega)).trans (uh BB).2);clear hk hno;by_cases hlt:k < r.flank.length
    ·obtain⟨g,off,hao,hg,cs,-,hC,hc⟩:=f3 k hlt
     subst hao;unfold CItem itemV at hC;subst hC;have hc0:=hc 0 (by omega);rw[<-(z08 hb).cell (p:=⟨g,_,none⟩) hg] at hc0;simp at hc0;have HFOK:=zh (show L.fOK r k=(!has r.path r.flank[k].1&&!has (r.flank.take k) r.flank[k].1&&(L.sw.getD r.flank[k].1 false&&!L.endsB r.flank[k].1)) by rw[Lay.fOK,getDp _ _ hlt]);have HN1:=zh (fun (wz:World) (hz:Below w.heap.size w wz)=>z4o _ r.path r.flank[k].1 wz ((uh HIP).keep (Keeps.below hz)));have HN2:=zh (fun (wz:World) (hz:Below w.heap.size w wz)=>z4o _ (r.flank.take k) r.flank[k].1 wz ((Items.take (uh HIF) k hk').keep (Keeps.below hz)));have HN3:=zh (fun (wz:World) (hz:Below w.heap.size w wz)=>z22 _ L r.flank[k].1 wz ((uh HL).below hz));have HN4:=zh (fun (wz:World) (hz:Below w.heap.size w wz)=>isLast_any _ L r.flank[k].1 wz ((uh HL).below hz) (uh HP));have l0:(0:Int)<=k:=by omega
     have l1:(k:Int) < r.flank.length:=by omega
     clear hc f3 hb;generalize r.flank[k].1=x at *;generalize has r.path x=c1 at *;generalize has (r.flank.take k) x=c2 at *;generalize L.sw.getD x false=c3 at *;generalize L.endsB x=c4 at *;go_wp2_with fail
     refine(uh HN1 _ (z08 (uh HB))).mono ?_;rintro e w2 ⟨rfl,hb2⟩;clear hc0;have HBn:=zh ((uh HB).trans (hb2.mono (B':=w.heap.size+2) (by omega)));clear HB qs q0 q1 q2 q3 q4 q5 y0 y1 y2 hb2;have HB:=HBn;clear HBn;have qs:=z1r (uh HB);obtain⟨⟨q0,q1,q2,q3,q4,q5⟩,-,-⟩:=six0 (((uh HB).block _ (by omega)).trans (uh BB).1);obtain⟨⟨y0,y1,y2⟩,-,-⟩:=tri0 (((uh HB).block _ (by omega)).trans (uh BB).2);cases c1 with
     | true=>
      have HZ2:=zh (show z=false by
       rw[uh HZ3]; exact all_range_false' _ _ k hlt (by rw[uh HFOK]; rfl))
      clear HZ3;go_wp2
      go_ret
      exact⟨z04 (uh HZ2).symm,z08 (uh HB)⟩
     | false=>
      go_wp2_with fail
      refine(uh HN2 _ (z08 (uh HB))).mono ?_;rintro e w3 ⟨rfl,hb3⟩;have HBn:=zh ((uh HB).trans (hb3.mono (B':=w.heap.size+2) (by omega)));clear HB qs q0 q1 q2 q3 q4 q5 y0 y1 y2 hb3;have HB:=HBn;clear HBn;have qs:=z1r (uh HB);obtain⟨⟨q0,q1,q2,q3,q4,q5⟩,-,-⟩:=six0 (((uh HB).block _ (by omega)).trans (uh BB).1);obtain⟨⟨y0,y1,y2⟩,-,-⟩:=tri0 (((uh HB).block _ (by omega)).trans (uh BB).2);cases c2 with
      | true=>
       have HZ2:=zh (show z=false by
        rw[uh HZ3]; exact all_range_false' _ _ k hlt (by rw[uh HFOK]; rfl))
       clear HZ3;go_wp2
       go_ret
       exact⟨z04 (uh HZ2).symm,z08 (uh HB)⟩
      | false=>
       go_wp2_with fail
       refine(uh HN3 _ (z08 (uh HB))).mono ?_;rintro e w4 ⟨rfl,hb4⟩;have HBn:=zh ((uh HB).trans (hb4.mono (B':=w.heap.size+2) (by omega)));clear HB qs q0 q1 q2 q3 q4 q5 y0 y1 y2 hb4;have HB:=HBn;clear HBn;have qs:=z1r (uh HB);obtain⟨⟨q0,q1,q2,q3,q4,q5⟩,-,-⟩:=six0 (((uh HB).block _ (by omega)).trans (uh BB).1);obtain⟨⟨y0,y1,y2⟩,-,-⟩:=tri0 (((uh HB).block _ (by omega)).trans (uh BB).2);cases c3 with
       | false=>
        have HZ2:=zh (show z=false by
         rw[uh HZ3]; exact all_range_false' _ _ k hlt (by rw[uh HFOK]; rfl))
        clear HZ3;go_wp2
        go_ret
        exact⟨z04 (uh HZ2).symm,z08 (uh HB)⟩
       | true=>
        go_wp2_with fail
        refine(uh HN4 _ (z08 (uh HB))).mono ?_;rintro e w5 ⟨rfl,hb5⟩;have HBn:=zh ((uh HB).trans (hb5.mono (B':=w.heap.size+2) (by omega)));clear HB qs q0 q1 q2 q3 q4 q5 y0 y1 y2 hb5;have HB:=HBn;clear HBn;have qs:=z1r (uh HB);obtain⟨⟨q0,q1,q2,q3,q4,q5⟩,-,-⟩:=six0 (((uh HB).block _ (by omega)).trans (uh BB).1);obtain⟨⟨y0,y1,y2⟩,-,-⟩:=tri0 (((uh HB).block _ (by omega)).trans (uh BB).2);cases c4 with
        | true=>
         have HZ2:=zh (show z=false by
          rw[uh HZ3]; exact all_range_false' _ _ k hlt (by rw[uh HFOK]; rfl))
         clear HZ3;go_wp2
         go_ret
         exact⟨z04 (uh HZ2).symm,z08 (uh HB)⟩
        | false=>
         have HNK:=zh (show ∀j,j < k+1->L.fOK r j=true by
          intro j hj;rcases Nat.lt_or_ge j k with h | h
          ·exact uh HNO j h
          ·obtain rfl:j=k:=by omega
           rw[uh HFOK]; rfl)
         go_wp2
         go_roundg (gk - 1)
         case measure=>have:=uh HK; omega
         case rel=>exact⟨k+1,by go_num,by have:=uh HK; omega,uh HNK,uh HB⟩
    ·have HZ2:=zh (show z=true by
      obtain rfl:k=r.flank.length:=by omega
      rw[uh HZ3]; exact all_range_true' _ _ (uh HNO))
     clear HZ3 HNO HK hb f3;go_wp2
     go_ret
     exact⟨z04 (uh HZ2).symm,z08 (uh HB)⟩
end Go.Proofs.YtkbpocecbcaiiabGreatDoor
