import Derived.Test.YtkbpocecbcaiiabGreatDoorO31
import Derived.Test.YtkbpocecbcaiiabGreatDoorO33
namespace Go.Proofs.YtkbpocecbcaiiabGreatDoor
open Go.RowKit
theorem SlAt.take {α:Type} {e:TypeId} {sz:Nat} {C:World->α->List Value->Prop} {w:World} {ao:Option Addr} {n c:Nat} {l:List α} (h:SlAt e sz C w (.slice ao n c) l) (i:Nat) (hi:i<=l.length):SlAt e sz C w (.slice ao i c) (l.take i):=by
 obtain⟨ao',cap',he,h1,h2,h3⟩:=h;simp only[Value.slice.injEq] at he;obtain⟨rfl,rfl,rfl⟩:=he;have hl:(l.take i).length=i:=by simp; omega
 refine⟨ao,c,by rw[hl],by omega,h2,?_⟩;rcases h3 with h3 | ⟨g,off,cur,fr,ha,hg,hc⟩
 ·left; rw[h3]; simp
 ·right
  refine⟨g,off,cur,fr,ha,hg,fun j hj=>?_⟩;obtain⟨cs,a,b,d⟩:=hc j (by omega);refine⟨cs,a,?_,d⟩;rw[List.getElem_take]; exact b
def Lay.checkOf (L:Lay):Nat×Nat:=
 if L.big then (3,0)
 else match (List.range L.rts.length).find? (fun i=>!L.routeOK (L.rt i)) with
  | some i=>(4,i)
  | none=>match (List.range L.tns.length).find? (fun i=>!L.trainOK (L.tn i) (L.tns.take i)) with
   | some i=>(5,i)
   | none=>(0,0)
set_option maxHeartbeats 4000000 in
theorem cCheck_any (v:Value) (L:Lay) (w:World) (h:CLay w v L) (hp:L.Paths) :
  Calls Tryz.prog 91 #[v] w fun e w'=>e=.returned (.tuple #[.int .i64 L.checkOf.1,.int .i64 L.checkOf.2])/\Below w.heap.size w w':=by
 have HL:=zh h;obtain⟨vs,vr,vt,rfl,hS,hR,hT⟩:=h;have HTT:=zh hT;obtain⟨ah,ch,rfl,-,-,-⟩:=SlAt.open hS;obtain⟨ar,cr,rfl,-,r2,r3⟩:=SlAt.open hR;obtain⟨at_,ct,rfl,-,t2,t3⟩:=SlAt.open hT;unfold maxLen at r2 t2;have HP:=zh hp;have HR3:=zh r3;have HT3:=zh t3;obtain⟨E,hE⟩:∃E,E=L.checkOf:=⟨_,rfl⟩
 rw[<-hE];unfold Lay.checkOf at hE;have HE:=zh hE;clear hE hS hR hT hp r3 t3;have H1:=zh (fun (wz:World) (hz:Below w.heap.size w wz)=>sizesFit_any _ L wz ((uh HL).below hz));go_enter Tryz.func91,Tryz.ntmps91
 go_wp2_with fail
 refine(uh H1 _ (z01 w (z0n L _ _ _))).mono ?_;rintro e w1 ⟨rfl,hb1⟩;have HB:=zh (show Below (w.heap.size+1) (w.alloc (z0n L (.slice ah L.sw.length ch) (.slice ar L.rts.length cr) (.slice at_ L.tns.length ct))) w1 from hb1.mono (by simp));clear hb1 H1;cases hbig:L.big with
 | true=>
  rw[hbig,if_pos rfl] at HE;clear hbig;go_wp2
  go_ret2
  exact⟨by rw[uh HE] <;> rfl,z09 (uh HB)⟩
 | false=>
  have hrl:L.rts.length<=12/\L.tns.length<=5:=by
   unfold Lay.big at hbig;simp only[Bool.or_eq_false_iff,decide_eq_false_iff_not] at hbig;omega
  obtain⟨hrl,htl⟩:=hrl;rw[hbig,if_neg (by simp)] at HE;clear hbig;go_wp2
  go_loopg [4] L.rts.length (fun n i wr=>∃k:Nat,i=.int .i64 k/\n+k=L.rts.length/\(∀j,j < k->(!L.routeOK (L.rt j))=false) ∧
    Below (w.heap.size+1) (w.alloc (z0n L (.slice ah L.sw.length ch) (.slice ar L.rts.length cr) (.slice at_ L.tns.length ct))) wr)
  case atStart=>exact⟨0,rfl,by omega,fun j h=>by omega,uh HB⟩
  case round=>
   clear HB;obtain⟨k,rfl,hk,hno,hb⟩:=hrel;have HNO:=zh hno;have HB:=zh hb;have HK:=zh hk;obtain⟨t0,t1,t2',t3,t4,t5,qs⟩:=z3x hb;have hk':k<=L.rts.length:=by omega
   clear hno hk;by_cases hlt:k < L.rts.length
   ·obtain⟨gr,offr,hao,hgr,cs,-,hC,hc⟩:=uh HR3 k hlt
    subst hao;obtain⟨vp,vf,hcs,d1,d2⟩:=hC;subst hcs;have e0:=hc 0 (by omega);have e1:=hc 1 (by omega);have e2:=hc 2 (by omega);rw[<-(z09 hb).cell (p:=⟨gr,_,none⟩) hgr] at e0 e1 e2;simp at e0 e1 e2;have HRT:=zh (rt_eq L k hlt);have HV:=zh (show VRt w (.agg #[.int .i64 L.rts[k].foot,vp,vf]) L.rts[k] from ⟨_,_,rfl,d1,d2⟩);obtain⟨ap,cp,rfl,-,-,-⟩:=SlAt.open d1;obtain⟨af,cf,rfl,-,-,-⟩:=SlAt.open d2;have hcr:=zh (fun (wz:World) (hz:Below w.heap.size w wz)=>routeRight_any _ _ L L.rts[k] wz ((uh HL).below hz) ((uh HV).below hz) (uh HP));have l0:(0:Int)<=k:=by omega
    have l1:(k:Int) < L.rts.length:=by omega
    clear hc d1 d2 hb;generalize L.rts[k]=R at *;generalize hok:L.routeOK R=ok at *;have HOK:=zh hok;clear hok;go_wp2
    go_cut [23] (fun u wx=>u=.bool (!ok)/\Below (w.heap.size+1) (w.alloc (z0n L (.slice ah L.sw.length ch) (.slice (some ⟨gr,offr,none⟩) L.rts.length cr) (.slice at_ L.tns.length ct))) wx)
    case first=>
     go_region_with (go_at_call 128; refine(uh hcr _ ?_).mono ?_; exact(z09 (uh HB)).drew; rintro e w3 ⟨rfl,hb3⟩)
     all_goals
      have hbx3:=zh (((uh HB).drew).trans (hb3.mono (B':=w.heap.size+1) qs));clear hb3;go_wp2_with fail
      go_meet
      exact⟨rfl,uh hbx3⟩
    case rest=>
     obtain⟨rfl,hbx3⟩:=hcut;clear HB t0 t1 t2' t3 t4 t5 e0 e1 e2;have HB:=zh hbx3;clear hbx3;cases ok with
     | false=>
      have HE2:=zh (show E=(4,k) by
       rw[uh HE,z5o (fun i=>!L.routeOK (L.rt i)) _ k hlt (uh HNO) (by rw[uh HRT,uh HOK]; rfl)])
      clear HE;go_wp2
      go_ret2
      exact⟨by rw[uh HE2] <;> rfl,z09 (uh HB)⟩
     | true=>
      have hnk:=zh (show ∀j,j < k+1->(!L.routeOK (L.rt j))=false by
       intro j hj;rcases Nat.lt_or_ge j k with h | h
       ·exact uh HNO j h
       ·obtain rfl:j=k:=by omega
        rw[uh HRT,uh HOK]; rfl)
      go_wp2
      go_roundg (gk - 1)
      case measure=>have:=uh HK; omega
      case rel=>exact⟨k+1,by go_num,by have:=uh HK; omega,uh hnk,uh HB⟩
   ·have HE2:=zh (show E=(match (List.range L.tns.length).find? (fun i=>!L.trainOK (L.tn i) (L.tns.take i)) with
      | some i=>(5,i)
      | none=>(0,0)) by
     obtain rfl:k=L.rts.length:=by omega
     rw[uh HE,find_none (fun i=>!L.routeOK (L.rt i)) _ (uh HNO)])
    clear HE hb HNO HK;go_wp2
    go_loopg [5] L.tns.length (fun n i wr=>∃k:Nat,i=.int .i64 k/\n+k=L.tns.length/\(∀j,j < k->(!L.trainOK (L.tn j) (L.tns.take j))=false) ∧
      Below (w.heap.size+1) (w.alloc (z0n L (.slice ah L.sw.length ch) (.slice ar L.rts.length cr) (.slice at_ L.tns.length ct))) wr)
    case atStart=>exact⟨0,rfl,by omega,fun j h=>by omega,uh HB⟩
    case round=>
    clear HB t0 t1 t2' t3 t4 t5 qs hk' hlt;obtain⟨k,rfl,hk,hno,hb⟩:=hrel;have HNO:=zh hno;have HB:=zh hb;have HK:=zh hk;have hk':k<=L.tns.length:=by omega
    obtain⟨t0,t1,t2',t3,t4,t5,qs⟩:=z3x hb;clear hno hk;by_cases hlt:k < L.tns.length
    ·obtain⟨gr,offr,hao,hgr,cs,-,hC,hc⟩:=uh HT3 k hlt
     subst hao;obtain⟨vj,hcs,d1⟩:=hC;subst hcs;have e0:=hc 0 (by omega);have e1:=hc 1 (by omega);rw[<-(z09 hb).cell (p:=⟨gr,_,none⟩) hgr] at e0 e1;simp at e0 e1;have HTN:=zh (tn_eq L k hlt);have HV:=zh (show VTn w (.agg #[.int .i64 L.tns[k].start,vj]) L.tns[k] from ⟨_,rfl,d1⟩);obtain⟨ap,cp,rfl,-,-,-⟩:=SlAt.open d1;have hcr:=zh (fun (wz:World) (hz:Below w.heap.size w wz)=>trainRight_any _ _ _ L L.tns[k] (L.tns.take k) wz ((uh HL).below hz) ((uh HV).below hz) (Tns.keep (SlAt.take (uh HTT) k hk') (Keeps.below hz) (Keeps.below hz)) (uh HP));have l0:(0:Int)<=k:=by omega
     have l1:(k:Int) < L.tns.length:=by omega
     have l2:(k:Int)<=ct:=by have:=(uh HTT).open; obtain⟨a,c,he,hle,-⟩:=this; simp only[Value.slice.injEq] at he; omega
     clear hc d1 hb;generalize L.tns[k]=R at *;generalize hok:L.trainOK R (L.tns.take k)=ok at *;have HOK:=zh hok;clear hok;go_wp2
     go_cut [43] (fun u wx=>u=.bool (!ok)/\Below (w.heap.size+1) (w.alloc (z0n L (.slice ah L.sw.length ch) (.slice ar L.rts.length cr) (.slice (some ⟨gr,offr,none⟩) L.tns.length ct))) wx)
     case first=>
      go_region_with (go_at_call 129; refine(uh hcr _ ?_).mono ?_; exact(z09 (uh HB)).drew; rintro e w3 ⟨rfl,hb3⟩)
      all_goals
       have hbx3:=zh (((uh HB).drew).trans (hb3.mono (B':=w.heap.size+1) qs));clear hb3;go_wp2_with fail
       go_meet
       exact⟨rfl,uh hbx3⟩
     case rest=>
      obtain⟨rfl,hbx3⟩:=hcut;clear HB t0 t1 t2' t3 t4 t5 e0 e1;have HB:=zh hbx3;clear hbx3;cases ok with
      | false=>
       have HE3:=zh (show E=(5,k) by
        rw[uh HE2,z5o (fun i=>!L.trainOK (L.tn i) (L.tns.take i)) _ k hlt (uh HNO) (by rw[uh HTN,uh HOK]; rfl)])
       clear HE2;go_wp2
       go_ret2
       exact⟨by rw[uh HE3] <;> rfl,z09 (uh HB)⟩
      | true=>
       have hnk:=zh (show ∀j,j < k+1->(!L.trainOK (L.tn j) (L.tns.take j))=false by
        intro j hj;rcases Nat.lt_or_ge j k with h | h
        ·exact uh HNO j h
        ·obtain rfl:j=k:=by omega
         rw[uh HTN,uh HOK]; rfl)
       go_wp2
       go_roundg (gk - 1)
       case measure=>have:=uh HK; omega
       case rel=>exact⟨k+1,by go_num,by have:=uh HK; omega,uh hnk,uh HB⟩
    ·have HE3:=zh (show E=(0,0) by
      obtain rfl:k=L.tns.length:=by omega
      rw[uh HE2,find_none (fun i=>!L.trainOK (L.tn i) (L.tns.take i)) _ (uh HNO)])
     clear HE2 hb HNO HK;go_wp2
     go_ret2
     exact⟨by rw[uh HE3] <;> rfl,z09 (uh HB)⟩
end Go.Proofs.YtkbpocecbcaiiabGreatDoor
