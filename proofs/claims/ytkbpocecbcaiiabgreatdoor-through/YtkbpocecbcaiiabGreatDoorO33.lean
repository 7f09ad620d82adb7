import Derived.Test.YtkbpocecbcaiiabGreatDoorO32
namespace Go.Proofs.YtkbpocecbcaiiabGreatDoor
open Go.RowKit
def layOf (l:List UInt8):Lay:=match z0v 47 [] l with
 | [_,p1,p2,p3]=>readF l p1 p2 p3
 | _=>⟨0,0,0,[],[],[]⟩
def Form (l:List UInt8):Prop:=3<=l.length/\48<=(l.getD 0 0).toNat/\48<=(l.getD 1 0).toNat/\48<=(l.getD 2 0).toNat/\∃p0 p1 p2 p3,z0v 47 [] l=[p0,p1,p2,p3] ∧
 (∀r,r∈z0v 44 [] p2->2<=r.length/\97<=(r.getD 0 0).toNat) ∧
 (∀t,t∈z0v 44 [] p3->1<=t.length/\97<=(t.getD 0 0).toNat/\∀x,x∈t.drop 1->65<=x.toNat)/\(layOf l).Paths
def errOf (l:List UInt8):Nat×Int:=
 if 256 < l.length then (1,0)
 else if z1m 0 0 l≠-1 then (2,z1m 0 0 l)
 else if (layOf l).big then (3,0)
 else match (List.range (layOf l).rts.length).find? (fun i=>(layOf l).crooked ((layOf l).rt i)) with
  | some i=>(4,i)
  | none=>match (List.range (layOf l).tns.length).find? (fun i=>(layOf l).stray i) with
   | some i=>(5,i)
   | none=>if (layOf l).sound (List.replicate (layOf l).tns.length 0) then (0,0) else (6,0)
theorem placeS_bd (l:List UInt8):∀(a:Int) (n:Nat),z1m a n l=-1\/(0<=z1m a n l/\z1m a n l<=n+l.length):=by
 induction l with
 | nil=>intro a n; unfold z1m; split <;> simp <;> omega
 | cons c l ih=>
  intro a n;unfold z1m;split
  ·right; simp; omega
  ·rcases ih (stepS a c.toNat) (n+1) with h | h
   ·exact .inl h
   ·right; simp; omega
def PShape (v:Value):Prop:=∃(T D Q:Int) (a1 a2 a3:Option Addr) (n1 n2 n3 d1 d2 d3:Nat),v=.agg #[.int .i64 T,.int .i64 D,.int .i64 Q,.slice a1 n1 d1,.slice a2 n2 d2,.slice a3 n3 d3]
theorem RPlan.shape {w:World} {v:Value} {L:Lay} (h:RPlan w v L):PShape v:=by
 obtain⟨vh,vr,vt,rfl,a,b,c⟩:=h;obtain⟨a1,d1,rfl,-⟩:=SlAt.open a;obtain⟨a2,d2,rfl,-⟩:=SlAt.open b;obtain⟨a3,d3,rfl,-⟩:=SlAt.open c;exact⟨_,_,_,_,_,_,_,_,_,_,_,_,rfl⟩
def zeroV:Value:=.agg #[.int .i64 0,.int .i64 0,.int .i64 0,.slice none 0 0,.slice none 0 0,.slice none 0 0]
theorem z2q:PShape zeroV:=⟨0,0,0,none,none,none,0,0,0,0,0,0,rfl⟩
theorem find_none (p:Nat->Bool) (n:Nat) (h:∀k,k < n->p k=false):(List.range n).find? p=none:=by
 rw[List.find?_eq_none]; intro x hx; rw[h x (List.mem_range.1 hx)]; simp
theorem z5o (p:Nat->Bool) (n k:Nat) (hk:k < n) (h:∀j,j < k->p j=false) (hp:p k=true):(List.range n).find? p=some k:=by
 rw[List.find?_eq_some_iff_append];refine⟨hp,List.range k,(List.range (n - k - 1)).map (·+(k+1)),?_,?_⟩
 ·have e:n=k+(1+(n - k - 1)):=by omega
  conv=>lhs; rw[e]
  rw[List.range_add,List.range_add];simp[List.range_one,Nat.add_comm,Nat.add_left_comm,Function.comp_def]
 ·intro x hx; rw[h x (List.mem_range.1 hx)]; rfl
theorem joins_lt (L:Lay):∀(l:List Nat) (s:Nat),L.joins s l=true->∀r,r∈l->r < L.rts.length:=by
 intro l
 induction l with
 | nil=>intro s _ r hr; cases hr
 | cons a l ih=>
  intro s h r hr;unfold Lay.joins at h;simp only[Bool.and_eq_true,decide_eq_true_eq] at h;rcases List.mem_cons.1 hr with e | e
  ·rw[e]; exact h.1.1
  ·exact ih _ h.2 r e
theorem jnys_of (L:Lay) (h:∀j,j < L.tns.length->L.stray j=false):L.Jnys:=by
 intro t ht r hr;obtain⟨i,hi,rfl⟩:=List.getElem_of_mem ht;have:=h i hi;unfold Lay.stray at this;simp only[Bool.or_eq_false_iff,Bool.not_eq_false'] at this;rw[tn_eq L i hi] at this;exact joins_lt L _ _ this.2 r hr
theorem ints_made (w:World) (n:Nat) (hn:n<=maxLen):Ints (w.alloc (.cells (madeCells #[.int .i64 0] n) 3)) (.slice (some ⟨w.heap.size,0,none⟩) n n) (List.replicate n 0):=by
 refine⟨some ⟨w.heap.size,0,none⟩,n,by simp,by simp,hn,?_⟩;cases n with
 | zero=>left; rfl
 | succ n=>
  right;refine⟨w.heap.size,0,_,(0,0),rfl,heap_alloc_new w _,fun i hi=>⟨[.int .i64 0],rfl,?_,fun j hj=>?_⟩⟩
  ·simp[CInt]
  ·obtain rfl:j=0:=by omega
   have e:(madeCells #[Value.int .i64 0] (n+1))[0+i*1+0]?=(madeCells #[Value.int .i64 0] (n+1)).toList[i]?:=by simp
   rw[e,toList_madeCells_one,List.getElem?_replicate];simp at hi;simp; omega
theorem res_at {w w1 wr:World} {o:Obj} (hz:w1.heap[w.heap.size]?=some z39) (hb:Below (w1.heap.size+1) (w1.alloc o) wr):wr.heap[w.heap.size]?=some z39:=by
 have hlt:=z0g hz;rw[hb.block _ (by omega),Below.heap_alloc _ _ _ hlt]; exact hz
theorem RPlanL.keep {n:Nat} {w w':World} {v:Value} {L:Lay} (h:RPlanL n w v L) (k:∀e,119≠e->Keeps e w w'):RPlanL n w' v L:=by
 obtain⟨vh,vr,vt,e,a,b,c,d⟩:=h;exact⟨vh,vr,vt,e,a.keep (k _ (by decide)),b.keep (k _ (by decide)) (k _ (by decide)) (k _ (by decide)),c.keep (k _ (by decide)) (k _ (by decide)),d⟩
theorem RPlanL.below {n:Nat} {w w':World} {v:Value} {L:Lay} (h:RPlanL n w v L) (hb:Below w.heap.size w w'):RPlanL n w' v L:=h.keep (fun _ _=>Keeps.below hb)
set_option maxHeartbeats 4000000 in
theorem Read_lo (s:ByteArray) (w:World) (hF:s.size<=256->z1m 0 0 s.data.toList=-1->Form s.data.toList) :
  Calls Tryz.prog 60 #[.string s] w fun e w'=>∃v,e=.returned (.tuple #[v,.int .i64 (errOf s.data.toList).1,.int .i64 (errOf s.data.toList).2]) ∧
   PShape v/\((errOf s.data.toList).1=0->RPlanL w.heap.size w' v (layOf s.data.toList))/\Below w.heap.size w w':=by
 have hsl:s.data.toList.length=s.size:=by simp
 have hz0:=heap_alloc_new w z39;by_cases c1:256 < s.size
 ·have HE:=zh (show errOf s.data.toList=(1,0) by rw[errOf,hsl,if_pos c1])
  have c1':(256:Int) < s.size:=by omega
  clear hF hsl hz0;generalize errOf s.data.toList=E at *;go_enter Tryz.func60,Tryz.ntmps60
  go_wp2
  refine bodyPost_ret (v:=.tuple #[zeroV,.int .i64 1,.int .i64 0]) (by simp[results,Tryz.results60,go_sem,zeroV]) rfl ?_;refine⟨zeroV,by rw[uh HE]; rfl,z2q,fun h=>absurd h (by rw[uh HE]; simp),?_⟩;exact z01 _ _
 have hs:s.size<=256:=by omega
 have c1':¬(256:Int) < s.size:=by omega
 have HPL:=zh (place_any s);obtain hpb:=placeS_bd s.data.toList 0 0;by_cases c2:z1m 0 0 s.data.toList=-1
 ·have hform:=hF hs c2
  have HE0:=zh (show errOf s.data.toList=(if (layOf s.data.toList).big then (3,0)
    else match (List.range (layOf s.data.toList).rts.length).find? (fun i=>(layOf s.data.toList).crooked ((layOf s.data.toList).rt i)) with
     | some i=>(4,(i:Int))
     | none=>match (List.range (layOf s.data.toList).tns.length).find? (fun i=>(layOf s.data.toList).stray i) with
      | some i=>(5,(i:Int))
      | none=>if (layOf s.data.toList).sound (List.replicate (layOf s.data.toList).tns.length 0) then (0,0) else (6,0)) by
   rw[errOf,hsl,if_neg c1,if_neg (by simp[c2])])
  obtain⟨f1,f2,f3,f4,p0,p1,p2,p3,f5,f6,f7,f8⟩:=hform;have hlay:layOf s.data.toList=readF s.data.toList p1 p2 p3:=by rw[layOf,f5]
  rw[hlay] at HE0 f8 ⊢;have HRD:=zh (fun w=>read_lo s w p0 p1 p2 p3 hs (by rw[<-hsl]; exact f1) f2 f3 f4 f5 f6 f7);generalize readF s.data.toList p1 p2 p3=L at *;have HPA:=zh f8;rw[c2] at HPL;generalize errOf s.data.toList=E at *;clear hF hsl hz0 hpb f1 f2 f3 f4 f5 f6 f7 f8 hlay c1 c2;go_enter Tryz.func60,Tryz.ntmps60
  go_wp2_with (first
   | (go_at_call 93; refine(uh HPL _ hs).mono ?_; rintro e w' ⟨rfl,rfl⟩))
  refine(uh HRD _).mono ?_;rintro e w1 ⟨v,rfl,hRL,hb1⟩;have HRL:=zh (hRL.mono (m:=w.heap.size) (by simp));have hR:=hRL.plan;clear hRL;have hz1:w1.heap[w.heap.size]?=some z39:=by rw[hb1.block _ (by simp)]; exact heap_alloc_new w z39
  have hbw:Below w.heap.size w w1:=(z01 w z39).trans (hb1.mono (by simp));have HR:=zh hR;obtain⟨vh,vr,vt,rfl,q1,q2,q3⟩:=hR;obtain⟨ah,ch,rfl,-,-,-⟩:=SlAt.open q1;obtain⟨ar,cr,rfl,-,crm,r3⟩:=SlAt.open q2;obtain⟨at_,ct,rfl,-,ctm,-⟩:=SlAt.open q3;unfold maxLen at crm ctm;have HZ:=zh hz1;have HBW:=zh hbw;have hlt0:=z0g hz1;have HR3:=zh r3;clear q1 q2 q3 hz1 hbw hb1 r3;obtain⟨o,ho⟩:∃o,o=z1k L (.slice ah L.sw.length ch) (.slice ar L.rts.length cr) (.slice at_ L.tns.length ct):=⟨_,rfl⟩
  go_wp2_with fail
  refine(large_any _ L _ ((uh HR).below (z01 w1 _))).mono ?_;rintro e w2 ⟨rfl,hb2⟩;have hbx:Below (w1.heap.size+1) (w1.alloc (z1k L (.slice ah L.sw.length ch) (.slice ar L.rts.length cr) (.slice at_ L.tns.length ct))) w2:=hb2.mono (by simp);have HBX:=zh hbx;clear hb2 ho;cases hbig:L.big with
  | true=>
   rw[hbig] at HE0;have HE:=zh (show E=(3,0) from uh HE0);clear hbig hbx;have hzx:=six0 (res_at (uh HZ) (uh HBX));obtain⟨⟨z0,z1,z2,z3,z4,z5⟩,⟨x0,x1,x2,x3,x4,x5⟩,qx⟩:=hzx;have hS:=zh (store6 (⟨_,_,res_at (uh HZ) (uh HBX)⟩:Typed w2 w.heap.size 119) (.int .i64 0) (.int .i64 0) (.int .i64 0) (.slice none 0 0) (.slice none 0 0) (.slice none 0 0));go_wp2
   refine bodyPost_ret (v:=.tuple #[zeroV,.int .i64 3,.int .i64 0]) (by simp[results,Tryz.results60,go_sem,zeroV,z0,z1,z2,z3,z4,z5]) rfl ?_;exact⟨zeroV,by rw[uh HE]; rfl,z2q,fun h=>absurd h (by rw[uh HE]; simp),((uh HBW).trans ((z09 (uh HBX)).mono (uh HBW).size)).trans ((uh hS).2 _ (Nat.le_refl _))⟩
  | false=>
   rw[hbig] at HE0;have HE1:=zh (show E=_ from uh HE0);simp only[Bool.false_eq_true,if_false] at HE1;have hrl:L.rts.length<=12/\L.tns.length<=5:=by
    unfold Lay.big at hbig;simp only[Bool.or_eq_false_iff,decide_eq_false_iff_not] at hbig;omega
   obtain⟨hrl,htl⟩:=hrl;clear hbig HE0 hbx;go_wp2
   go_loopg [8] L.rts.length (fun n i wr=>∃k:Nat,i=.int .i64 k/\n+k=L.rts.length/\(∀j,j < k->L.crooked (L.rt j)=false)/\Below (w1.heap.size+1) (w1.alloc (z1k L (.slice ah L.sw.length ch) (.slice ar L.rts.length cr) (.slice at_ L.tns.length ct))) wr)
   case atStart=>exact⟨0,rfl,by omega,fun j h=>by omega,uh HBX⟩
   case round=>
   clear HBX;obtain⟨k,rfl,hk,hno,hb⟩:=hrel;have HNO:=zh hno;have HBX:=zh hb;have HK:=zh hk;obtain⟨t0,t1,t2,t3,t4,t5,qs⟩:=z1u hb;have hk':k<=L.rts.length:=by omega
   clear hno hk;by_cases hlt:k < L.rts.length
   ·obtain⟨gr,offr,hao,hgr,cs,-,hC,hc⟩:=uh HR3 k hlt
    subst hao;have HCR:=zh hC;obtain⟨vp,vs,vf,vl,hcs,d1,d2,d3,d4⟩:=hC;subst hcs;have e0:=hc 0 (by omega);have e1:=hc 1 (by omega);have e2:=hc 2 (by omega);have e3:=hc 3 (by omega);have e4:=hc 4 (by omega);rw[<-(z09 hb).cell (p:=⟨gr,_,none⟩) hgr] at e0 e1 e2 e3 e4;simp at e0 e1 e2 e3 e4;have HRT:=zh (rt_eq L k hlt);obtain⟨ap,cp,rfl,-,-,-⟩:=SlAt.open d1;obtain⟨as_,cs_,rfl,-,-,-⟩:=SlAt.open d2;obtain⟨af,cf,rfl,-,-,-⟩:=SlAt.open d3;obtain⟨al,cl,rfl,-,-,-⟩:=SlAt.open d4;have hcr:=zh (fun (wz:World) (hz:Below w1.heap.size w1 wz)=>crooked_any _ L L.rts[k] _ _ _ _ wz ((uh HR).below hz) ((uh HCR).keep (Keeps.below hz) (Keeps.below hz)) (uh HPA));have l0:(0:Int)<=k:=by omega
    have l1:(k:Int) < L.rts.length:=by omega
    clear hc d1 d2 d3 d4 hb;generalize hrr:L.rts[k]=R at *;have HRR:=zh hrr;clear hrr;generalize hcrk:L.crooked R=bad at *;have HBAD:=zh hcrk;clear hcrk;go_wp2
    go_cut [9] (fun v wx=>v=.bool bad/\Below (w1.heap.size+1) (w1.alloc (z1k L (.slice ah L.sw.length ch) (.slice (some ⟨gr,offr,none⟩) L.rts.length cr) (.slice at_ L.tns.length ct))) wx)
    case first=>
     go_region_with (go_at_call 96; refine(uh hcr _ ?_).mono ?_; exact(z09 (uh HBX)).drew; rintro e w3 ⟨rfl,hb3⟩)
     all_goals
      have hbx3:=zh (((uh HBX).drew).trans (hb3.mono (B':=w1.heap.size+1) qs));clear hb3;go_wp2_with fail
      go_meet
      exact⟨rfl,uh hbx3⟩
    case rest=>
     obtain⟨rfl,hbx3⟩:=hcut;clear HBX t0 t1 t2 t3 t4 t5 e0 e1 e2 e3 e4;have HBX:=zh hbx3;clear hbx3;cases bad with
     | true=>
      have HE:=zh (show E=(4,(k:Int)) by
       rw[uh HE1,z5o (fun i=>L.crooked (L.rt i)) _ k hlt (uh HNO) (by rw[uh HRT]; exact uh HBAD)])
      clear HE1;have hzx:=six0 (res_at (uh HZ) (uh HBX));obtain⟨⟨z0,z1,z2,z3,z4,z5⟩,⟨x0,x1,x2,x3,x4,x5⟩,qx⟩:=hzx;have hS:=zh (store6 (⟨_,_,res_at (uh HZ) (uh HBX)⟩:Typed wc w.heap.size 119) (.int .i64 0) (.int .i64 0) (.int .i64 0) (.slice none 0 0) (.slice none 0 0) (.slice none 0 0));go_wp2
      refine bodyPost_ret (v:=.tuple #[zeroV,.int .i64 4,.int .i64 k]) (by simp[results,Tryz.results60,go_sem,zeroV,z0,z1,z2,z3,z4,z5]) rfl ?_;exact⟨zeroV,by rw[uh HE]; rfl,z2q,fun h=>absurd h (by rw[uh HE]; simp),((uh HBW).trans ((z09 (uh HBX)).mono (uh HBW).size)).trans ((uh hS).2 _ (Nat.le_refl _))⟩
     | false=>
      have hnk:=zh (show ∀j,j < k+1->L.crooked (L.rt j)=false by
       intro j hj;rcases Nat.lt_or_ge j k with h | h
       ·exact uh HNO j h
       ·obtain rfl:j=k:=by omega
        rw[uh HRT]; exact uh HBAD)
      go_wp2
      go_roundg (gk - 1)
      case measure=>have:=uh HK; omega
      case rel=>exact⟨k+1,by go_num,by have:=uh HK; omega,uh hnk,uh HBX⟩
   ·have HE2:=zh (show E=(match (List.range L.tns.length).find? (fun i=>L.stray i) with
      | some i=>(5,(i:Int))
      | none=>if L.sound (List.replicate L.tns.length 0) then (0,0) else (6,0)) by
     obtain rfl:k=L.rts.length:=by omega
     rw[uh HE1,find_none (fun i=>L.crooked (L.rt i)) _ (uh HNO)])
    clear HE1 hb HNO HK;go_wp2
    go_loopg [10] L.tns.length (fun n i wr=>∃k:Nat,i=.int .i64 k/\n+k=L.tns.length/\(∀j,j < k->L.stray j=false)/\Below (w1.heap.size+1) (w1.alloc (z1k L (.slice ah L.sw.length ch) (.slice ar L.rts.length cr) (.slice at_ L.tns.length ct))) wr)
    case atStart=>exact⟨0,rfl,by omega,fun j h=>by omega,uh HBX⟩
    case round=>
    clear HBX t0 t1 t2 t3 t4 t5 qs hk' hlt;obtain⟨k,rfl,hk,hno,hb⟩:=hrel;have HNO:=zh hno;have HBX:=zh hb;have HK:=zh hk;have hk':k<=L.tns.length:=by omega
    obtain⟨t0,t1,t2,t3,t4,t5,qs⟩:=z1u hb;clear hno hk;by_cases hlt:k < L.tns.length
    ·generalize hst:L.stray k=bad at *
     have HST:=zh hst;clear hst hb;go_wp2_with fail
     refine(stray_any _ L k _ ((uh HR).below (z09 (uh HBX))) hlt (uh HPA)).mono ?_;rw[uh HST];rintro e w3 ⟨rfl,hb3⟩;have hbx3:=(uh HBX).trans (hb3.mono (B':=w1.heap.size+1) qs);clear HBX t0 t1 t2 t3 t4 t5 hb3;have HBX:=zh hbx3;clear hbx3;cases bad with
     | true=>
      have HE:=zh (show E=(5,(k:Int)) by
       rw[uh HE2,z5o (fun i=>L.stray i) _ k hlt (uh HNO) (uh HST)])
      clear HE2;have hzx:=six0 (res_at (uh HZ) (uh HBX));obtain⟨⟨z0,z1,z2,z3,z4,z5⟩,⟨x0,x1,x2,x3,x4,x5⟩,qx⟩:=hzx;have hS:=zh (store6 (⟨_,_,res_at (uh HZ) (uh HBX)⟩:Typed w3 w.heap.size 119) (.int .i64 0) (.int .i64 0) (.int .i64 0) (.slice none 0 0) (.slice none 0 0) (.slice none 0 0));go_wp2
      refine bodyPost_ret (v:=.tuple #[zeroV,.int .i64 5,.int .i64 k]) (by simp[results,Tryz.results60,go_sem,zeroV,z0,z1,z2,z3,z4,z5]) rfl ?_;exact⟨zeroV,by rw[uh HE]; rfl,z2q,fun h=>absurd h (by rw[uh HE]; simp),((uh HBW).trans ((z09 (uh HBX)).mono (uh HBW).size)).trans ((uh hS).2 _ (Nat.le_refl _))⟩
     | false=>
      have hnk:=zh (show ∀j,j < k+1->L.stray j=false by
       intro j hj;rcases Nat.lt_or_ge j k with h | h
       ·exact uh HNO j h
       ·obtain rfl:j=k:=by omega
        exact uh HST)
      go_wp2
      go_roundg (gk - 1)
      case measure=>have:=uh HK; omega
      case rel=>exact⟨k+1,by go_num,by have:=uh HK; omega,uh hnk,uh HBX⟩
    ·have HE3:=zh (show E=(if L.sound (List.replicate L.tns.length 0) then (0,0) else (6,0)) by
      obtain rfl:k=L.tns.length:=by omega
      rw[uh HE2,find_none (fun i=>L.stray i) _ (uh HNO)])
     have HSTR:=zh (show ∀j,j < L.tns.length->L.stray j=false by
      obtain rfl:k=L.tns.length:=by omega
      exact uh HNO)
     clear HE2 hb HK;go_wp2
     have HJ:=zh (jnys_of L (uh HSTR));obtain⟨i0,hi0⟩:=info_parts Tryz.infoInt;have hmk:=fun (wz:World)=>run_make (P:=Tryz.prog) wz 49 3 i0 (.int .i64 0) Tryz.underlying49 hi0.1 hi0.2.1 .i64 .i64 (L.tns.length:Int) (L.tns.length:Int) (by omega) (by omega) (by rw[hi0.2.2.2]; omega) (by omega);rw[hi0.2.2.1] at hmk;simp only[Int.toNat_natCast] at hmk;generalize hsd:L.sound (List.replicate L.tns.length 0)=sd at *;have HSD:=zh hsd;have hsnd:=zh (fun (wz:World) (hz:Below w1.heap.size w1 wz)=>sound_any _ _ L (List.replicate L.tns.length 0) ((wz.alloc (.cells (madeCells #[.int .i64 0] L.tns.length) 3)).drew) ((uh HR).below ((hz.trans ((z01 wz _).mono hz.size)).drew)) ((ints_made wz L.tns.length (by unfold maxLen; omega)).keep (Keeps.drew _ _)) (by simp) (uh HPA) (uh HJ) (by omega));rw[uh HSD] at hsnd;clear hsd hi0 HNO;go_cut [12] (fun v wx=>v=.bool sd/\Below (w1.heap.size+1) (w1.alloc (z1k L (.slice ah L.sw.length ch) (.slice ar L.rts.length cr) (.slice at_ L.tns.length ct))) wx)
     case first=>
      go_region_with (go_at_call 98; refine(uh hsnd _ (z09 (uh HBX))).mono ?_; rintro e w3 ⟨rfl,hb3⟩)
      all_goals
       have hbx3:=zh (((uh HBX).alloc qs (.cells (madeCells #[.int .i64 0] L.tns.length) 3)).drew.trans (hb3.mono (B':=w1.heap.size+1) (by show w1.heap.size+1<=(wr.alloc (.cells (madeCells #[.int .i64 0] L.tns.length) 3)).heap.size; simp; omega)));clear hb3;go_wp2_with fail
       go_meet
       exact⟨rfl,uh hbx3⟩
     case rest=>
      obtain⟨rfl,hbx3⟩:=hcut;clear HBX t0 t1 t2 t3 t4 t5 hmk;have HBX:=zh hbx3;clear hbx3;cases sd with
      | false=>
       have HE:=zh (show E=(6,0) by rw[uh HE3]; rfl);clear HE3;have hzx:=six0 (res_at (uh HZ) (uh HBX));obtain⟨⟨z0,z1,z2,z3,z4,z5⟩,⟨x0,x1,x2,x3,x4,x5⟩,qx⟩:=hzx;have hS:=zh (store6 (⟨_,_,res_at (uh HZ) (uh HBX)⟩:Typed wc w.heap.size 119) (.int .i64 0) (.int .i64 0) (.int .i64 0) (.slice none 0 0) (.slice none 0 0) (.slice none 0 0));go_wp2
       refine bodyPost_ret (v:=.tuple #[zeroV,.int .i64 6,.int .i64 0]) (by simp[results,Tryz.results60,go_sem,zeroV,z0,z1,z2,z3,z4,z5]) rfl ?_;exact⟨zeroV,by rw[uh HE]; rfl,z2q,fun h=>absurd h (by rw[uh HE]; simp),((uh HBW).trans ((z09 (uh HBX)).mono (uh HBW).size)).trans ((uh hS).2 _ (Nat.le_refl _))⟩
      | true=>
       have HE:=zh (show E=(0,0) by rw[uh HE3]; rfl);clear HE3;obtain⟨⟨z0,z1,z2,z3,z4,z5⟩,⟨x0,x1,x2,x3,x4,x5⟩,qx⟩:=six0 (res_at (uh HZ) (uh HBX));obtain⟨t0,t1,t2,t3,t4,t5,qs2⟩:=z1u (uh HBX);have hS:=zh (store6 (⟨_,_,res_at (uh HZ) (uh HBX)⟩:Typed wc w.heap.size 119) (.int .i64 L.T) (.int .i64 L.D) (.int .i64 L.Q) (.slice ah L.sw.length ch) (.slice ar L.rts.length cr) (.slice at_ L.tns.length ct));have hRc:=zh ((uh HRL).below (z09 (uh HBX)));go_wp2
       refine bodyPost_ret (v:=.tuple #[.agg #[.int .i64 L.T,.int .i64 L.D,.int .i64 L.Q,.slice ah L.sw.length ch,.slice ar L.rts.length cr,.slice at_ L.tns.length ct],.int .i64 0,.int .i64 0]) (by simp[results,Tryz.results60,go_sem,z0,z1,z2,z3,z4,z5]) rfl ?_;refine⟨_,by rw[uh HE]; rfl,(uh HR).shape,fun _=>?_,((uh HBW).trans ((z09 (uh HBX)).mono (uh HBW).size)).trans ((uh hS).2 _ (Nat.le_refl _))⟩;exact(uh hRc).keep (fun e he=>(uh hS).1 e he)
 ·have hp0:0<=z1m 0 0 s.data.toList:=(hpb.resolve_left c2).1
  have HE:=zh (show errOf s.data.toList=(2,z1m 0 0 s.data.toList) by rw[errOf,hsl,if_neg c1,if_pos c2]);generalize errOf s.data.toList=E at *;generalize z1m 0 0 s.data.toList=pl at *;clear hF hsl hz0 hpb c1 c2;go_enter Tryz.func60,Tryz.ntmps60
  go_wp2_with (first
   | (go_at_call 93; refine(uh HPL _ hs).mono ?_; rintro e w' ⟨rfl,rfl⟩))
  refine bodyPost_ret (v:=.tuple #[zeroV,.int .i64 2,.int .i64 pl]) (by simp[results,Tryz.results60,go_sem,zeroV]) rfl ?_;refine⟨zeroV,by rw[uh HE]; rfl,z2q,fun h=>absurd h (by rw[uh HE]; simp),?_⟩;exact z01 _ _
theorem Read_any (s:ByteArray) (w:World) (hF:s.size<=256->z1m 0 0 s.data.toList=-1->Form s.data.toList) :
  Calls Tryz.prog 60 #[.string s] w fun e w'=>∃v,e=.returned (.tuple #[v,.int .i64 (errOf s.data.toList).1,.int .i64 (errOf s.data.toList).2]) ∧
   PShape v/\((errOf s.data.toList).1=0->RPlan w' v (layOf s.data.toList))/\Below w.heap.size w w':=
 (Read_lo s w hF).mono (fun _ _ ⟨v,a,b,c,d⟩=>⟨v,a,b,fun h=>(c h).plan,d⟩)
end Go.Proofs.YtkbpocecbcaiiabGreatDoor
