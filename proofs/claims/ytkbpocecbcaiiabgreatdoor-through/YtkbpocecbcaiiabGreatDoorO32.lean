import Derived.Test.YtkbpocecbcaiiabGreatDoorO30
namespace Go.Proofs.YtkbpocecbcaiiabGreatDoor
open Go.RowKit
def Lay.trainOK (L:Lay) (t:Tn) (ahead:List Tn):Bool:=decide (t.start < L.sw.length)&&!L.flankedB t.start&&!ahead.any (fun o=>o.start==t.start)&&L.joins t.start t.jny
set_option maxHeartbeats 1000000 in
theorem trainRight_any (v v1 v2:Value) (L:Lay) (t:Tn) (ahead:List Tn) (w:World) (h:CLay w v L) (ht:VTn w v1 t) (ha:Tns w v2 ahead) (hp:L.Paths) :
  Calls Tryz.prog 129 #[v,v1,v2] w fun e w'=>e=.returned (.bool (L.trainOK t ahead))/\Below w.heap.size w w':=by
 have HL:=zh h;have HV:=zh ht;obtain⟨vs,vr,vt,rfl,-,-,-⟩:=h;obtain⟨vj,rfl,hJ⟩:=ht;obtain⟨aj,cj,rfl,-,-,-⟩:=SlAt.open hJ;obtain⟨ao,ca,rfl,h1,h2,h3⟩:=SlAt.open ha;unfold maxLen at h2;have HP:=zh hp;clear hJ ha hp;have H1:=zh (fun (wz:World) (hz:Below w.heap.size w wz)=>z2l _ L t.start wz ((uh HL).below hz));have H2:=zh (fun (wz:World) (hz:Below w.heap.size w wz)=>inFlank_any _ L t.start wz ((uh HL).below hz));have H3:=zh (fun (wz:World) (hz:Below w.heap.size w wz)=>journeyRight_any _ _ L t wz ((uh HL).below hz) ((uh HV).below hz) (uh HP));obtain⟨z,hz⟩:∃z,z=L.trainOK t ahead:=⟨_,rfl⟩
 rw[<-hz];unfold Lay.trainOK at hz;have HZ:=zh hz;clear hz;have b1:=blk1 w (z0n L vs vr vt) (.cells #[.int .i64 t.start,.slice aj t.jny.length cj] 186);have b2:=blk2 w (z0n L vs vr vt) (.cells #[.int .i64 t.start,.slice aj t.jny.length cj] 186);have BB:=zh (And.intro b1 b2);clear b1 b2;generalize decide (t.start < L.sw.length)=c1 at *;generalize L.flankedB t.start=c2 at *;generalize L.joins t.start t.jny=c4 at *;go_enter Tryz.func129,Tryz.ntmps129
 go_wp2_with fail
 refine(uh H1 _ (z08 (o1:=z0n L vs vr vt) (Below.refl _ _))).mono ?_;rintro e w1 ⟨rfl,hb1⟩;have HB:=zh (show Below (w.heap.size+2) ((w.alloc (z0n L vs vr vt)).alloc (.cells #[.int .i64 t.start,.slice aj t.jny.length cj] 186)) w1 from hb1.mono (by simp));clear hb1;have qs:=z1r (uh HB);obtain⟨⟨q0,q1,q2,q3,q4,q5⟩,-,-⟩:=six0 (((uh HB).block _ (by omega)).trans (uh BB).1);obtain⟨⟨y0,y1⟩,-,-⟩:=duo0 (((uh HB).block _ (by omega)).trans (uh BB).2);cases c1 with
 | false=>
  have HZ2:=zh (show z=false from uh HZ);clear HZ h3;go_wp2
  go_ret
  exact⟨z04 (uh HZ2).symm,z08 (uh HB)⟩
 | true=>
  go_wp2_with fail
  refine(uh H2 _ (z08 (uh HB))).mono ?_;rintro e w2 ⟨rfl,hb2⟩;have HBn:=zh ((uh HB).trans (hb2.mono (B':=w.heap.size+2) (by omega)));clear HB qs q0 q1 q2 q3 q4 q5 y0 y1 hb2;have HB:=HBn;clear HBn;cases c2 with
  | true=>
   have HZ2:=zh (show z=false from uh HZ);clear HZ h3;go_wp2
   go_ret
   exact⟨z04 (uh HZ2).symm,z08 (uh HB)⟩
  | false=>
   have HZ1:=zh (show z=(!ahead.any (fun o=>o.start==t.start)&&c4) from uh HZ);clear HZ;go_wp2
   go_loopw [22] (fun i wr=>∃k:Nat,i=.int .i64 k/\k<=ahead.length/\(ahead.take k).any (fun o=>o.start==t.start)=false ∧
     Below (w.heap.size+2) ((w.alloc (z0n L vs vr vt)).alloc (.cells #[.int .i64 t.start,.slice aj t.jny.length cj] 186)) wr) (fun i _=>ahead.length - (intOf i).toNat)
   case atStart=>exact⟨0,rfl,Nat.zero_le _,rfl,uh HB⟩
   case round=>
   clear HB;obtain⟨k,rfl,hk,hno,hb⟩:=hrel;have HNO:=zh hno;have HB:=zh hb;have qs:=z1r hb;obtain⟨⟨q0,q1,q2,q3,q4,q5⟩,-,-⟩:=six0 ((hb.block _ (by omega)).trans (uh BB).1);obtain⟨⟨y0,y1⟩,-,-⟩:=duo0 ((hb.block _ (by omega)).trans (uh BB).2);clear hno;by_cases hlt:k < ahead.length
   ·obtain⟨g,off,hao,hg,cs,-,hC,hc⟩:=h3 k hlt
    subst hao;obtain⟨vj2,rfl,hJ2⟩:=hC;have hc0:=hc 0 (by omega);have hc1:=hc 1 (by omega);rw[<-(z08 hb).cell (p:=⟨g,_,none⟩) hg] at hc0 hc1;simp at hc0 hc1;have hgw:g < wr.heap.size:=by omega
    obtain⟨a2,d2,rfl,-,-,-⟩:=SlAt.open hJ2;have HA:=zh (z3u (fun o=>o.start==t.start) ahead k hlt);have hmem:=zh (List.getElem_mem hlt);clear hc h3 hJ2 hb;generalize ahead[k]=T2 at *;by_cases hx:T2.start=t.start
    ·have d:((T2.start:Int)==(t.start:Int))=true:=by simp; omega
     have HZ2:=zh (show z=false by
      rw[uh HZ1,List.any_eq_true.2 ⟨T2,uh hmem,by simpa using hx⟩]; rfl)
     clear hx HZ1;go_wp2
     go_ret
     exact⟨z04 (uh HZ2).symm,(z08 (uh HB)).alloc (by have:=(z08 (uh HB)).size; omega) _⟩
    ·have d:((T2.start:Int)==(t.start:Int))=false:=by simp; omega
     have HX:=zh (show (T2.start==t.start)=false by simpa using hx);clear hx;go_wp2
     exact⟨⟨k+1,by go_num,by omega,by rw[uh HA,uh HNO,uh HX]; rfl,(uh HB).alloc (by omega) _⟩,by simp[intOf]; omega⟩
   ·have HZ2:=zh (show z=c4 by
     rw[List.take_of_length_le (by omega)] at HNO;rw[uh HZ1,uh HNO]; rfl)
    clear h3 hb;go_wp2_with fail
    refine(uh H3 _ (z08 (uh HB))).mono ?_;rintro e w3 ⟨rfl,hb3⟩;have hb4:=zh ((z08 (uh HB)).trans (hb3.mono (z08 (uh HB)).size));clear hb3;go_wp2
    go_ret
    exact⟨z04 (uh HZ2).symm,uh hb4⟩
set_option maxHeartbeats 1000000 in
theorem sizesFit_any (v:Value) (L:Lay) (w:World) (h:CLay w v L) :
  Calls Tryz.prog 127 #[v] w fun e w'=>e=.returned (.bool (!L.big))/\Below w.heap.size w w':=by
 obtain⟨vh,vr,vt,rfl,hH,hR,hT⟩:=h;obtain⟨aoh,caph,rfl,h1,h2,-⟩:=SlAt.open hH;obtain⟨aor,capr,rfl,r1,r2,r3⟩:=SlAt.open hR;obtain⟨aot,capt,rfl,t1,t2,t3⟩:=SlAt.open hT;clear hH hR hT;unfold maxLen at h2 r2 t2;obtain⟨z,hz⟩:∃z,z=!L.big:=⟨_,rfl⟩
 rw[<-hz];have HZ:=zh hz;clear hz;by_cases c1:16 < L.sw.length
 ·have hz:=zh (show z=false by rw[uh HZ]; simp[Lay.big,c1])
  have c1':(16:Int) < L.sw.length:=by omega
  clear r3 t3;go_enter Tryz.func127,Tryz.ntmps127
  go_wp2
  go_ret
  exact⟨z04 (uh hz).symm,z01 _ _⟩
 by_cases c2:12 < L.rts.length
 ·have hz:=zh (show z=false by rw[uh HZ]; simp[Lay.big,c2])
  have c1':¬(16:Int) < L.sw.length:=by omega
  clear r3 t3;go_enter Tryz.func127,Tryz.ntmps127
  go_wp2
  go_ret
  exact⟨z04 (uh hz).symm,z01 _ _⟩
 by_cases c3:5 < L.tns.length
 ·have hz:=zh (show z=false by rw[uh HZ]; simp[Lay.big,c3])
  clear r3 t3;go_enter Tryz.func127,Tryz.ntmps127
  go_wp2
  go_ret
  exact⟨z04 (uh hz).symm,z01 _ _⟩
 have HZ2:=zh (show z=!(L.rts.any (fun r=>decide (6 < r.path.length)||decide (4 < r.flank.length))||L.tns.any (fun t=>decide (8 < t.jny.length))) by rw[uh HZ]; simp[Lay.big,c1,c2,c3]);clear HZ;go_enter Tryz.func127,Tryz.ntmps127
 go_wp2
 go_loopw [26] (fun i wr=>∃k:Nat,k<=L.rts.length/\i=.int .i64 k/\(L.rts.take k).any (fun r=>decide (6 < r.path.length)||decide (4 < r.flank.length))=false ∧
   Below (w.heap.size+1) (w.alloc (z0n L (.slice aoh L.sw.length caph) (.slice aor L.rts.length capr) (.slice aot L.tns.length capt))) wr) (fun i _=>L.rts.length - (intOf i).toNat)
 case atStart=>exact⟨0,Nat.zero_le _,rfl,rfl,Below.refl _ _⟩
 case round=>
  obtain⟨k,hk,rfl,hz,hb⟩:=hrel;have HQ:=zh hz;have HB:=zh hb;obtain⟨q0,q1,q2,q3,q4,q5,qs⟩:=z3x hb;clear hz;by_cases hlt:k < L.rts.length
  ·have HA:=zh (z3u (fun r:Rt=>decide (6 < r.path.length)||decide (4 < r.flank.length)) L.rts k hlt)
   obtain⟨g,off,hao,hg,cs,-,hC,hc⟩:=r3 k hlt;subst hao;obtain⟨vp,vf,rfl,hP,hF⟩:=hC;have hc0:=hc 0 (by omega);have hc1:=hc 1 (by omega);have hc2:=hc 2 (by omega);rw[<-(z09 hb).cell (p:=⟨g,_,none⟩) hg] at hc0 hc1 hc2;obtain⟨aop,capp,rfl,p1,p2,-⟩:=SlAt.open hP;obtain⟨aof,capf,rfl,f1,f2,-⟩:=SlAt.open hF;have hgw:g < wr.heap.size:=by omega
   clear hc r3 t3 hP hF hb;unfold maxLen at p2 f2;simp at hc0 hc1 hc2;have hmem:L.rts[k]∈L.rts:=List.getElem_mem hlt;have HM:=zh (fun (h:(decide (6 < L.rts[k].path.length)||decide (4 < L.rts[k].flank.length))=true)=>show z=false by
    rw[uh HZ2,List.any_eq_true.2 ⟨_,hmem,h⟩]; rfl)
   clear hmem;generalize L.rts[k].foot=ft at *;generalize L.rts[k].path=pp at *;generalize L.rts[k].flank=ff at *;by_cases d1:6 < pp.length
   ·have hz:=zh (uh HM (by simp[d1]))
    have hb3:=zh ((uh HB).alloc qs (.cells #[.int .i64 ft,.slice aop pp.length capp,.slice aof ff.length capf] 113));have d1':(6:Int) < pp.length:=by omega
    go_wp2
    go_ret
    exact⟨z04 (uh hz).symm,z09 (uh hb3)⟩
   by_cases d2:4 < ff.length
   ·have hz:=zh (uh HM (by simp[d2]))
    have hb3:=zh ((uh HB).alloc qs (.cells #[.int .i64 ft,.slice aop pp.length capp,.slice aof ff.length capf] 113));go_wp2
    go_ret
    exact⟨z04 (uh hz).symm,z09 (uh hb3)⟩
   ·have hb3:=zh ((uh HB).alloc qs (.cells #[.int .i64 ft,.slice aop pp.length capp,.slice aof ff.length capf] 113))
    go_wp2
    exact⟨⟨k+1,by omega,by go_num,by rw[uh HA,uh HQ]; simp; omega,uh hb3⟩,by simp[intOf]; omega⟩
  ·have HZ3:=zh (show z=!L.tns.any (fun t=>decide (8 < t.jny.length)) by
    have e:=uh HQ;rw[List.take_of_length_le (by omega)] at e;rw[uh HZ2,e,Bool.false_or])
   clear HZ2 hb;go_wp2
   go_loopw [44] (fun i wr=>∃k:Nat,k<=L.tns.length/\i=.int .i64 k/\(L.tns.take k).any (fun t=>decide (8 < t.jny.length))=false ∧
     Below (w.heap.size+1) (w.alloc (z0n L (.slice aoh L.sw.length caph) (.slice aor L.rts.length capr) (.slice aot L.tns.length capt))) wr) (fun i _=>L.tns.length - (intOf i).toNat)
   case atStart=>exact⟨0,Nat.zero_le _,rfl,rfl,uh HB⟩
   case round=>
    clear HQ HB q0 q1 q2 q3 q4 q5 qs hk hlt;obtain⟨k,hk,rfl,hz,hb⟩:=hrel;have HQ:=zh hz;have HB:=zh hb;obtain⟨q0,q1,q2,q3,q4,q5,qs⟩:=z3x hb;clear hz;by_cases hlt:k < L.tns.length
    ·have HA:=zh (z3u (fun t:Tn=>decide (8 < t.jny.length)) L.tns k hlt)
     obtain⟨g,off,hao,hg,cs,-,hC,hc⟩:=t3 k hlt;subst hao;obtain⟨vj,rfl,hJ⟩:=hC;have hc0:=hc 0 (by omega);have hc1:=hc 1 (by omega);rw[<-(z09 hb).cell (p:=⟨g,_,none⟩) hg] at hc0 hc1;obtain⟨aoj,capj,rfl,j1,j2,-⟩:=SlAt.open hJ;have hgw:g < wr.heap.size:=by omega
     clear hc r3 t3 hJ hb;unfold maxLen at j2;simp at hc0 hc1;have hmem:L.tns[k]∈L.tns:=List.getElem_mem hlt;have HM:=zh (fun (h:decide (8 < L.tns[k].jny.length)=true)=>show z=false by
      rw[uh HZ3,List.any_eq_true.2 ⟨_,hmem,h⟩]; rfl)
     clear hmem;generalize L.tns[k].start=st at *;generalize L.tns[k].jny=jl at *;have hb3:=zh ((uh HB).alloc qs (.cells #[.int .i64 st,.slice aoj jl.length capj] 186));by_cases d1:8 < jl.length
     ·have hz:=zh (uh HM (by simp[d1]))
      go_wp2
      go_ret
      exact⟨z04 (uh hz).symm,z09 (uh hb3)⟩
     ·go_wp2
      exact⟨⟨k+1,by omega,by go_num,by rw[uh HA,uh HQ]; simp; omega,uh hb3⟩,by simp[intOf]; omega⟩
    ·have hz:=zh (show z=true by
      have e:=uh HQ;rw[List.take_of_length_le (by omega)] at e;rw[uh HZ3,e]; rfl)
     have hb3:=z09 (uh HB);clear hb;go_wp2
     go_ret
     exact⟨z04 (uh hz).symm,hb3⟩
def rtnBox (t:Tn) (vj:Value):Obj:=.cells #[.int .i64 t.start,vj] 196
theorem two_rtn {w wr:World} {o1:Obj} {t:Tn} {vj:Value} (hb:Below (w.heap.size+2) ((w.alloc o1).alloc (rtnBox t vj)) wr) :
  wr.cell? ⟨w.heap.size+1,0,none⟩=some (.int .i64 t.start)/\wr.cell? ⟨w.heap.size+1,1,none⟩=some vj:=by
 have h:=blk2 w o1 (rtnBox t vj);exact⟨z1d hb (by omega) h 0,z1d hb (by omega) h 1⟩
set_option maxHeartbeats 1000000 in
theorem stray_any (v:Value) (L:Lay) (k:Nat) (w:World) (h:RPlan w v L) (hk:k < L.tns.length) (hp:L.Paths) :
  Calls Tryz.prog 97 #[v,.int .i64 k] w fun e w'=>e=.returned (.bool (L.stray k))/\Below w.heap.size w w':=by
 have HR:=zh h;obtain⟨vh,vr,vt,rfl,hH,hRt,hT⟩:=h;obtain⟨aoh,caph,rfl,h1,h2,-⟩:=SlAt.open hH;obtain⟨aor,capr,rfl,r1,r2,r3⟩:=SlAt.open hRt;obtain⟨ao,cap,rfl,t1,t2,t3⟩:=SlAt.open hT;obtain⟨g,off,rfl,hg,cs,-,hC,hc⟩:=t3 k hk;obtain⟨vj,rfl,hJ⟩:=hC;have hc0:=hc 0 (by omega);have hc1:=hc 1 (by omega);obtain⟨aoj,capj,rfl,j1,j2,j3⟩:=SlAt.open hJ;have HPS:=zh hp;have HTN:=zh (tn_eq L k hk);clear hH hRt hT hc hJ hp;unfold maxLen at h2 r2 t2 j2;simp at hc0 hc1;generalize hzz:L.stray k=z;have HZ:=zh hzz;clear hzz;generalize htk:L.tns[k]=tk at *;have HTK:=zh htk;clear htk;go_enter Tryz.func97,Tryz.ntmps97
 generalize hfl:L.flankedB tk.start=fl at *;have HFL:=zh hfl;clear hfl;have HZ0:=zh (show z=(decide (L.sw.length<=tk.start)||fl||(List.range k).any (fun i=>(L.tn i).start==tk.start)||!L.joins tk.start tk.jny) by
  rw[<-uh HZ,Lay.stray,uh HTN,uh HFL])
 clear HZ;go_wp2_with fail
 refine(flanked_any _ L tk.start _ ((uh HR).below ?_)).mono ?_
 ·exact z08 (o1:=z1k L (.slice aoh L.sw.length caph) (.slice aor L.rts.length capr) (.slice (some ⟨g,off,none⟩) L.tns.length cap)) (o2:=rtnBox tk (.slice aoj tk.jny.length capj)) (Below.refl _ _)
 rw[uh HFL];rintro e w1 ⟨rfl,hb1⟩;have hbA:Below (w.heap.size+2) ((w.alloc (z1k L (.slice aoh L.sw.length caph) (.slice aor L.rts.length capr) (.slice (some ⟨g,off,none⟩) L.tns.length cap))).alloc (rtnBox tk (.slice aoj tk.jny.length capj))) w1:=hb1.mono (by simp);have HA:=zh hbA;obtain⟨q0,q1,q2,q3,q4,q5⟩:=z2s hbA;obtain⟨y0,y1⟩:=two_rtn hbA;clear hb1 hbA hc0 hc1;by_cases c1:L.sw.length<=tk.start
 ·have hz:=zh (show z=true by rw[uh HZ0]; simp[c1])
  go_wp2
  go_ret
  exact⟨z04 (uh hz).symm,z08 (uh HA)⟩
 have hec:fl=true\/fl=false:=by cases fl <;> simp
 rcases hec with rfl | rfl
 ·have hz:=zh (show z=true by rw[uh HZ0]; simp)
  go_wp2
  go_ret
  exact⟨z04 (uh hz).symm,z08 (uh HA)⟩
 have HZ1:=zh (show z=((List.range k).any (fun i=>(L.tn i).start==tk.start)||!L.joins tk.start tk.jny) by rw[uh HZ0]; simp[c1]);clear HZ0;go_wp2
 go_loopw [7] (fun i wr=>∃n:Nat,n<=k/\i=.int .i64 n/\(List.range n).any (fun i=>(L.tn i).start==tk.start)=false ∧
   Below (w.heap.size+2) ((w.alloc (z1k L (.slice aoh L.sw.length caph) (.slice aor L.rts.length capr) (.slice (some ⟨g,off,none⟩) L.tns.length cap))).alloc (rtnBox tk (.slice aoj tk.jny.length capj))) wr) (fun i _=>k - (intOf i).toNat)
 case atStart=>exact⟨0,Nat.zero_le _,rfl,rfl,uh HA⟩
 case round=>
  clear q0 q1 q2 q3 q4 q5 y0 y1 HA;obtain⟨n,hn,rfl,hz,hb⟩:=hrel;have HQ:=zh hz;have HB:=zh hb;obtain⟨q0,q1,q2,q3,q4,q5⟩:=z2s hb;obtain⟨y0,y1⟩:=two_rtn hb;clear hz;by_cases hlt:n < k
  ·have hnL:n < L.tns.length:=by omega
   have HAS:=zh (z3v (fun i=>(L.tn i).start==tk.start) n);have HTI:=zh (show (L.tn n).start=L.tns[n].start by rw[tn_eq L n hnL]);obtain⟨g',off',hao,hg',cs2,-,hC2,hd⟩:=t3 n hnL;simp only[Option.some.injEq,Addr.mk.injEq,and_true] at hao;obtain⟨rfl,rfl⟩:=hao;obtain⟨vj2,rfl,-⟩:=hC2;have hd0:=hd 0 (by omega);rw[<-(z08 hb).cell (p:=⟨g,_,none⟩) hg] at hd0;simp at hd0;clear hd t3 hb r3 j3;have hl1:(0:Int)<=n:=by omega
   have hl2:(n:Int) < L.tns.length:=by omega
   generalize L.tns[n].start=sn at *;by_cases ce:sn=tk.start
   ·have hz:=zh (show z=true by rw[uh HZ1,z3w _ k n hlt (by simp[uh HTI,ce]),Bool.true_or])
    have d:((sn:Int)==(tk.start:Int))=true:=by simp; omega
    clear ce;go_wp2_with fail
    go_quiet (fail)
    go_wp2
    go_ret
    exact⟨z04 (uh hz).symm,below_drewN (z08 (uh HB)) _⟩
   ·have hz:=zh (show ((L.tn n).start==tk.start)=false by simp[uh HTI,ce])
    have d:((sn:Int)==(tk.start:Int))=false:=by simp; omega
    clear ce;go_wp2_with fail
    go_quiet (fail)
    go_wp2
    exact⟨⟨n+1,by omega,by go_num,by rw[uh HAS,uh HQ,uh hz]; rfl,below_drewN (uh HB) _⟩,by simp[intOf]; omega⟩
  ·have HZ2:=zh (show z=!L.joins tk.start tk.jny by
    obtain rfl:n=k:=by omega
    rw[uh HZ1,uh HQ,Bool.false_or])
   clear HZ1 hb;go_wp2
   go_loopw [8,9] (fun a i wr=>∃n s:Nat,n<=tk.jny.length/\i=.int .i64 n/\a=.int .i64 s/\L.joins tk.start tk.jny=L.joins s (tk.jny.drop n) ∧
     Below (w.heap.size+2) ((w.alloc (z1k L (.slice aoh L.sw.length caph) (.slice aor L.rts.length capr) (.slice (some ⟨g,off,none⟩) L.tns.length cap))).alloc (rtnBox tk (.slice aoj tk.jny.length capj))) wr) (fun _ i _=>tk.jny.length - (intOf i).toNat)
   case atStart=>exact⟨0,tk.start,Nat.zero_le _,rfl,rfl,rfl,uh HB⟩
   case round=>
   clear HQ HB q0 q1 q2 q3 q4 q5 y0 y1 hn hlt t3;obtain⟨n,s,hn,rfl,rfl,hz,hb⟩:=hrel;have HQ:=zh hz;have HB:=zh hb;obtain⟨q0,q1,q2,q3,q4,q5⟩:=z2s hb;obtain⟨y0,y1⟩:=two_rtn hb;have qs:=z1r hb;clear hz;by_cases hlt:n < tk.jny.length
   ·obtain⟨gj,offj,hao,hgj,cs3,-,hC3,he⟩:=j3 n hlt
    subst hao;unfold CInt at hC3;subst hC3;have he0:=he 0 (by omega);rw[<-(z08 hb).cell (p:=⟨gj,_,none⟩) hgj] at he0;simp at he0;have HJ:=zh (show L.joins s (tk.jny.drop n)=(decide (tk.jny[n] < L.rts.length)&&(L.rt tk.jny[n]).foot==s&&L.joins (L.endOf tk.jny[n]) (tk.jny.drop (n+1))) by
     rw[List.drop_eq_getElem_cons hlt]; rfl)
    clear he j3;generalize tk.jny[n]=r at *;by_cases cr:r < L.rts.length
    ·obtain⟨gr,offr,hao,hgr,cs4,-,hC4,hf⟩:=r3 r cr
     subst hao;obtain⟨vp,vs,vf,vl,rfl,-,-,-,-⟩:=hC4;have hf0:=hf 0 (by omega);rw[<-(z08 hb).cell (p:=⟨gr,_,none⟩) hgr] at hf0;simp at hf0;rw[rt_eq L r cr] at HJ;clear hf r3 hb;generalize L.rts[r].foot=ft at *;have d1:decide ((L.rts.length:Int)<=(r:Int))=false:=by simp; omega
     have d2:(0:Int)<=r:=by omega
     have d3:(r:Int) < L.rts.length:=by omega
     by_cases ce:ft=s
     ·have d4:((ft:Int) != (s:Int))=false:=by simp; omega
      have hJ:=zh (show L.joins tk.start tk.jny=L.joins (L.endOf r) (tk.jny.drop (n+1)) by rw[uh HQ,uh HJ]; simp[cr,ce]);clear ce;go_wp2_with fail
      refine(End_any _ L r _ ((uh HR).below (z08 (uh HB))) cr (uh HPS)).mono ?_;rintro e w2 ⟨rfl,hb2⟩;have hb5:=(uh HB).trans (hb2.mono (B':=w.heap.size+2) (by omega));clear hb2;go_wp2
      exact⟨⟨n+1,L.endOf r,by omega,by go_num,rfl,uh hJ,hb5⟩,by simp[intOf]; omega⟩
     ·have d4:((ft:Int) != (s:Int))=true:=by simp; omega
      have hz:=zh (show z=true by rw[uh HZ2,uh HQ,uh HJ]; simp[ce]);clear ce;go_wp2
      go_ret
      exact⟨z04 (uh hz).symm,z08 (uh HB)⟩
    ·have hz:=zh (show z=true by rw[uh HZ2,uh HQ,uh HJ]; simp[cr])
     have d1:decide ((L.rts.length:Int)<=(r:Int))=true:=by simp; omega
     clear r3 hb;go_wp2
     go_ret
     exact⟨z04 (uh hz).symm,z08 (uh HB)⟩
   ·have hz:=zh (show z=false by
     rw[uh HZ2,uh HQ,List.drop_of_length_le (by omega)]; rfl)
    clear r3 hb j3;go_wp2
    go_ret
    exact⟨z04 (uh hz).symm,z08 (uh HB)⟩
def Lay.undone (L:Lay) (at_:List Nat):Nat:=((List.range at_.length).filter (fun t=>!L.doneB at_ t)).length
theorem filter_lt_of (p q:Nat->Bool) (l:List Nat) (h:∀x,x∈l->q x=true->p x=true) (t:Nat) (ht:t∈l) (hp:p t=true) (hq:q t=false) :
  (l.filter q).length < (l.filter p).length:=by
 induction l with
 | nil=>cases ht
 | cons a l ih=>
  have hle:∀l:List Nat,(∀x,x∈l->q x=true->p x=true)->(l.filter q).length<=(l.filter p).length:=by
   intro l
   induction l with
   | nil=>intro _; simp
   | cons b l ih2=>
    intro h;have:=ih2 (fun x hx=>h x (List.mem_cons_of_mem _ hx));by_cases hb:q b=true
    ·have:=h b (List.mem_cons_self ..) hb
     simp[hb,this]; omega
    ·by_cases hb':p b=true <;> simp[hb,hb'] <;> omega
  by_cases ha:a=t
  ·subst ha
   have:=hle l (fun x hx=>h x (List.mem_cons_of_mem _ hx));simp[hp,hq]; omega
  ·have:=ih (fun x hx=>h x (List.mem_cons_of_mem _ hx)) (by simpa [Ne.symm ha] using ht)
   by_cases hb:q a=true
   ·have:=h a (List.mem_cons_self ..) hb
    simp[hb,this]; omega
   ·by_cases hb':p a=true <;> simp[hb,hb'] <;> omega
theorem done_with (L:Lay) (at_:List Nat) (t x:Nat) (ht:t < at_.length):L.doneB (L.withN at_ t) x=if x=t then true else L.doneB at_ x:=by
 unfold Lay.doneB Lay.withN;by_cases h:x=t
 ·subst h; simp[List.getD_eq_getElem?_getD,ht]
 ·simp[h,List.getD_eq_getElem?_getD,Ne.symm h]
theorem undone_with (L:Lay) (at_:List Nat) (t:Nat) (ht:t < at_.length) (hd:L.doneB at_ t=false):L.undone (L.withN at_ t) < L.undone at_:=by
 unfold Lay.undone;have hl:(L.withN at_ t).length=at_.length:=by simp[Lay.withN]
 rw[hl];refine filter_lt_of _ _ _ ?_ t (List.mem_range.2 ht) (by simp[hd]) ?_
 ·intro x _
  rw[done_with L at_ t x ht];by_cases h:x=t <;> simp[h]
 ·rw[done_with L at_ t t ht]; simp
theorem undone_pos (L:Lay) (at_:List Nat) (t:Nat) (ht:t < at_.length) (hd:L.doneB at_ t=false):0 < L.undone at_:=by
 unfold Lay.undone;exact List.length_pos_of_mem (a:=t) (by simp[List.mem_filter,ht,hd])
theorem soundF_true (L:Lay) (f:Nat) (at_:List Nat) (t:Nat) (ht:t < at_.length) (hd:L.doneB at_ t=false) (hr:L.runsB at_ t=true) (hs:L.soundF f (L.withN at_ t)=true):L.soundF (f+1) at_=true:=by
 simp only[Lay.soundF,Bool.or_eq_true,List.any_eq_true];exact .inr ⟨t,List.mem_range.2 ht,by simp[hd,hr,hs]⟩
theorem soundF_end (L:Lay) (f:Nat) (at_:List Nat) (h:∀t,t < at_.length->L.doneB at_ t=true\/∀f',f=f'+1->(L.runsB at_ t&&L.soundF f' (L.withN at_ t))=false):L.soundF f at_=L.allDone at_:=by
 cases f with
 | zero=>rfl
 | succ f=>
  simp only[Lay.soundF];have:(List.range at_.length).any (fun t=>!L.doneB at_ t&&L.runsB at_ t&&L.soundF f (L.withN at_ t))=false:=by
   rw[List.any_eq_false];intro t ht;rcases h t (List.mem_range.1 ht) with h | h
   ·simp[h]
   ·have:=h f rfl
    rw[Bool.and_assoc,this]; simp
  rw[this,Bool.or_false]
theorem all_range_succ (p:Nat->Bool) (n:Nat):(List.range (n+1)).all p=((List.range n).all p&&p n):=by
 rw[List.range_succ,List.all_append]; simp
def SoundAt (L:Lay) (f:Nat):Prop:=∀(v va:Value) (at_:List Nat) (w:World),RPlan w v L->Ints w va at_->at_.length=L.tns.length->L.undone at_<=f →
  Calls Tryz.prog 98 #[v,va] w fun e w'=>e=.returned (.bool (L.soundF f at_))/\Below w.heap.size w w'
set_option maxHeartbeats 1000000 in
theorem sound_step (L:Lay) (f:Nat) (hp:L.Paths) (hj:L.Jnys) (hsm:L.tns.length<=1000) (IH:∀f',f=f'+1->SoundAt L f'):SoundAt L f:=by
 intro v va at_ w h ha hl hu;have HR:=zh h;have HA:=zh ha;obtain⟨vh,vr,vt,rfl,-,-,hT⟩:=h;obtain⟨ao,cap,rfl,h1,h2,h3⟩:=SlAt.open hT;obtain⟨aoa,capa,rfl,a1,a2,a3⟩:=SlAt.open ha;have HL:=zh hl;have HP:=zh hp;have HJ:=zh hj;have HI:=zh IH;have hsm2:at_.length<=1000:=by omega
 clear hT ha IH hp hj;unfold maxLen at h2 a2;generalize hzz:L.soundF f at_=z;have HZ:=zh hzz;clear hzz;go_enter Tryz.func98,Tryz.ntmps98
 go_wp2
 go_loopw [5,6] (fun b i wr=>∃t:Nat,i=.int .i64 t/\t<=at_.length/\b=.bool ((List.range t).all (fun t=>L.doneB at_ t)) ∧
   (∀t',t' < t->L.doneB at_ t'=true\/∀f',f=f'+1->(L.runsB at_ t'&&L.soundF f' (L.withN at_ t'))=false) ∧
   Below (w.heap.size+1) (w.alloc (z1k L vh vr (.slice ao L.tns.length cap))) wr) (fun _ i _=>at_.length - (intOf i).toNat)
 case atStart=>exact⟨0,rfl,Nat.zero_le _,rfl,fun t' h=>by omega,Below.refl _ _⟩
 case round=>
  obtain⟨t,rfl,htl,rfl,hz,hb⟩:=hrel;have HQ:=zh hz;have HB:=zh hb;obtain⟨q0,q1,q2,q3,q4,q5,qs⟩:=z1u hb;clear hz;have HAS:=zh (all_range_succ (fun t=>L.doneB at_ t) t);generalize hall:(List.range t).all (fun t=>L.doneB at_ t)=ball;have HALL:=zh hall;clear hall;by_cases hlt:t < at_.length
  ·have htL:t < L.tns.length:=by omega
   obtain⟨g,off,hao,hg,cs,-,hC,hc⟩:=h3 t htL;subst hao;obtain⟨vj,rfl,hJ⟩:=hC;have hc1:=hc 1 (by omega);rw[<-(z09 hb).cell (p:=⟨g,_,none⟩) hg] at hc1;obtain⟨aoj,capj,rfl,j1,j2,-⟩:=SlAt.open hJ;obtain⟨ga,offa,hao,hga,cs2,-,hC2,hd⟩:=a3 t hlt;subst hao;unfold CInt at hC2;subst hC2;have hd0:=hd 0 (by omega);rw[<-(z09 hb).cell (p:=⟨ga,_,none⟩) hga] at hd0;have HD:=zh (show L.doneB at_ t=decide (L.tns[t].jny.length<=at_[t]) by simp only[Lay.doneB,tn_eq L t htL,getD_eq at_ t hlt]);have HW:=zh (show L.withN at_ t=at_.set t L.tns[t].jny.length by simp only[Lay.withN,tn_eq L t htL]);simp at hc1 hd0;clear hc hd h3 a3 hJ hb hl;unfold maxLen at j2;generalize L.tns[t].jny=jl at *;generalize at_[t]=n at *;by_cases hdone:jl.length<=n
   ·have hdt:=zh (show L.doneB at_ t=true by rw[uh HD]; simpa using hdone)
    go_wp2
    refine⟨⟨t+1,by go_num,by omega,by rw[uh HAS,uh HALL,uh hdt,Bool.and_true],fun t' h=>?_,uh HB⟩,by simp[intOf]; omega⟩;rcases Nat.lt_or_ge t' t with h' | h'
    ·exact uh HQ t' h'
    ·obtain rfl:t'=t:=by omega
     exact .inl (uh hdt)
   ·have hdt:=zh (show L.doneB at_ t=false by rw[uh HD]; simpa using hdone)
    obtain⟨f',hf'⟩:∃f',f=f'+1:=⟨f - 1,by have:=undone_pos L at_ t hlt (uh hdt); omega⟩
    have hu':L.undone (L.withN at_ t)<=f':=by have:=undone_with L at_ t hlt (uh hdt); omega
    have HF:=zh hf';have HU:=zh hu';clear hf' hu' hu;cases hrun:L.runsB at_ t with
    | false=>
     have HRUN:=zh hrun;clear hrun;go_wp2_with (go_at_call 142; refine(runs_any _ _ L at_ t _ ((uh HR).below (z09 (uh HB))) ((uh HA).below (z09 (uh HB))) hlt (uh HL) (uh HP) (uh HJ)).mono ?_; rw[uh HRUN]; rintro e w' ⟨rfl,hb'⟩)
     have hb4:=(uh HB).trans (hb'.mono (B':=w.heap.size+1) qs);refine⟨⟨t+1,by go_num,by omega,by rw[uh HAS,uh hdt,Bool.and_false],fun t' h=>?_,hb4⟩,by simp[intOf]; omega⟩;rcases Nat.lt_or_ge t' t with h' | h'
     ·exact uh HQ t' h'
     ·obtain rfl:t'=t:=by omega
      exact .inr (fun _ _=>by rw[uh HRUN,Bool.false_and])
    | true=>
     have HRUN:=zh hrun;clear hrun;go_wp2_with (go_at_call 142; refine(runs_any _ _ L at_ t _ ((uh HR).below (z09 (uh HB))) ((uh HA).below (z09 (uh HB))) hlt (uh HL) (uh HP) (uh HJ)).mono ?_; rw[uh HRUN]; rintro e w' ⟨rfl,hb'⟩)
     have hb4:=(uh HB).trans (hb'.mono (B':=w.heap.size+1) qs);refine(with_any _ at_ t jl.length _ ((uh HA).below (z09 hb4)) hsm2).mono ?_;rintro e w2 ⟨v2,rfl,hI2,hb2⟩;have hb5:=hb4.trans (hb2.mono (B':=w.heap.size+1) (by have:=hb'.size; omega));have HB5:=zh hb5;clear q0 q1 q2 q3 q4 q5 qs hc1 hd0 hb4;obtain⟨q0,q1,q2,q3,q4,q5,qs⟩:=z1u hb5;have HI2:=zh hI2;clear hb5 hI2 hb2 hb';rw[<-uh HW] at HI2;cases hs:L.soundF f' (L.withN at_ t) with
     | false=>
      have HS:=zh hs;clear hs;go_wp2_with (go_at_call 98; refine(uh HI f' (uh HF) _ v2 (L.withN at_ t) _ ((uh HR).below (z09 (uh HB5))) (uh HI2) (by simpa [Lay.withN] using uh HL) (uh HU)).mono ?_; rw[uh HS]; rintro e w' ⟨rfl,hb'⟩)
      have hb6:=(uh HB5).trans (hb'.mono (B':=w.heap.size+1) qs);refine⟨⟨t+1,by go_num,by omega,by rw[uh HAS,uh hdt,Bool.and_false],fun t' h=>?_,hb6⟩,by simp[intOf]; omega⟩;rcases Nat.lt_or_ge t' t with h' | h'
      ·exact uh HQ t' h'
      ·obtain rfl:t'=t:=by omega
       refine .inr (fun f2 hf2=>?_);obtain rfl:f2=f':=by have:=uh HF; omega
       rw[uh HS,Bool.and_false]
     | true=>
      have HS:=zh hs;clear hs;go_wp2_with (go_at_call 98; refine(uh HI f' (uh HF) _ v2 (L.withN at_ t) _ ((uh HR).below (z09 (uh HB5))) (uh HI2) (by simpa [Lay.withN] using uh HL) (uh HU)).mono ?_; rw[uh HS]; rintro e w' ⟨rfl,hb'⟩)
      have hb6:=z09 ((uh HB5).trans (hb'.mono (B':=w.heap.size+1) qs));have hz:=zh (show z=true by rw[<-uh HZ,uh HF]; exact soundF_true L f' at_ t hlt (uh hdt) (uh HRUN) (uh HS));go_ret
      exact⟨z04 (uh hz).symm,hb6⟩
  ·obtain rfl:t=at_.length:=by omega
   have hz:=zh (show z=ball by rw[<-uh HZ,<-uh HALL]; exact soundF_end L f at_ (uh HQ));have hb6:=z09 (uh HB);clear hb hl h3 a3;go_wp2
   go_ret
   exact⟨z04 (uh hz).symm,hb6⟩
theorem sound_all (L:Lay) (hp:L.Paths) (hj:L.Jnys) (hsm:L.tns.length<=1000) (f:Nat):SoundAt L f:=by
 induction f with
 | zero=>exact sound_step L 0 hp hj hsm (fun f' h=>by omega)
 | succ f ih=>
  refine sound_step L (f+1) hp hj hsm (fun f' h=>?_);have e:f'=f:=by omega
  rw[e]; exact ih
theorem undone_le (L:Lay) (at_:List Nat):L.undone at_<=at_.length:=by
 unfold Lay.undone;have:=List.length_filter_le (fun t=>!L.doneB at_ t) (List.range at_.length)
 simpa using this
theorem sound_any (v va:Value) (L:Lay) (at_:List Nat) (w:World) (h:RPlan w v L) (ha:Ints w va at_) (hl:at_.length=L.tns.length) (hp:L.Paths) (hj:L.Jnys) (hsm:L.tns.length<=1000) :
  Calls Tryz.prog 98 #[v,va] w fun e w'=>e=.returned (.bool (L.sound at_))/\Below w.heap.size w w':=
 sound_all L hp hj hsm at_.length v va at_ w h ha hl (undone_le L at_)
set_option maxHeartbeats 1000000 in
theorem large_any (v:Value) (L:Lay) (w:World) (h:RPlan w v L) :
  Calls Tryz.prog 95 #[v] w fun e w'=>e=.returned (.bool L.big)/\Below w.heap.size w w':=by
 obtain⟨vh,vr,vt,rfl,hH,hR,hT⟩:=h;obtain⟨aoh,caph,rfl,h1,h2,-⟩:=SlAt.open hH;obtain⟨aor,capr,rfl,r1,r2,r3⟩:=SlAt.open hR;obtain⟨aot,capt,rfl,t1,t2,t3⟩:=SlAt.open hT;clear hH hR hT;unfold maxLen at h2 r2 t2;generalize hzz:L.big=z;have HZ:=zh hzz;clear hzz;by_cases c1:16 < L.sw.length
 ·have hz:=zh (show z=true by rw[<-uh HZ]; simp[Lay.big,c1])
  have c1':(16:Int) < L.sw.length:=by omega
  go_enter Tryz.func95,Tryz.ntmps95
  go_wp2
  go_ret
  exact⟨z04 (uh hz).symm,z01 _ _⟩
 by_cases c2:12 < L.rts.length
 ·have hz:=zh (show z=true by rw[<-uh HZ]; simp[Lay.big,c2])
  have c1':¬(16:Int) < L.sw.length:=by omega
  go_enter Tryz.func95,Tryz.ntmps95
  go_wp2
  go_ret
  exact⟨z04 (uh hz).symm,z01 _ _⟩
 by_cases c3:5 < L.tns.length
 ·have hz:=zh (show z=true by rw[<-uh HZ]; simp[Lay.big,c3])
  go_enter Tryz.func95,Tryz.ntmps95
  go_wp2
  go_ret
  exact⟨z04 (uh hz).symm,z01 _ _⟩
 have HZ2:=zh (show z=(L.rts.any (fun r=>decide (6 < r.path.length)||decide (4 < r.flank.length))||L.tns.any (fun t=>decide (8 < t.jny.length))) by rw[<-uh HZ]; simp[Lay.big,c1,c2,c3]);clear HZ;go_enter Tryz.func95,Tryz.ntmps95
 go_wp2
 go_loopw [3] (fun i wr=>∃k:Nat,k<=L.rts.length/\i=.int .i64 k/\(L.rts.take k).any (fun r=>decide (6 < r.path.length)||decide (4 < r.flank.length))=false ∧
   Below (w.heap.size+1) (w.alloc (z1k L (.slice aoh L.sw.length caph) (.slice aor L.rts.length capr) (.slice aot L.tns.length capt))) wr) (fun i _=>L.rts.length - (intOf i).toNat)
 case atStart=>exact⟨0,Nat.zero_le _,rfl,rfl,Below.refl _ _⟩
 case round=>
  obtain⟨k,hk,rfl,hz,hb⟩:=hrel;have HQ:=zh hz;have HB:=zh hb;obtain⟨q0,q1,q2,q3,q4,q5,qs⟩:=z1u hb;clear hz;by_cases hlt:k < L.rts.length
  ·have HA:=zh (z3u (fun r:Rt=>decide (6 < r.path.length)||decide (4 < r.flank.length)) L.rts k hlt)
   obtain⟨g,off,hao,hg,cs,-,hC,hc⟩:=r3 k hlt;subst hao;obtain⟨vp,vs,vf,vl,rfl,hP,-,hF,-⟩:=hC;have hc1:=hc 1 (by omega);have hc3:=hc 3 (by omega);rw[<-(z09 hb).cell (p:=⟨g,_,none⟩) hg] at hc1 hc3;obtain⟨aop,capp,rfl,p1,p2,-⟩:=SlAt.open hP;obtain⟨aof,capf,rfl,f1,f2,-⟩:=SlAt.open hF;clear hc r3 t3 hP hF hb;unfold maxLen at p2 f2;simp[secs] at hc1 hc3;have hmem:L.rts[k]∈L.rts:=List.getElem_mem hlt;have HM:=zh (fun (h:(decide (6 < L.rts[k].path.length)||decide (4 < L.rts[k].flank.length))=true)=>show z=true by
    rw[uh HZ2,List.any_eq_true.2 ⟨_,hmem,h⟩,Bool.true_or])
   clear hmem;generalize L.rts[k].path=pp at *;generalize L.rts[k].flank=ff at *;simp[secs] at p1 f1;by_cases d1:6 < pp.length
   ·have hz:=zh (uh HM (by simp[d1]))
    have hb3:=z09 (uh HB);have d1':(6:Int) < pp.length:=by omega
    go_wp2
    go_ret
    exact⟨z04 (uh hz).symm,hb3⟩
   by_cases d2:4 < ff.length
   ·have hz:=zh (uh HM (by simp[d2]))
    have hb3:=z09 (uh HB);go_wp2
    go_ret
    exact⟨z04 (uh hz).symm,hb3⟩
   ·go_wp2
    exact⟨⟨k+1,by omega,by go_num,by rw[uh HA,uh HQ]; simp; omega,uh HB⟩,by simp[intOf]; omega⟩
  ·have HZ3:=zh (show z=L.tns.any (fun t=>decide (8 < t.jny.length)) by
    rw[uh HZ2,<-Bool.false_or (L.tns.any _),<-uh HQ,List.take_of_length_le (by omega)]; simp)
   clear HZ2 hb;go_wp2
   go_loopw [4] (fun i wr=>∃k:Nat,k<=L.tns.length/\i=.int .i64 k/\(L.tns.take k).any (fun t=>decide (8 < t.jny.length))=false ∧
     Below (w.heap.size+1) (w.alloc (z1k L (.slice aoh L.sw.length caph) (.slice aor L.rts.length capr) (.slice aot L.tns.length capt))) wr) (fun i _=>L.tns.length - (intOf i).toNat)
   case atStart=>exact⟨0,Nat.zero_le _,rfl,rfl,uh HB⟩
   case round=>
    clear HQ HB q0 q1 q2 q3 q4 q5 qs hk hlt;obtain⟨k,hk,rfl,hz,hb⟩:=hrel;have HQ:=zh hz;have HB:=zh hb;obtain⟨q0,q1,q2,q3,q4,q5,qs⟩:=z1u hb;clear hz;by_cases hlt:k < L.tns.length
    ·have HA:=zh (z3u (fun t:Tn=>decide (8 < t.jny.length)) L.tns k hlt)
     obtain⟨g,off,hao,hg,cs,-,hC,hc⟩:=t3 k hlt;subst hao;obtain⟨vj,rfl,hJ⟩:=hC;have hc1:=hc 1 (by omega);rw[<-(z09 hb).cell (p:=⟨g,_,none⟩) hg] at hc1;obtain⟨aoj,capj,rfl,j1,j2,-⟩:=SlAt.open hJ;clear hc r3 t3 hJ hb;unfold maxLen at j2;simp at hc1;have hmem:L.tns[k]∈L.tns:=List.getElem_mem hlt;have HM:=zh (fun (h:decide (8 < L.tns[k].jny.length)=true)=>show z=true by
      rw[uh HZ3]; exact List.any_eq_true.2 ⟨_,hmem,h⟩)
     clear hmem;generalize L.tns[k].jny=jl at *;by_cases d1:8 < jl.length
     ·have hz:=zh (uh HM (by simp[d1]))
      have hb3:=z09 (uh HB);go_wp2
      go_ret
      exact⟨z04 (uh hz).symm,hb3⟩
     ·go_wp2
      exact⟨⟨k+1,by omega,by go_num,by rw[uh HA,uh HQ]; simp; omega,uh HB⟩,by simp[intOf]; omega⟩
    ·have hz:=zh (show z=false by rw[uh HZ3,<-uh HQ,List.take_of_length_le (by omega)])
     have hb3:=z09 (uh HB);clear hb;go_wp2
     go_ret
     exact⟨z04 (uh hz).symm,hb3⟩
end Go.Proofs.YtkbpocecbcaiiabGreatDoor
