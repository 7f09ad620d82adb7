import Derived.Test.YtkbpocecbcaiiabGreatDoorO29
namespace Go.Proofs.YtkbpocecbcaiiabGreatDoor
open Go.RowKit
set_option maxHeartbeats 1000000 in
theorem mayRun_any (v:Value) (l:List St) (who:Nat) (w:World) (h:Sts w v l) (hw:who < l.length) :
  Calls Tryz.prog 165 #[v,.int .i64 who] w fun e w'=>e=.returned (.bool (z2x l who))/\Below w.heap.size w w':=by
 obtain⟨ao,cap,rfl,h1,h2,h3⟩:=SlAt.open h;clear h;unfold maxLen at h2;obtain⟨z,hz⟩:∃z,z=z2x l who:=⟨_,rfl⟩
 rw[<-hz];unfold z2x at hz;have HZ:=zh hz;clear hz;obtain⟨g,off,rfl,hg,cs,-,hC,hc⟩:=h3 who hw;obtain⟨va,rfl,hI⟩:=hC;have HIA:=zh (show Ints w va l[who].ahead from hI);obtain⟨aa,ca,rfl,-,-,-⟩:=SlAt.open hI;have hw2:=hc 2 (by omega);simp at hw2;have HWA:=zh (stD l who hw);clear hc hI;generalize hlw:l[who]=LW at *;clear hlw;go_enter Tryz.func165,Tryz.ntmps165
 go_wp2
 go_loopw [9] (fun i wr=>∃k:Nat,i=.int .i64 k/\k<=l.length/\(∀j,j < k->(j==who||(l.getD j ⟨false,0,[]⟩).done||!(l.getD who ⟨false,0,[]⟩).ahead.contains (l.getD j ⟨false,0,[]⟩).holds)=true)/\Below w.heap.size w wr) (fun i _=>l.length - (intOf i).toNat)
 case atStart=>exact⟨0,rfl,Nat.zero_le _,fun j h=>by omega,Below.refl _ _⟩
 case round=>
  obtain⟨k,rfl,hk,hno,hb⟩:=hrel;have HNO:=zh hno;have HB:=zh hb;have hsz:=hb.size;clear hno;by_cases hlt:k < l.length
  ·obtain⟨g',off',hao,-,cs,-,hC,hc⟩:=h3 k hlt
   simp only[Option.some.injEq,Addr.mk.injEq,and_true] at hao;obtain⟨rfl,rfl⟩:=hao;obtain⟨vb,rfl,hI2⟩:=hC;obtain⟨ab,cb,rfl,-,-,-⟩:=SlAt.open hI2;have hc0:=hc 0 (by omega);have hc1:=hc 1 (by omega);have hc2:=hc 2 (by omega);rw[<-hb.cell (p:=⟨g,_,none⟩) hg] at hc0 hc1 hc2 hw2;simp at hc0 hc1 hc2 hw2;have hgw:g < wr.heap.size:=by omega
   have HSK:=zh (stD l k hlt);clear hc h3 hI2 hb;generalize hlk:l[k]=LK at *;clear hlk;have HP:=zh (show ∀bb,(k==who||LK.done||!LW.ahead.contains LK.holds)=bb->(k==who||(l.getD k ⟨false,0,[]⟩).done||!(l.getD who ⟨false,0,[]⟩).ahead.contains (l.getD k ⟨false,0,[]⟩).holds)=bb by
    intro bb h; rw[uh HSK,uh HWA]; exact h)
   have HTR:=zh (fun (h:(k==who||LK.done||!LW.ahead.contains LK.holds)=true)=>show ∀j,j < k+1->(j==who||(l.getD j ⟨false,0,[]⟩).done||!(l.getD who ⟨false,0,[]⟩).ahead.contains (l.getD j ⟨false,0,[]⟩).holds)=true by
    intro j hj;rcases Nat.lt_or_ge j k with h' | h'
    ·exact uh HNO j h'
    ·obtain rfl:j=k:=by omega
     exact uh HP _ h)
   have HFA:=zh (fun (h:(k==who||LK.done||!LW.ahead.contains LK.holds)=false)=>show z=false by
    rw[uh HZ,List.all_eq_false];exact⟨k,List.mem_range.2 hlt,by rw[uh HP _ h]; simp⟩)
   have hb3:=zh ((uh HB).alloc hsz (.cells #[.bool LK.done,.int .i64 LK.holds,.slice ab LK.ahead.length cb] 191));by_cases hkw:k=who
   ·have d:((k:Int)==(who:Int))=true:=by simp; omega
    have HK1:=zh (uh HTR (by simp[hkw]));clear hkw;go_wp2
    exact⟨⟨k+1,by go_num,by omega,uh HK1,uh hb3⟩,by simp[intOf]; omega⟩
   have d:((k:Int)==(who:Int))=false:=by simp; omega
   have e1:(k==who)=false:=by simpa using hkw
   rw[e1] at HTR HFA;clear hkw e1;cases hdn:LK.done with
   | true=>
    have HK1:=zh (uh HTR (by simp[hdn]));rw[hdn] at hc0 hb3;clear hdn;go_wp2
    exact⟨⟨k+1,by go_num,by omega,uh HK1,uh hb3⟩,by simp[intOf]; omega⟩
   | false=>
    rw[hdn] at hc0 hb3 HTR HFA;have hcc:=zh (fun wz (hz:Below w.heap.size w wz)=>has_any _ LW.ahead LK.holds wz ((uh HIA).below hz));have l0:(0:Int)<=who:=by omega
    have l1:(who:Int) < l.length:=by omega
    clear hdn;cases hct:LW.ahead.contains LK.holds with
    | true=>
     rw[hct] at hcc;have HZ2:=zh (uh HFA (by rw[hct]; rfl));clear hct;go_wp2
     go_quiet ((go_at_call 182; exact Calls.quiet_of_same (uh hcc _ (by exact below_drewN (uh hb3) _))))
     go_wp2
     go_ret
     exact⟨z04 (uh HZ2).symm,below_drewN (uh hb3) _⟩
    | false=>
     rw[hct] at hcc;have HK1:=zh (uh HTR (by rw[hct]; rfl));clear hct;go_wp2
     go_quiet ((go_at_call 182; exact Calls.quiet_of_same (uh hcc _ (by exact below_drewN (uh hb3) _))))
     go_wp2
     exact⟨⟨k+1,by go_num,by omega,uh HK1,below_drewN (uh hb3) _⟩,by simp[intOf]; omega⟩
  ·have HZ2:=zh (show z=true by
    rw[uh HZ,List.all_eq_true];intro j hj;exact uh HNO j (by have:=List.mem_range.1 hj; omega))
   clear h3;go_wp2
   go_ret
   exact⟨z04 (uh HZ2).symm,hb⟩
def z49 (l:List St):Option Nat:=(List.range l.length).find? (fun i=>!(l.getD i ⟨false,0,[]⟩).done&&z2x l i)
def firstV:Option Nat->Value×Bool
 | none=>(.int .i64 0,false)
 | some i=>(.int .i64 i,true)
theorem find_none' (p:Nat->Bool) (n:Nat) (h:∀k,k < n->p k=false):(List.range n).find? p=none:=by
 rw[List.find?_eq_none]; intro x hx; rw[h x (List.mem_range.1 hx)]; simp
theorem find_some' (p:Nat->Bool) (n k:Nat) (hk:k < n) (h:∀j,j < k->p j=false) (hp:p k=true):(List.range n).find? p=some k:=by
 rw[List.find?_eq_some_iff_append];refine⟨hp,List.range k,(List.range (n - k - 1)).map (·+(k+1)),?_,?_⟩
 ·have e:n=k+(1+(n - k - 1)):=by omega
  conv=>lhs; rw[e]
  rw[List.range_add,List.range_add];simp[List.range_one,Nat.add_comm,Nat.add_left_comm,Function.comp_def]
 ·intro x hx; rw[h x (List.mem_range.1 hx)]; rfl
set_option maxHeartbeats 1000000 in
theorem z5n (v:Value) (l:List St) (w:World) (h:Sts w v l) (hl:l.length<=1000) :
  Calls Tryz.prog 131 #[v] w fun e w'=>e=.returned (.tuple #[(firstV (z49 l)).1,.bool (firstV (z49 l)).2])/\Below w.heap.size w w':=by
 have _:=hl;have HS:=zh h;obtain⟨ao,cap,rfl,h1,h2,h3⟩:=SlAt.open h;clear h;unfold maxLen at h2;obtain⟨z,hz⟩:∃z,z=z49 l:=⟨_,rfl⟩
 rw[<-hz];unfold z49 at hz;have HZ:=zh hz;clear hz;go_enter Tryz.func131,Tryz.ntmps131
 go_wp2
 go_loopw [4] (fun i wr=>∃k:Nat,i=.int .i64 k/\k<=l.length/\(∀j,j < k->(!(l.getD j ⟨false,0,[]⟩).done&&z2x l j)=false)/\Below w.heap.size w wr) (fun i _=>l.length - (intOf i).toNat)
 case atStart=>exact⟨0,rfl,Nat.zero_le _,fun j h=>by omega,Below.refl _ _⟩
 case round=>
  obtain⟨k,rfl,hk,hno,hb⟩:=hrel;have HNO:=zh hno;have HB:=zh hb;have hsz:=hb.size;clear hno;by_cases hlt:k < l.length
  ·obtain⟨g,off,hao,hg,cs,-,hC,hc⟩:=h3 k hlt
   subst hao;obtain⟨vb,rfl,-⟩:=hC;have hc0:=hc 0 (by omega);rw[<-hb.cell (p:=⟨g,_,none⟩) hg] at hc0;simp at hc0;have hgw:g < wr.heap.size:=by omega
   have HSK:=zh (show (l.getD k ⟨false,0,[]⟩).done=l[k].done by rw[stD l k hlt]);clear hc h3 hb;have HFA:=zh (fun (h:(!l[k].done&&z2x l k)=false)=>show ∀j,j < k+1->(!(l.getD j ⟨false,0,[]⟩).done&&z2x l j)=false by
    intro j hj;rcases Nat.lt_or_ge j k with h' | h'
    ·exact uh HNO j h'
    ·obtain rfl:j=k:=by omega
     rw[uh HSK]; exact h)
   have HTR:=zh (fun (h:(!l[k].done&&z2x l k)=true)=>show z=some k by
    rw[uh HZ]; exact find_some' _ _ k hlt (uh HNO) (by rw[uh HSK]; exact h))
   generalize l[k].done=dn at *;cases dn with
   | true=>
    have HK:=zh (uh HFA rfl);go_wp2
    exact⟨⟨k+1,by go_num,by omega,uh HK,uh HB⟩,by simp[intOf]; omega⟩
   | false=>
    generalize hm:z2x l k=m at *;have HM:=zh hm;clear hm;go_wp2_with fail
    refine(mayRun_any _ l k _ ((uh HS).below (uh HB)) hlt).mono ?_;rw[uh HM];rintro e w2 ⟨rfl,hb2⟩;have hb3:=zh ((uh HB).trans (hb2.mono hsz));clear hb2;cases m with
    | true=>
     have HK:=zh (uh HTR rfl);go_wp2
     go_ret2
     exact⟨by rw[uh HK] <;> rfl,uh hb3⟩
    | false=>
     have HK:=zh (uh HFA rfl);go_wp2
     exact⟨⟨k+1,by go_num,by omega,uh HK,uh hb3⟩,by simp[intOf]; omega⟩
  ·have HK:=zh (show z=none by
    obtain rfl:k=l.length:=by omega
    rw[uh HZ]; exact find_none' _ _ (uh HNO))
   clear h3;go_wp2
   go_ret2
   exact⟨by rw[uh HK] <;> rfl,hb⟩
def Lay.itemOK (L:Lay) (x:Nat×Nat):Bool:=decide (x.1 < L.sw.length)&&(L.sw.getD x.1 false==(x.2 != 0))
set_option maxHeartbeats 400000 in
theorem pathItemRight_any (v:Value) (L:Lay) (x:Nat×Nat) (w:World) (h:CLay w v L) :
  Calls Tryz.prog 160 #[v,.agg #[.int .i64 x.1,.int .u8 x.2]] w fun e w'=>e=.returned (.bool (L.itemOK x))/\Below w.heap.size w w':=by
 have H1:=zh (fun (wz:World) (hz:Below w.heap.size w wz)=>z2l _ L x.1 wz (h.below hz));have H2:=zh (fun (wz:World) (hz:Below w.heap.size w wz)=>z22 _ L x.1 wz (h.below hz));obtain⟨vs,vr,vt,rfl,-,-,-⟩:=h;obtain⟨x1,x2⟩:=x;simp only[Lay.itemOK] at H1 H2 ⊢;generalize hsn:L.sw.getD x1 false=sb at *;have HSN:=zh hsn;clear hsn;cases hd:decide (x1 < L.sw.length) with
 | false=>
  rw[hd] at H1;clear hd;rw[Bool.false_and];go_enter Tryz.func160,Tryz.ntmps160
  go_wp2_with fail
  refine(uh H1 _ (z08 (o1:=z0n L vs vr vt) (Below.refl _ _))).mono ?_;rintro e w1 ⟨rfl,hb⟩;have HB:=zh ((z08 (o1:=z0n L vs vr vt) (o2:=.cells #[.int .i64 x1,.int .u8 x2] 168) (Below.refl _ _)).trans (hb.mono (by simp; omega)));clear hb;go_wp2
  go_ret
  exact⟨rfl,uh HB⟩
 | true=>
  rw[hd] at H1;clear hd;rw[Bool.true_and];by_cases h0:x2=0
  ·have d:((x2:Int) != 0)=false:=by simp[h0]
   have e2:(x2 != 0)=false:=by simp[h0]
   rw[e2];clear h0 e2;go_enter Tryz.func160,Tryz.ntmps160
   go_wp2_with fail
   refine(uh H1 _ (z08 (o1:=z0n L vs vr vt) (Below.refl _ _))).mono ?_;rintro e w1 ⟨rfl,hb⟩;have hbx:Below (w.heap.size+2) ((w.alloc (z0n L vs vr vt)).alloc (.cells #[.int .i64 x1,.int .u8 x2] 168)) w1:=hb.mono (by simp);have h1:=blk1 w (z0n L vs vr vt) (.cells #[.int .i64 x1,.int .u8 x2] 168);have h2:=blk2 w (z0n L vs vr vt) (.cells #[.int .i64 x1,.int .u8 x2] 168);obtain⟨⟨q0,q1,q2,q3,q4,q5⟩,-,-⟩:=six0 ((hbx.block _ (by omega)).trans h1);obtain⟨⟨y0,y1⟩,-,-⟩:=duo0 ((hbx.block _ (by omega)).trans h2);have HB:=zh (z08 hbx);clear hb hbx h1 h2;go_wp2_with fail
   refine(uh H2 _ (uh HB)).mono ?_;rintro e w2 ⟨rfl,hb2⟩;have HB2:=zh ((uh HB).trans (hb2.mono (uh HB).size));clear hb2;cases sb
   all_goals
    go_wp2
    go_ret
    exact⟨rfl,uh HB2⟩
  ·have d:((x2:Int) != 0)=true:=by simp; omega
   have e2:(x2 != 0)=true:=by simp[h0]
   rw[e2];clear h0 e2;go_enter Tryz.func160,Tryz.ntmps160
   go_wp2_with fail
   refine(uh H1 _ (z08 (o1:=z0n L vs vr vt) (Below.refl _ _))).mono ?_;rintro e w1 ⟨rfl,hb⟩;have hbx:Below (w.heap.size+2) ((w.alloc (z0n L vs vr vt)).alloc (.cells #[.int .i64 x1,.int .u8 x2] 168)) w1:=hb.mono (by simp);have h1:=blk1 w (z0n L vs vr vt) (.cells #[.int .i64 x1,.int .u8 x2] 168);have h2:=blk2 w (z0n L vs vr vt) (.cells #[.int .i64 x1,.int .u8 x2] 168);obtain⟨⟨q0,q1,q2,q3,q4,q5⟩,-,-⟩:=six0 ((hbx.block _ (by omega)).trans h1);obtain⟨⟨y0,y1⟩,-,-⟩:=duo0 ((hbx.block _ (by omega)).trans h2);have HB:=zh (z08 hbx);clear hb hbx h1 h2;go_wp2_with fail
   refine(uh H2 _ (uh HB)).mono ?_;rintro e w2 ⟨rfl,hb2⟩;have HB2:=zh ((uh HB).trans (hb2.mono (uh HB).size));clear hb2;cases sb
   all_goals
    go_wp2
    go_ret
    exact⟨rfl,uh HB2⟩
def VTn (w:World) (v:Value) (t:Tn):Prop:=∃vj,v=.agg #[.int .i64 t.start,vj]/\Ints w vj t.jny
theorem VTn.below {w w':World} {v:Value} {t:Tn} (h:VTn w v t) (k:Below w.heap.size w w'):VTn w' v t:=by
 obtain⟨vj,e,a⟩:=h;exact⟨vj,e,a.keep (.below k)⟩
set_option maxHeartbeats 1000000 in
theorem journeyRight_any (v vt:Value) (L:Lay) (t:Tn) (w:World) (h:CLay w v L) (ht:VTn w vt t) (hp:L.Paths) :
  Calls Tryz.prog 163 #[v,vt] w fun e w'=>e=.returned (.bool (L.joins t.start t.jny))/\Below w.heap.size w w':=by
 have HL:=zh h;obtain⟨vs,vr,vtt,rfl,-,-,-⟩:=h;obtain⟨vj,rfl,hJ⟩:=ht;obtain⟨aj,cj,rfl,h1,h2,h3⟩:=SlAt.open hJ;unfold maxLen at h2;generalize hz:L.joins t.start t.jny=z;have HZ:=zh hz;have HP:=zh hp;clear hz hp hJ;go_enter Tryz.func163,Tryz.ntmps163
 go_wp2
 go_loopw [5,15] (fun f i wr=>∃k s:Nat,i=.int .i64 k/\f=.int .i64 s/\k<=t.jny.length/\z=L.joins s (t.jny.drop k) ∧
   Below (w.heap.size+2) ((w.alloc (z0n L vs vr vtt)).alloc (.cells #[.int .i64 t.start,.slice aj t.jny.length cj] 186)) wr) (fun _ i _=>t.jny.length - (intOf i).toNat)
 case atStart=>exact⟨0,t.start,rfl,rfl,Nat.zero_le _,(uh HZ).symm,Below.refl _ _⟩
 case round=>
  obtain⟨k,s,rfl,rfl,hk,hq,hb⟩:=hrel;have HQ:=zh hq;have HB:=zh hb;have qs:=z1r hb;have b1:=blk1 w (z0n L vs vr vtt) (.cells #[.int .i64 t.start,.slice aj t.jny.length cj] 186);obtain⟨⟨q0,q1,q2,q3,q4,q5⟩,-,-⟩:=six0 ((hb.block _ (by omega)).trans b1);clear hq b1;by_cases hlt:k < t.jny.length
  ·obtain⟨g,off,hao,hg,cs,-,hC,hc⟩:=h3 k hlt
   subst hao;unfold CInt at hC;subst hC;have hc0:=hc 0 (by omega);rw[<-(z08 hb).cell (p:=⟨g,_,none⟩) hg] at hc0;simp at hc0;have HJ:=zh (show L.joins s (t.jny.drop k)=(decide (t.jny[k] < L.rts.length)&&(L.rt t.jny[k]).foot==s&&L.joins (L.endOf t.jny[k]) (t.jny.drop (k+1))) by
    rw[List.drop_eq_getElem_cons hlt]; rfl)
   clear hc h3 hb;generalize t.jny[k]=x at *;have H1:=zh (RouteAt_any _ L x wr ((uh HL).below (z08 (uh HB))));go_wp2_with fail
   refine(uh H1).mono ?_;rintro e w1 ⟨tt,a1,a2,n1,n2,c1,c2,rfl,hV,hb1⟩;have HV:=zh hV;have HB1:=zh ((uh HB).trans (hb1.mono (B':=w.heap.size+2) (by omega)));have hz1:=hb1.size;clear hV hb1 hc0 q0 q1 q2 q3 q4 q5;by_cases hx:x < L.rts.length
   ·have hv:=uh HV hx
    obtain⟨vp,vf,he,hI1,hI2⟩:=hv;simp only[Value.agg.injEq,Array.mk.injEq,List.cons.injEq,and_true,Value.int.injEq,true_and] at he;obtain⟨rfl,rfl,rfl⟩:=he;have HVV:=zh (show VRt w1 (.agg #[.int .i64 (L.rt x).foot,.slice a1 n1 c1,.slice a2 n2 c2]) (L.rt x) from ⟨_,_,rfl,hI1,hI2⟩);have HNE:=zh (uh HP (L.rt x) (by rw[rt_eq L x hx]; exact List.getElem_mem hx));have hd:decide (x < L.rts.length)=true:=decide_eq_true hx;rw[hd];rw[hd,Bool.true_and] at HJ;have HEND:=zh (show L.endOf x=lastN (L.rt x).path from rfl);clear hI1 hI2 HV hd hx;generalize L.rt x=R at *;by_cases hfo:R.foot=s
    ·have d:((R.foot:Int) != (s:Int))=false:=by simp; omega
     have HQ2:=zh (show z=L.joins (lastN R.path) (t.jny.drop (k+1)) by rw[uh HQ,uh HJ,uh HEND]; simp[hfo]);clear hfo;go_wp2_with fail
     refine(Last_any _ R _ ((uh HVV).below (z01 _ _)) (uh HNE)).mono ?_;rintro e w2 ⟨rfl,hb2⟩;have hb3:=(((uh HB1).alloc (by omega) (.cells #[.int .i64 R.foot,.slice a1 n1 c1,.slice a2 n2 c2] 113))).trans (hb2.mono (B':=w.heap.size+2) (by simp; omega));clear hb2;go_wp2
     exact⟨⟨k+1,lastN R.path,by go_num,rfl,by omega,uh HQ2,hb3⟩,by simp[intOf]; omega⟩
    ·have d:((R.foot:Int) != (s:Int))=true:=by simp; omega
     have HZ2:=zh (show z=false by rw[uh HQ,uh HJ]; simp[hfo]);clear hfo;go_wp2
     go_ret
     exact⟨z04 (uh HZ2).symm,z08 ((uh HB1).alloc (by omega) _)⟩
   ·have hd:decide (x < L.rts.length)=false:=decide_eq_false hx
    rw[hd];have HZ2:=zh (show z=false by rw[uh HQ,uh HJ,hd]; rfl);clear hd hx HV;go_wp2
    go_ret
    exact⟨z04 (uh HZ2).symm,z08 ((uh HB1).alloc (by omega) _)⟩
  ·have HZ2:=zh (show z=true by rw[uh HQ,List.drop_of_length_le (by omega)]; rfl)
   have hb3:=z08 (uh HB);clear h3 hb;go_wp2
   go_ret
   exact⟨z04 (uh HZ2).symm,hb3⟩
end Go.Proofs.YtkbpocecbcaiiabGreatDoor
