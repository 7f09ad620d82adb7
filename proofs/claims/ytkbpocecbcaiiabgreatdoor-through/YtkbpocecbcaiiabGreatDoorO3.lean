import Derived.Test.YtkbpocecbcaiiabGreatDoorO2
namespace Go.Proofs.YtkbpocecbcaiiabGreatDoor
open Go.RowKit
theorem Tryz.infoBool:(Tryz.prog.info? 4).map (fun i=>(i.zero,i.size,i.bytes))=some (some (.bool false),1,1):=by kernel_rfl
theorem Tryz.infoRRt:(Tryz.prog.info? 159).map (fun i=>(i.zero,i.size,i.bytes))=some (some (.agg #[.int .i64 0,.slice none 0 0,.slice none 0 0,.slice none 0 0,.slice none 0 0]),5,104):=by kernel_rfl
theorem Tryz.infoRTn:(Tryz.prog.info? 196).map (fun i=>(i.zero,i.size,i.bytes))=some (some (.agg #[.int .i64 0,.slice none 0 0]),2,32):=by kernel_rfl
def trainF (l:List UInt8):Tn:=⟨(l.getD 0 0).toNat - 97,(l.drop 1).map (fun x=>x.toNat - 65)⟩
def readF (s p1 p2 p3:List UInt8):Lay:=
 ⟨(s.getD 0 0).toNat - 48,(s.getD 1 0).toNat - 48,(s.getD 2 0).toNat - 48,p1.map (·==121),(z0v 44 [] p2).map z47,(z0v 44 [] p3).map trainF⟩
theorem z4m (s:ByteArray) (k:Nat) (h:k < s.size):s.data.toList.getD k 0=s[k]:=by
 rw[List.getD_eq_getElem?_getD,List.getElem?_eq_getElem (by simpa using h)]; rfl
def z39:Obj:=.cells #[.int .i64 0,.int .i64 0,.int .i64 0,.slice none 0 0,.slice none 0 0,.slice none 0 0] 119
def RMid (w:World) (L:Lay) (wr:World) (vh vr vt:Value):Prop:=
 wr.heap[w.heap.size]?=some z39/\wr.heap[w.heap.size+1]?=some (z1k L vh vr vt)/\Below w.heap.size w wr
theorem RMid.below {w:World} {L:Lay} {wr w1:World} {vh vr vt:Value} (h:RMid w L wr vh vr vt) (hb:Below wr.heap.size wr w1):RMid w L w1 vh vr vt:=
 ⟨(hb.block _ (z0g h.1)).trans h.1,(hb.block _ (z0g h.2.1)).trans h.2.1,h.2.2.trans (hb.mono h.2.2.size)⟩
theorem RMid.keep {w:World} {L:Lay} {wr w1:World} {vh vr vt:Value} (h:RMid w L wr vh vr vt) (hk:Keeps 119 wr w1) (hb:Below w.heap.size w w1):RMid w L w1 vh vr vt:=
 ⟨(hk _ _ _ h.1).trans h.1,(hk _ _ _ h.2.1).trans h.2.1,hb⟩
theorem RMid.append {w:World} {L:Lay} {wr w1:World} {vh vr vt v:Value} {e:TypeId} {size n:Nat} {xs:List Value} {o:Obj} (h:RMid w L wr vh vr vt) (hown:wr.ownsRow (w.heap.size+2) e size v n xs)
  (hg:(wr.alloc o).grownBy w1 v.ownBlock) (hne:e≠119):RMid w L w1 vh vr vt:=
 h.keep (z0f hown hg hne) ((h.2.2.alloc h.2.2.size o).grown hg (by have:=h.2.2.size; simp; omega) (fun k hk=>by have:=(hown.lt k hk).1; omega))
theorem RMid.typed {w:World} {L:Lay} {wr:World} {vh vr vt:Value} (h:RMid w L wr vh vr vt):Typed wr (w.heap.size+1) 119:=⟨_,_,h.2.1⟩
theorem RMid.store {w:World} {L:Lay} {wr:World} {vh vr vt:Value} (h:RMid w L wr vh vr vt) (u:Value) :
  RMid w L (wr.setCell ⟨w.heap.size+1,3,none⟩ u) u vr vt/\RMid w L (wr.setCell ⟨w.heap.size+1,4,none⟩ u) vh u vt/\RMid w L (wr.setCell ⟨w.heap.size+1,5,none⟩ u) vh vr u:=by
 have hz:∀j,(wr.setCell ⟨w.heap.size+1,j,none⟩ u).heap[w.heap.size]?=some z39:=fun j=>by
  rw[Below.heap_setCell _ _ _ _ (by simp)]; exact h.1
 have hb:∀j,Below w.heap.size w (wr.setCell ⟨w.heap.size+1,j,none⟩ u):=fun j=>h.2.2.setCell (p:=⟨w.heap.size+1,j,none⟩) (by simp) u;exact⟨⟨hz 3,z0b u h.2.1,hb 3⟩,⟨hz 4,z0b u h.2.1,hb 4⟩,⟨hz 5,z0b u h.2.1,hb 5⟩⟩
theorem strs_at {wr:World} {g off n cap:Nat} {l:List (List UInt8)} (h:Strs wr (.slice (some ⟨g,off,none⟩) n cap) l) (i:Nat) (hi:i < l.length):wr.cell? ⟨g,off+i,none⟩=some (strV l[i])/\g < wr.heap.size:=by
 obtain⟨ao,cap',he,-,-,h3⟩:=SlAt.open h;simp only[Value.slice.injEq] at he;obtain⟨g',off',ha,hg,cs,-,hC,hc⟩:=h3 i hi;rw[<-he.1] at ha;simp only[Option.some.injEq,Addr.mk.injEq,and_true] at ha;obtain⟨rfl,rfl⟩:=ha;unfold CStr at hC;subst hC;have:=hc 0 (by omega);exact⟨by simpa using this,hg⟩
theorem boolsV_take (l:List Bool) (k:Nat) (h:k < l.length):z17 (l.take (k+1))=z17 (l.take k)++[Value.bool l[k]]:=by
 rw[List.take_succ_eq_append_getElem h,z3c]
theorem splitA_len (c:UInt8) (pre l:List UInt8):(z0v c pre l).length<=l.length+1:=by
 induction l generalizing pre with
 | nil=>simp[z0v]
 | cons x l ih=>
  unfold z0v;split
  ·have:=ih []; simp; omega
  ·have:=ih (pre++[x]); simp; omega
def CRRtL (n:Nat) (w:World) (r:Rt) (cs:List Value):Prop:=CRRt w r cs/\LoC n cs
def CRTnL (n:Nat) (w:World) (t:Tn) (cs:List Value):Prop:=CRTn w t cs/\LoC n cs
def RRtsL (n:Nat) (w:World) (v:Value) (l:List Rt):Prop:=SlAt 159 5 (CRRtL n) w v l
def RTnsL (n:Nat) (w:World) (v:Value) (l:List Tn):Prop:=SlAt 196 2 (CRTnL n) w v l
theorem CRRtL.keep {n:Nat} {w w':World} {r:Rt} {cs:List Value} (h:CRRtL n w r cs) (k1:Keeps 3 w w') (k2:Keeps 5 w w'):CRRtL n w' r cs:=⟨h.1.keep k1 k2,h.2⟩
theorem CRTnL.keep {n:Nat} {w w':World} {r:Tn} {cs:List Value} (h:CRTnL n w r cs) (k1:Keeps 3 w w'):CRTnL n w' r cs:=⟨h.1.keep k1,h.2⟩
theorem RRtsL.keep {n:Nat} {w w':World} {v:Value} {l:List Rt} (h:RRtsL n w v l) (k:Keeps 159 w w') (k1:Keeps 3 w w') (k2:Keeps 5 w w'):RRtsL n w' v l:=
 SlAt.keep h k (fun _ _ h=>h.keep k1 k2)
theorem RTnsL.keep {n:Nat} {w w':World} {v:Value} {l:List Tn} (h:RTnsL n w v l) (k:Keeps 196 w w') (k1:Keeps 3 w w'):RTnsL n w' v l:=
 SlAt.keep h k (fun _ _ h=>h.keep k1)
theorem RRtsL.weak {n:Nat} {w:World} {v:Value} {l:List Rt} (h:RRtsL n w v l):RRts w v l:=SlAt.weak h (fun _ _ h=>h.1)
theorem RTnsL.weak {n:Nat} {w:World} {v:Value} {l:List Tn} (h:RTnsL n w v l):RTns w v l:=SlAt.weak h (fun _ _ h=>h.1)
def RPlanL (n:Nat) (w:World) (v:Value) (L:Lay):Prop:=∃vh vr vt,v=.agg #[.int .i64 L.T,.int .i64 L.D,.int .i64 L.Q,vh,vr,vt] ∧
 Bools w vh L.sw/\RRtsL n w vr L.rts/\RTnsL n w vt L.tns/\Lo n vh/\Lo n vr/\Lo n vt
theorem RPlanL.plan {n:Nat} {w:World} {v:Value} {L:Lay} (h:RPlanL n w v L):RPlan w v L:=by
 obtain⟨vh,vr,vt,e,a,b,c,-⟩:=h;exact⟨vh,vr,vt,e,a,b.weak,c.weak⟩
theorem RPlanL.mono {n m:Nat} {w:World} {v:Value} {L:Lay} (h:RPlanL n w v L) (hm:m<=n):RPlanL m w v L:=by
 obtain⟨vh,vr,vt,e,a,b,c,d,f,g⟩:=h;exact⟨vh,vr,vt,e,a,SlAt.weak b (fun _ _ h=>⟨h.1,h.2.mono hm⟩),SlAt.weak c (fun _ _ h=>⟨h.1,h.2.mono hm⟩),d.mono hm,f.mono hm,g.mono hm⟩
set_option maxHeartbeats 8000000 in
theorem read_lo (s:ByteArray) (w:World) (p0 p1 p2 p3:List UInt8) (hs:s.size<=256) (h3:3<=s.size)
  (hd0:48<=(s.data.toList.getD 0 0).toNat) (hd1:48<=(s.data.toList.getD 1 0).toNat) (hd2:48<=(s.data.toList.getD 2 0).toNat)
  (hP:z0v 47 [] s.data.toList=[p0,p1,p2,p3])
  (hrs:∀r,r∈z0v 44 [] p2->2<=r.length/\97<=(r.getD 0 0).toNat)
  (hts:∀t,t∈z0v 44 [] p3->1<=t.length/\97<=(t.getD 0 0).toNat/\∀x,x∈t.drop 1->65<=x.toNat) :
  Calls Tryz.prog 94 #[.string s] w fun e w'=>∃v,e=.returned v/\RPlanL w.heap.size w' v (readF s.data.toList p1 p2 p3)/\Below w.heap.size w w':=by
 have HP:=zh hP;have HRS:=zh hrs;have HTS:=zh hts;have hpl:∀p,p∈[p0,p1,p2,p3]->p.length<=256:=by
  intro p hp; rw[<-hP] at hp;have:=z4l _ _ _ p hp;simp at this; omega
 have l1:p1.length<=256:=hpl _ (by simp);have l2:p2.length<=256:=hpl _ (by simp);have l3:p3.length<=256:=hpl _ (by simp);rw[z4m s 0 (by omega)] at hd0;rw[z4m s 1 (by omega)] at hd1;rw[z4m s 2 (by omega)] at hd2;have HT:=zh (show (readF s.data.toList p1 p2 p3).T=s[0].toNat - 48 by rw[readF,z4m s 0 (by omega)]);have HDD:=zh (show (readF s.data.toList p1 p2 p3).D=s[1].toNat - 48 by rw[readF,z4m s 1 (by omega)]);have HQQ:=zh (show (readF s.data.toList p1 p2 p3).Q=s[2].toNat - 48 by rw[readF,z4m s 2 (by omega)]);have HSW:=zh (show (readF s.data.toList p1 p2 p3).sw=p1.map (·==121) from rfl);have HRT:=zh (show (readF s.data.toList p1 p2 p3).rts=(z0v 44 [] p2).map z47 from rfl);have HTN:=zh (show (readF s.data.toList p1 p2 p3).tns=(z0v 44 [] p3).map trainF from rfl);generalize readF s.data.toList p1 p2 p3=L at *;have b0:=s[0].toNat_lt;have b1:=s[1].toNat_lt;have b2:=s[2].toNat_lt;obtain⟨c0,e0⟩:∃c,s[0].toNat=c:=⟨_,rfl⟩
 obtain⟨c1,e1⟩:∃c,s[1].toNat=c:=⟨_,rfl⟩
 obtain⟨c2,e2⟩:∃c,s[2].toNat=c:=⟨_,rfl⟩
 rw[e0] at hd0 b0 HT;rw[e1] at hd1 b1 HDD;rw[e2] at hd2 b2 HQQ;have u0:IntKind.u8.wrap ((c0:Int) - 48)=(c0:Int) - 48:=Go.IntWalk.u8_in _ (by omega);have u1:IntKind.u8.wrap ((c1:Int) - 48)=(c1:Int) - 48:=Go.IntWalk.u8_in _ (by omega);have u2:IntKind.u8.wrap ((c2:Int) - 48)=(c2:Int) - 48:=Go.IntWalk.u8_in _ (by omega);have v0:IntKind.i64.wrap ((c0:Int) - 48)=(c0:Int) - 48:=Go.IntWalk.i64_in _ (by omega);have v1:IntKind.i64.wrap ((c1:Int) - 48)=(c1:Int) - 48:=Go.IntWalk.i64_in _ (by omega);have v2:IntKind.i64.wrap ((c2:Int) - 48)=(c2:Int) - 48:=Go.IntWalk.i64_in _ (by omega);have k0:(0:Int) < s.size:=by omega
 have k1:(1:Int) < s.size:=by omega
 have k2:(2:Int) < s.size:=by omega
 clear hP hrs hts hpl;go_enter Tryz.func94,Tryz.ntmps94
 go_wp2
 go_region
 have t0:(c0:Int) - 48=L.T:=by rw[uh HT]; omega
 have t1:(c1:Int) - 48=L.D:=by rw[uh HDD]; omega
 have t2:(c2:Int) - 48=L.Q:=by rw[uh HQQ]; omega
 rw[t0,t1,t2];clear t0 t1 t2 u0 u1 u2 v0 v1 v2 HT HDD HQQ hd0 hd1 hd2 b0 b1 b2 e0 e1 e2 k0 k1 k2;go_wp2_with fail
 refine(split_any s 47 _ (by omega)).mono ?_;rw[uh HP];rintro e w1 ⟨vl,rfl,hS1,hb1⟩;have hM:RMid w L w1 (.slice none 0 0) (.slice none 0 0) (.slice none 0 0):=by
  have hz:Below (w.heap.size+2) ((w.alloc z39).alloc (z1k L (.slice none 0 0) (.slice none 0 0) (.slice none 0 0))) w1:=((Below.refl _ _).drew).trans (hb1.mono (by show w.heap.size+2<=((w.alloc z39).alloc (z1k L (.slice none 0 0) (.slice none 0 0) (.slice none 0 0))).heap.size; simp));exact⟨(hz.block _ (by omega)).trans (blk1 w _ _),(hz.block _ (by omega)).trans (blk2 w _ _),z08 hz⟩
 obtain⟨ao,capl,rfl,-,cm,c3⟩:=SlAt.open hS1;obtain⟨gl,ol,rfl,-,-⟩:=c3 0 (by simp);have HM:=zh hM;have HS:=zh hS1;simp only[List.length_cons,List.length_nil,Nat.zero_add,Nat.reduceAdd] at HS ⊢;clear c3 hM hS1 hb1 HP;obtain⟨i0,hi0⟩:=info_parts Tryz.infoBool;have HIB:=zh hi0;clear hi0;go_wp2
 go_loopw [5] (fun i wr=>∃k:Nat,∃vh,i=.int .i64 k/\k<=p1.length/\RMid w L wr vh (.slice none 0 0) (.slice none 0 0) ∧
   wr.ownsRow (w.heap.size+2) 4 1 vh k (z17 (L.sw.take k))/\Strs wr (.slice (some ⟨gl,ol,none⟩) 4 capl) [p0,p1,p2,p3]) (fun i _=>p1.length - (intOf i).toNat)
 case atStart=>exact⟨0,_,rfl,Nat.zero_le _,uh HM,World.ownsRow_nil _ _ _ _,uh HS⟩
 case round=>
  clear HM HS;obtain⟨k,vh,rfl,hk,hM,hown,hS⟩:=hrel;have HM:=zh hM;have HS:=zh hS;obtain⟨x1,gx⟩:=strs_at hS 1 (by simp);obtain⟨x2,-⟩:=strs_at hS 2 (by simp);obtain⟨x3,-⟩:=strs_at hS 3 (by simp);simp[strV] at x1 x2 x3;obtain⟨⟨y0,y1,y2,y3,y4,y5⟩,⟨f0,f1,f2,f3,f4,f5⟩,qs⟩:=six0 hM.2.1;have hsz:=hM.2.2.size;obtain⟨S1,hS1⟩:∃S:ByteArray,S=⟨p1.toArray⟩:=⟨_,rfl⟩
  rw[<-hS1] at x1;have hl1:S1.size=p1.length:=by rw[hS1]; simp[ByteArray.size]
  clear hM hS;by_cases hlt:k < p1.length
  ·have hks:k < S1.size:=by omega
   have hbyte:S1[k]=p1[k]:=by subst hS1; rfl
   obtain⟨c,hce⟩:∃c,S1[k].toNat=c:=⟨_,rfl⟩
   have HBY:=zh hbyte;obtain⟨ah,ch,hvh⟩:=z02 hown;subst hvh;have HL1:=zh hl1;have HS1:=zh hS1;have hk0:(k:Int) < S1.size:=by omega
   have hbel:w.heap.size+1 < wr.heap.size:=qs;clear hl1 hS1 hbyte;go_wp2
   go_region_law (refine z1z rfl (.tmp 37) (.tmp 44) 48 rfl (w.heap.size+2) 4 i0 (.bool false) 1 1 Tryz.underlying48 (uh HIB).1 (uh HIB).2.1 (uh HIB).2.2.1 (uh HIB).2.2.2 rfl (by decide) (.slice ah k ch) _ _ (by simp[Act.eval]) ((hown.alloc _).drew) ⟨wr.heap.size,0,none⟩ 1 1 [.bool ((c:Int)==121)] (by simp[Act.eval]) rfl (z29 _ _ _) (z0a rfl) (by unfold maxLen; omega) (by omega) (by simp; omega) ?_; intro v' w1 hown' hgrow; have hg2:=z20 hgrow; have HM1:=zh ((uh HM).append hown hg2 (by decide)); obtain⟨⟨r0,r1,r2,r3,r4,r5⟩,⟨g0,g1,g2,g3,g4,g5⟩,qs1⟩:=six0 (uh HM1).2.1; obtain⟨ah',ch',hv'⟩:=z02 hown'; subst hv')
   all_goals
    have hM2:=((uh HM1).store (.slice ah' (k+1) ch')).1;have ho2:=z06 hown' (Keeps.setCell ⟨w.heap.size+1,3,none⟩ (.slice ah' (k+1) ch') (uh HM1).typed (by decide));have hS2:=((uh HS).keep (z0f hown hg2 (by decide))).keep (Keeps.setCell ⟨w.heap.size+1,3,none⟩ (.slice ah' (k+1) ch') (uh HM1).typed (by decide));have hsl:k < L.sw.length:=by rw[uh HSW]; simpa using hlt
    have hbv:((c:Int)==121)=L.sw[k]:=by
     simp only[uh HSW,List.getElem_map];rw[<-uh HBY,Bool.eq_iff_iff,<-hce];simp[<-UInt8.toNat_inj]; omega
    rw[hbv,<-boolsV_take _ _ hsl] at ho2;clear hown hown' hgrow hg2;go_wp2
    exact⟨⟨k+1,_,by go_num,by omega,hM2,ho2,hS2⟩,by simp[intOf]; omega⟩
  ·have hkk:k=p1.length:=by omega
   have HK:=zh hkk;have hlS:S1.size<=k:=by omega
   clear hkk;have hBs:=zh (show Bools wr vh L.sw by
    have hfull:L.sw.take k=L.sw:=List.take_of_length_le (by rw[uh HSW]; simp; omega);rw[hfull] at hown;exact Bools.ofOwn hown (by rw[uh HSW]; simp; exact uh HK))
   have HLH:=zh ((Lo.of hown).mono (m:=w.heap.size) (by omega));clear hown y0 y1 y2 y3 y4 y5 f0 f1 f2 f3 f4 f5 HIB;go_wp2_with fail
   refine(split_any ⟨p2.toArray⟩ 44 _ (by show p2.toArray.size<=1000; simp; omega)).mono ?_;simp only;generalize hrs:z0v 44 [] p2=RS at *;rintro e w2 ⟨vrs,rfl,hS2,hb2⟩;obtain⟨aor,capr,rfl,-,crm,crs⟩:=SlAt.open hS2;have hM2:=(uh HM).below hb2;have hB2:=(uh hBs).keep (Keeps.below hb2);have hSl2:=(uh HS).keep (Keeps.below hb2);have hRSl:∀r,r∈RS->r.length<=256:=by
    intro r hr; rw[<-hrs] at hr;have:=z4l _ _ _ r hr;simp at this; omega
   have hRSn:RS.length<=257:=by
    rw[<-hrs]; exact Nat.le_trans (splitA_len _ _ _) (by omega)
   have HF:=zh (And.intro hM2 (And.intro hB2 (And.intro hSl2 hS2)));have HRL:=zh hRSl;have HRSE:=zh hrs;clear hM2 hB2 hSl2 hS2 hb2 hBs HM HS hRSl hrs x1 x2 x3 gx crs;obtain⟨i1,hi1⟩:=info_parts Tryz.infoRRt;have HIR:=zh hi1;clear hi1;go_wp2
   go_loopw [7] (fun i wr=>∃k:Nat,∃vr css,i=.int .i64 k/\k<=RS.length/\RMid w L wr vh vr (.slice none 0 0)/\wr.ownsRow (w.heap.size+2) 159 5 vr k css.flatten ∧
     All2 (CRRtL w.heap.size wr) (L.rts.take k) css/\(∀c,c∈css->c.length=5)/\Bools wr vh L.sw/\Strs wr (.slice (some ⟨gl,ol,none⟩) 4 capl) [p0,p1,p2,p3]/\Strs wr (.slice aor RS.length capr) RS) (fun i _=>RS.length - (intOf i).toNat)
   case atStart=>exact⟨0,_,[],rfl,Nat.zero_le _,(uh HF).1,World.ownsRow_nil _ _ _ _,trivial,by simp,(uh HF).2.1,(uh HF).2.2.1,(uh HF).2.2.2⟩
   case round=>
   clear HF;obtain⟨k2,vr,css,rfl,hk2,hM,hown,hA,hcl,hBo,hSl,hSr⟩:=hrel;have hmm:=hM.2.2.size;obtain⟨⟨y0,y1,y2,y3,y4,y5⟩,⟨f0,f1,f2,f3,f4,f5⟩,qs2⟩:=six0 hM.2.1;by_cases hlt2:k2 < RS.length
   ·obtain⟨ao9,cap9,he9,-,-,h9⟩:=SlAt.open hSr
    simp only[Value.slice.injEq,true_and] at he9;obtain⟨gr,offr,hao,-,-⟩:=h9 k2 hlt2;rw[<-he9.1] at hao;subst hao;obtain⟨xr,gxr⟩:=strs_at hSr k2 hlt2;simp[strV] at xr;have hrl:=uh HRL _ (List.getElem_mem hlt2);have hrf:=uh HRS RS[k2] (List.getElem_mem hlt2);have hsr:RS[k2].toArray.size=RS[k2].length:=by simp
    have HRo:=zh (fun w=>route_lo ⟨RS[k2].toArray⟩ w (by show 2<=RS[k2].toArray.size; omega) (by show RS[k2].toArray.size<=1000; omega) (by simpa using hrf.2));simp only at HRo;have hkL:k2 < L.rts.length:=by rw[uh HRT]; simpa using hlt2
    have HRE:=zh (show z47 RS[k2]=L.rts[k2] by simp[uh HRT]);rw[uh HRE] at HRo;have HFF:=zh (And.intro hM (And.intro hA (And.intro hBo (And.intro hSl hSr))));obtain⟨ah,ch,hvr⟩:=z02 hown;subst hvr;clear hM hA hBo hSl hSr h9 he9 hrl hrf hsr;generalize hRR:L.rts[k2]=R at *;have HRR:=zh hRR;clear hRR;go_wp2_with fail
    refine(uh HRo _).mono ?_;rintro e w3 ⟨vp,vs,vf,vg,rfl,hC3,hb3,hlo3⟩;have HLO3:=zh (hlo3.mono (m:=w.heap.size) (by first | omega | (simp; omega)));clear hlo3;have HC3:=zh hC3;obtain⟨_,_,_,_,he,q1,q2,q3,q4⟩:=hC3;simp only[List.cons.injEq,and_true,true_and] at he;obtain⟨rfl,rfl,rfl,rfl⟩:=he;obtain⟨ap,cp,rfl,-,-,-⟩:=SlAt.open q1;obtain⟨as_,cs_,rfl,-,-,-⟩:=SlAt.open q2;obtain⟨af,cf,rfl,-,-,-⟩:=SlAt.open q3;obtain⟨al,cl,rfl,-,-,-⟩:=SlAt.open q4;clear q1 q2 q3 q4 y0 y1 y2 y3 y4 y5 f0 f1 f2 f3 f4 f5 xr;have hM3:=(uh HFF).1.below hb3;have hown3:=z0j hown hb3;have hmm3:=hM3.2.2.size;obtain⟨⟨y0,y1,y2,y3,y4,y5⟩,⟨f0,f1,f2,f3,f4,f5⟩,qs3⟩:=six0 hM3.2.1;have HM3:=zh hM3;have HB3:=zh hb3;clear hM3 hb3 hown;go_wp2_with (at_builtin; refine wpList_append_own _ rfl _ _ 116 rfl (w.heap.size+2) 159 i1 (.agg #[.int .i64 0,.slice none 0 0,.slice none 0 0,.slice none 0 0,.slice none 0 0]) 5 104 Tryz.underlying116 (uh HIR).1 (uh HIR).2.1 (uh HIR).2.2.1 (uh HIR).2.2.2 rfl (by decide) _ _ _ rfl ((hown3.alloc _).alloc _) ⟨w3.heap.size+1,0,none⟩ 1 1 [.int .i64 R.foot,.slice ap (secs R.path).length cp,.slice as_ (signs R.path).length cs_,.slice af (secs R.flank).length cf,.slice al (signs R.flank).length cl] rfl rfl (z0t _ [.int .i64 R.foot,.slice ap (secs R.path).length cp,.slice as_ (signs R.path).length cs_,.slice af (secs R.flank).length cf,.slice al (signs R.flank).length cl] _ _ (by simp)) (by simp[Value.oneCell']) (by unfold maxLen; omega) (by omega) (by simp; omega) ?_; intro v4 w4 hown4 hgrow4 _; have HM4:=zh (((uh HM3).below (z01 _ _)).append (hown3.alloc _) hgrow4 (by decide)); obtain⟨⟨r0,r1,r2,r3,r4,r5⟩,⟨g0,g1,g2,g3,g4,g5⟩,qs4⟩:=six0 (uh HM4).2.1; obtain⟨ah',ch',hv'⟩:=z02 hown4; subst hv')
    have kk3:=fun e (n1:159≠e) (n2:119≠e)=>((Keeps.alloc e w3 _).trans (z0f (hown3.alloc _) hgrow4 n1)).trans (Keeps.setCell ⟨w.heap.size+1,4,none⟩ (.slice ah' (k2+1) ch') (uh HM4).typed n2);have kk:=fun e n1 n2=>(Keeps.below (e:=e) (uh HB3)).trans (kk3 e n1 n2);have ho5:=z06 hown4 (Keeps.setCell ⟨w.heap.size+1,4,none⟩ (.slice ah' (k2+1) ch') (uh HM4).typed (by decide));refine⟨⟨k2+1,_,css++[[.int .i64 R.foot,.slice ap (secs R.path).length cp,.slice as_ (signs R.path).length cs_,.slice af (secs R.flank).length cf,.slice al (signs R.flank).length cl]],by go_num,by omega,((uh HM4).store _).2.1,?_,?_,?_,(uh HFF).2.2.1.keep (kk _ (by decide) (by decide)),(uh HFF).2.2.2.1.keep (kk _ (by decide) (by decide)),(uh HFF).2.2.2.2.keep (kk _ (by decide) (by decide))⟩,by simp[intOf]; omega⟩
    ·rw[List.flatten_append]; simpa using ho5
    ·rw[List.take_succ_eq_append_getElem hkL,uh HRR]
     exact All2.snoc ⟨(uh HC3).keep (kk3 _ (by decide) (by decide)) (kk3 _ (by decide) (by decide)),uh HLO3⟩ (All2.mono (fun _ _ h=>h.keep (kk _ (by decide) (by decide)) (kk _ (by decide) (by decide))) (uh HFF).2.1)
    ·intro c hc
     rcases List.mem_append.1 hc with h | h
     ·exact hcl c h
     ·simp at h; subst h; rfl
   ·have hk2e:k2=RS.length:=by omega
    have HLR:=zh ((Lo.of hown).mono (m:=w.heap.size) (by omega));have hRs:=zh (show RRtsL w.heap.size wr vr L.rts by
     have hfull:L.rts.take k2=L.rts:=List.take_of_length_le (by rw[uh HRT]; simp; omega);rw[hfull] at hA;exact SlAt.ofOwnN hown hA hcl (by rw[uh HRT]; simp; omega))
    obtain⟨x3,gx⟩:=strs_at hSl 3 (by simp);simp[strV] at x3;have HFF:=zh (And.intro hM (And.intro hBo hSl));clear hM hBo hSl hSr hown hA hcl y0 y1 y2 y3 y4 y5 f0 f1 f2 f3 f4 f5 HRS HRL HIR HRSE;go_wp2_with fail
    refine(split_any ⟨p3.toArray⟩ 44 _ (by show p3.toArray.size<=1000; simp; omega)).mono ?_;simp only;generalize hts:z0v 44 [] p3=TS at *;rintro e w2 ⟨vts,rfl,hS2,hb2⟩;obtain⟨aot,capt,rfl,-,ctm,cts⟩:=SlAt.open hS2;have hM2:=(uh HFF).1.below hb2;have hB2:=(uh HFF).2.1.keep (Keeps.below hb2);have hR2:=(uh hRs).keep (Keeps.below hb2) (Keeps.below hb2) (Keeps.below hb2);have hTSl:∀r,r∈TS->r.length<=256:=by
     intro r hr; rw[<-hts] at hr;have:=z4l _ _ _ r hr;simp at this; omega
    have hTSn:TS.length<=257:=by
     rw[<-hts]; exact Nat.le_trans (splitA_len _ _ _) (by omega)
    have HF:=zh (And.intro hM2 (And.intro hB2 (And.intro hR2 hS2)));have HTL:=zh hTSl;have HTSE:=zh hts;clear hM2 hB2 hR2 hS2 hb2 hRs HFF hTSl hts x3 gx cts;obtain⟨i2,hi2⟩:=info_parts Tryz.infoRTn;have HIT:=zh hi2;obtain⟨i3,hi3⟩:=info_parts Tryz.infoInt;have HII:=zh hi3;clear hi2 hi3;go_wp2
    go_loopw [10] (fun i wr=>∃k:Nat,∃vt css,i=.int .i64 k/\k<=TS.length/\RMid w L wr vh vr vt/\wr.ownsRow (w.heap.size+2) 196 2 vt k css.flatten ∧
      All2 (CRTnL w.heap.size wr) (L.tns.take k) css/\(∀c,c∈css->c.length=2)/\Bools wr vh L.sw/\RRtsL w.heap.size wr vr L.rts/\Strs wr (.slice aot TS.length capt) TS) (fun i _=>TS.length - (intOf i).toNat)
    case atStart=>exact⟨0,_,[],rfl,Nat.zero_le _,(uh HF).1,World.ownsRow_nil _ _ _ _,trivial,by simp,(uh HF).2.1,(uh HF).2.2.1,(uh HF).2.2.2⟩
    case round=>
    clear HF;obtain⟨k3,vt,css3,rfl,hk3,hM,hown,hA,hcl,hBo,hRo,hSt⟩:=hrel;have hmm3:=hM.2.2.size;obtain⟨wo,hwo⟩:∃wo:World,wo=wr:=⟨_,rfl⟩
    subst hwo;by_cases hlt3:k3 < TS.length
    ·obtain⟨ao9,cap9,he9,-,-,h9⟩:=SlAt.open hSt
     simp only[Value.slice.injEq,true_and] at he9;obtain⟨gt,offt,hao,-,-⟩:=h9 k3 hlt3;rw[<-he9.1] at hao;subst hao;obtain⟨xt,gxt⟩:=strs_at hSt k3 hlt3;simp[strV] at xt;have htl:=uh HTL _ (List.getElem_mem hlt3);have htf:=uh HTS TS[k3] (List.getElem_mem hlt3);have hkL:k3 < L.tns.length:=by rw[uh HTN]; simpa using hlt3
     have HTE:=zh (show L.tns[k3]=trainF TS[k3] by simp[uh HTN]);obtain⟨S3,hS3⟩:∃S:ByteArray,S=⟨TS[k3].toArray⟩:=⟨_,rfl⟩
     rw[<-hS3] at xt;have hl3:S3.size=TS[k3].length:=by rw[hS3]; simp[ByteArray.size]
     have hpos:0 < S3.size:=by omega
     have hb0:S3[0]=TS[k3].getD 0 0:=by
      subst hS3; rw[List.getD_eq_getElem?_getD,List.getElem?_eq_getElem (by omega)]; rfl
     have hc97:97<=S3[0].toNat:=by rw[hb0]; exact htf.2.1
     have hc256:=S3[0].toNat_lt;have HST:=zh (show L.tns[k3].start=S3[0].toNat - 97 by rw[uh HTE,trainF,hb0]);have HJN:=zh (show L.tns[k3].jny=(TS[k3].drop 1).map (fun x=>x.toNat - 65) by rw[uh HTE,trainF]);obtain⟨c,hce⟩:∃c,S3[0].toNat=c:=⟨_,rfl⟩
     rw[hce] at hc97 hc256 HST;have v0:IntKind.i64.wrap ((c:Int) - 97)=(c:Int) - 97:=Go.IntWalk.i64_in _ (by omega);have k0:(0:Int) < S3.size:=by omega
     have HH:=zh (And.intro hM (And.intro hown (And.intro hA (And.intro hcl (And.intro hBo (And.intro hRo hSt))))));have HTX:=zh (And.intro htf.2.2 (And.intro hS3 (And.intro hl3 (And.intro htl hb0))));clear hM hA hcl hBo hRo hSt h9 he9 hS3 hl3 hb0 htf htl hown;have hst:(c:Int) - 97=(L.tns[k3].start:Int):=by rw[uh HST]; omega
     have HSTI:=zh hst;clear hst;go_wp2
     rw[uh HSTI];clear v0 hce hc97 hc256 k0;generalize hTT:L.tns[k3]=T3 at *;have HTT:=zh hTT;clear hTT;go_loopw [12] (fun i wi=>∃m:Nat,∃vj,i=.int .i64 ((m+1:Nat):Int)/\m+1<=S3.size/\wi.heap[wo.heap.size]?=some (.cells #[.int .i64 T3.start,vj] 196 (0,0)) ∧
       wi.ownsRow (wo.heap.size+1) 3 1 vj m (intsV (T3.jny.take m))/\Below wo.heap.size wo wi) (fun i _=>S3.size - (intOf i).toNat)
     case atStart=>exact⟨0,_,rfl,by omega,heap_alloc_new wo _,World.ownsRow_nil _ _ _ _,z01 _ _⟩
     case round=>
     obtain⟨m,vj,rfl,hm,hT,hown,hbi⟩:=hrel;obtain⟨⟨y0,y1⟩,⟨f0,f1⟩,qt⟩:=duo0 hT;obtain⟨xt2,gxt2⟩:=strs_at ((uh HH).2.2.2.2.2.2.keep (Keeps.below hbi)) k3 hlt3;rw[show strV TS[k3]=.string S3 by rw[(uh HTX).2.1]; rfl] at xt2;obtain⟨aj,cj,hvj⟩:=z02 hown;subst hvj;have HT3:=zh hT;have HBI:=zh hbi;have hszi:=hbi.size;clear hT hbi xt gxt;have hS256:S3.size<=256:=by rw[(uh HTX).2.2.1]; exact(uh HTX).2.2.2.1
     by_cases hltm:m+1 < S3.size
     ·have hmem:S3[m+1]∈TS[k3].drop 1:=by
       have h1:S3[m+1]=TS[k3][m+1]'(by have:=(uh HTX).2.2.1; omega):=by
        have e:=(uh HTX).2.1;subst e; rfl
       rw[h1,List.mem_iff_getElem];exact⟨m,by have:=(uh HTX).2.2.1; simp; omega,by rw[List.getElem_drop]; congr 1; omega⟩
      have hc65:=(uh HTX).1 _ hmem;have hc256:=S3[m+1].toNat_lt;have hmJ:m < T3.jny.length:=by rw[uh HJN]; have:=(uh HTX).2.2.1; simp; omega
      have HJm:=zh (show T3.jny[m]=S3[m+1].toNat - 65 by
       have h1:S3[m+1]=TS[k3][m+1]'(by have:=(uh HTX).2.2.1; omega):=by
        have e:=(uh HTX).2.1;subst e; rfl
       simp only[uh HJN,List.getElem_map,List.getElem_drop,h1]
       congr 3; omega)
      obtain⟨c,hce⟩:∃c,S3[m+1].toNat=c:=⟨_,rfl⟩
      rw[hce] at hc65 hc256 HJm;have v0:IntKind.i64.wrap ((c:Int) - 65)=(c:Int) - 65:=Go.IntWalk.i64_in _ (by omega);have k0:(m:Int)+1 < S3.size:=by omega
      have k9:(0:Int)<=(m:Int)+1:=by omega
      have kt0:(0:Int)<=k3:=by omega
      have kt1:(k3:Int) < TS.length:=by omega
      clear hmem;go_wp2
      have v1:IntKind.i64.wrap (c:Int)=c:=Go.IntWalk.i64_in _ (by omega);go_region_law (refine z1z rfl (.tmp 96) (.tmp 105) 49 rfl (wo.heap.size+1) 3 i3 (.int .i64 0) 1 8 Tryz.underlying49 (uh HII).1 (uh HII).2.1 (uh HII).2.2.1 (uh HII).2.2.2 rfl (by decide) (.slice aj m cj) _ _ (by simp[Act.eval]) ((hown.alloc _).drew) ⟨wr.heap.size,0,none⟩ 1 1 [.int .i64 ((c:Int) - 65)] (by simp[Act.eval]) rfl (z29 _ _ _) (z0a rfl) (by unfold maxLen; omega) (by omega) (by simp; omega) ?_; intro v' w1 hown' hgrow; have hg2:=z20 hgrow; have HT4:=zh ((z0f hown hg2 (by decide) _ _ _ (uh HT3)).trans (uh HT3)); obtain⟨⟨r0,r1⟩,⟨g0,g1⟩,qs1⟩:=duo0 (uh HT4); obtain⟨ah',ch',hv'⟩:=z02 hown'; subst hv')
      all_goals
       have ho2:=z06 hown' (Keeps.setCell ⟨wo.heap.size,1,none⟩ (.slice ah' (m+1) ch') ⟨_,_,uh HT4⟩ (by decide));have hT5:=z0b (j:=1) (.slice ah' (m+1) ch') (uh HT4);have hb5:=(((uh HBI).alloc hszi _).grown hg2 (by simp; omega) (fun k hk=>by have:=(hown.lt k hk).1; omega)).setCell (p:=⟨wo.heap.size,1,none⟩) (Nat.le_refl _) (.slice ah' (m+1) ch');have hcc:(c:Int) - 65=((T3.jny[m]:Nat):Int):=by rw[uh HJm]; omega
       rw[hcc,<-z0x,<-List.take_succ_eq_append_getElem hmJ] at ho2;clear hown hown' hgrow hg2;go_wp2
       exact⟨⟨m+1,_,by go_num,by omega,hT5,ho2,hb5⟩,by simp[intOf]; omega⟩
     ·have hmJ:m=T3.jny.length:=by rw[uh HJN]; have:=(uh HTX).2.2.1; simp; omega
      have HLJ:=zh ((Lo.of hown).mono (m:=w.heap.size) (by omega));have hIJ:=zh (show Ints wr (.slice aj m cj) T3.jny by
       rw[List.take_of_length_le (by omega)] at hown;exact Ints.ofOwn hown hmJ)
      have hM5:=(uh HH).1.below (uh HBI);have hown5:=z0j (uh HH).2.1 (uh HBI);obtain⟨⟨t0,t1,t2,t3,t4,t5⟩,⟨e0,e1,e2,e3,e4,e5⟩,qs5⟩:=six0 hM5.2.1;have hmm5:=hM5.2.2.size;have HM5:=zh hM5;obtain⟨av,cv,hvt⟩:=z02 hown5;subst hvt;have k0:¬((m:Int)+1 < S3.size):=by omega
      have hwow:w.heap.size+1 < wo.heap.size:=z0g (uh HH).1.2.1;clear hM5 hown hmJ;go_wp2_with (at_builtin; refine wpList_append_own _ rfl _ _ 117 rfl (w.heap.size+2) 196 i2 (.agg #[.int .i64 0,.slice none 0 0]) 2 32 Tryz.underlying117 (uh HIT).1 (uh HIT).2.1 (uh HIT).2.2.1 (uh HIT).2.2.2 rfl (by decide) _ _ _ rfl (hown5.alloc _) ⟨wr.heap.size,0,none⟩ 1 1 [.int .i64 T3.start,.slice aj m cj] rfl rfl (z0t _ [.int .i64 T3.start,.slice aj m cj] _ _ rfl) (by simp[Value.oneCell']) (by unfold maxLen; omega) (by omega) (by simp; omega) ?_; intro v6 w6 hown6 hgrow6 _; have HM6:=zh ((uh HM5).append hown5 hgrow6 (by decide)); obtain⟨⟨r0,r1,r2,r3,r4,r5⟩,⟨g0,g1,g2,g3,g4,g5⟩,qs6⟩:=six0 (uh HM6).2.1; obtain⟨ah',ch',hv'⟩:=z02 hown6; subst hv')
      have kk3:=fun e (n1:196≠e) (n2:119≠e)=>(z0f hown5 hgrow6 n1).trans (Keeps.setCell ⟨w.heap.size+1,5,none⟩ (.slice ah' (k3+1) ch') (uh HM6).typed n2);have kk:=fun e n1 n2=>(Keeps.below (e:=e) (uh HBI)).trans (kk3 e n1 n2);have ho7:=z06 hown6 (Keeps.setCell ⟨w.heap.size+1,5,none⟩ (.slice ah' (k3+1) ch') (uh HM6).typed (by decide));obtain⟨-,-,zA,zcl,zB,zR,zS⟩:=uh HH;refine⟨⟨k3+1,_,css3++[[.int .i64 T3.start,.slice aj m cj]],by go_num,by omega,((uh HM6).store _).2.2,?_,?_,?_,zB.keep (kk _ (by decide) (by decide)),zR.keep (kk _ (by decide) (by decide)) (kk _ (by decide) (by decide)) (kk _ (by decide) (by decide)),zS.keep (kk _ (by decide) (by decide))⟩,by simp[intOf]; omega⟩
      ·rw[List.flatten_append]; simpa using ho7
      ·rw[List.take_succ_eq_append_getElem hkL,uh HTT]
       exact All2.snoc ⟨⟨_,rfl,(uh hIJ).keep (kk3 _ (by decide) (by decide))⟩,lo2 (uh HLJ)⟩ (All2.mono (fun _ _ h=>h.keep (kk _ (by decide) (by decide))) zA)
      ·intro c hc
       rcases List.mem_append.1 hc with h | h
       ·exact zcl c h
       ·simp at h; subst h; rfl
    ·have HLT:=zh ((Lo.of hown).mono (m:=w.heap.size) (by omega))
     have hTs:=zh (show RTnsL w.heap.size wo vt L.tns by
      have hfull:L.tns.take k3=L.tns:=List.take_of_length_le (by rw[uh HTN]; simp; omega);rw[hfull] at hA;exact SlAt.ofOwnN hown hA hcl (by rw[uh HTN]; simp; omega))
     obtain⟨av,cv,hvt⟩:=z02 hown;subst hvt;have HBo:=zh hBo;have HRo:=zh hRo;obtain⟨a1,d1,rfl,-,-,-⟩:=SlAt.open hBo;obtain⟨a2,d2,rfl,-,-,-⟩:=SlAt.open hRo;obtain⟨⟨t0,t1,t2,t3,t4,t5⟩,⟨e0,e1,e2,e3,e4,e5⟩,qs5⟩:=six0 hM.2.1;obtain⟨⟨z0,z1,z2,z3,z4,z5⟩,⟨x0,x1,x2,x3,x4,x5⟩,qs6⟩:=six0 hM.1;have hT0:Typed wo w.heap.size 119:=⟨_,_,hM.1⟩
     have hS6:=store6 hT0 (.int .i64 L.T) (.int .i64 L.D) (.int .i64 L.Q) (.slice a1 L.sw.length d1) (.slice a2 L.rts.length d2) (.slice av k3 cv);have HS6:=zh hS6;have hb9:=zh (hM.2.2.trans (hS6.2 _ (Nat.le_refl _)));clear hM hown hA hcl hBo hRo hSt hS6;go_wp2
     refine bodyPost_ret (v:=.agg #[.int .i64 L.T,.int .i64 L.D,.int .i64 L.Q,.slice a1 L.sw.length d1,.slice a2 L.rts.length d2,.slice av k3 cv]) (by simp[results,Tryz.results94,go_sem,z0,z1,z2,z3,z4,z5]) rfl ?_;exact⟨_,rfl,⟨_,_,_,rfl,(uh HBo).keep ((uh HS6).1 _ (by decide)),(uh HRo).keep ((uh HS6).1 _ (by decide)) ((uh HS6).1 _ (by decide)) ((uh HS6).1 _ (by decide)),(uh hTs).keep ((uh HS6).1 _ (by decide)) ((uh HS6).1 _ (by decide)),uh HLH,uh HLR,uh HLT⟩,uh hb9⟩
end Go.Proofs.YtkbpocecbcaiiabGreatDoor
