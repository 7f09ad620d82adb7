import Derived.Test.YtkbpocecbcaiiabGreatDoorO42
namespace Go.Proofs.YtkbpocecbcaiiabGreatDoor
open Go.RowKit
def PBx.init (L:Lay):PBx:=⟨L,L.rts.map PRt.new,List.replicate L.sw.length PSw.new,List.replicate L.tns.length 0,[]⟩
def pbox (L:Lay) (vs vr vt vl vw vg:Value):Obj:=.cells #[.int .i64 L.T,.int .i64 L.D,.int .i64 L.Q,vs,vr,vt,vl,vw,vg,.slice none 0 0] 86
def PMid (w1:World) (gb:Nat) (L:Lay) (vs vr vt vg:Value) (wr:World) (vl vw:Value):Prop:=
 wr.heap[w1.heap.size]?=some (z0n L vs vr vt)/\wr.heap[gb]?=some (pbox L vs vr vt vl vw vg)/\Below w1.heap.size w1 wr/\wr.ownsRow w1.heap.size 3 1 vg L.tns.length (intsV (List.replicate L.tns.length 0))
theorem PMid.append {w1:World} {gb B:Nat} {L:Lay} {vs vr vt vg vl vw v:Value} {wr w2:World} {e:TypeId} {size n:Nat} {xs:List Value} {o:Obj} (h:PMid w1 gb L vs vr vt vg wr vl vw) (hown:wr.ownsRow B e size v n xs)
  (hB:w1.heap.size<=B) (hg:(wr.alloc o).grownBy w2 v.ownBlock) (h1:e≠82) (h2:e≠86) (h3:e≠3):PMid w1 gb L vs vr vt vg w2 vl vw:=
 ⟨(z0f hown hg h1 _ _ _ h.1).trans h.1,(z0f hown hg h2 _ _ _ h.2.1).trans h.2.1,
  (h.2.2.1.alloc h.2.2.1.size o).grown hg (by have:=h.2.2.1.size; simp; omega) (fun k hk=>by have:=(hown.lt k hk).1; omega),z06 h.2.2.2 (z0f hown hg h3)⟩
theorem PMid.below {w1:World} {gb:Nat} {L:Lay} {vs vr vt vg vl vw:Value} {wr w2:World} (h:PMid w1 gb L vs vr vt vg wr vl vw) (hb:Below wr.heap.size wr w2):PMid w1 gb L vs vr vt vg w2 vl vw:=
 ⟨(hb.block _ (z0g h.1)).trans h.1,(hb.block _ (z0g h.2.1)).trans h.2.1,h.2.2.1.trans (hb.mono h.2.2.1.size),z3t h.2.2.2 hb⟩
theorem PMid.typed {w1:World} {gb:Nat} {L:Lay} {vs vr vt vg vl vw:Value} {wr:World} (h:PMid w1 gb L vs vr vt vg wr vl vw):Typed wr gb 86:=⟨_,_,h.2.1⟩
theorem PMid.store {w1:World} {gb:Nat} {L:Lay} {vs vr vt vg vl vw:Value} {wr:World} (h:PMid w1 gb L vs vr vt vg wr vl vw) (hgb:w1.heap.size < gb) (u:Value) :
  PMid w1 gb L vs vr vt vg (wr.setCell ⟨gb,6,none⟩ u) u vw/\PMid w1 gb L vs vr vt vg (wr.setCell ⟨gb,7,none⟩ u) vl u:=by
 have hz:∀j,(wr.setCell ⟨gb,j,none⟩ u).heap[w1.heap.size]?=some (z0n L vs vr vt):=fun j=>by
  rw[Below.heap_setCell _ _ _ _ (by simp; omega)]; exact h.1
 have hb:∀j,Below w1.heap.size w1 (wr.setCell ⟨gb,j,none⟩ u):=fun j=>h.2.2.1.setCell (p:=⟨gb,j,none⟩) (by simp; omega) u;have hi:∀j,(wr.setCell ⟨gb,j,none⟩ u).ownsRow w1.heap.size 3 1 vg L.tns.length (intsV (List.replicate L.tns.length 0)):=fun j=>z06 h.2.2.2 (Keeps.setCell ⟨gb,j,none⟩ u h.typed (by decide));exact⟨⟨hz 6,z0b u h.2.1,hb 6,hi 6⟩,⟨hz 7,z0b u h.2.1,hb 7,hi 7⟩⟩
theorem Tryz.infoRs:(Tryz.prog.info? 115).map (fun i=>(i.zero,i.size,i.bytes))=some (some (.agg #[.int .i64 0,.slice none 0 0,.slice none 0 0,.int .u8 0,.int .i64 0,.bool false,.int .i64 0,.slice none 0 0,.int .i64 0]),9,120):=by kernel_rfl
theorem Tryz.infoSs:(Tryz.prog.info? 110).map (fun i=>(i.zero,i.size,i.bytes))=some (some (.agg #[.int .u8 0,.int .i64 0,.bool false]),3,24):=by kernel_rfl
theorem swRep (k:Nat):((List.replicate (k+1) PSw.new).map swV).flatten=((List.replicate k PSw.new).map swV).flatten++[.int .u8 43,.int .i64 0,.bool false]:=by
 rw[List.replicate_succ',List.map_append,List.flatten_append]; rfl
theorem prtsV_snoc (l:List PRt) (qs:List Q3) (h:qs.length=l.length) (x:PRt) (q:Q3):prtsV (l++[x]) (qs++[q])=prtsV l qs++[prtV x q]:=by
 unfold prtsV;rw[List.zipWith_append h.symm]; rfl
def ItOf (R:Nat->Prop) (w1:World) (l:List Rt) (qs:List Q3):Prop:=∀i (h:i < l.length) (h':i < qs.length),qs[i].2.2=.slice none 0 0/\∀w',SameOn R w1 w'->Items w' qs[i].1 l[i].path/\Items w' qs[i].2.1 l[i].flank
theorem ItOf.snoc {R:Nat->Prop} {w1:World} {l:List Rt} {qs:List Q3} (hl:qs.length=l.length) (h:ItOf R w1 l qs) {x:Rt} {q:Q3} (hq:q.2.2=.slice none 0 0) (hx:∀w',SameOn R w1 w'->Items w' q.1 x.path/\Items w' q.2.1 x.flank):ItOf R w1 (l++[x]) (qs++[q]):=by
 intro i a b;by_cases hi:i < l.length
 ·have h1:(l++[x])[i]=l[i]:=List.getElem_append_left hi
  have h2:(qs++[q])[i]=qs[i]'(by omega):=List.getElem_append_left (by omega);rw[h1,h2]; exact h i hi (by omega)
 ·have:i=l.length:=by simp at a; omega
  subst this;have h1:(l++[x])[l.length]=x:=by simp
  have h2:(qs++[q])[l.length]=q:=by simp[<-hl]
  rw[h1,h2]; exact⟨hq,hx⟩
theorem PMid.fin {R:Nat->Prop} {w1 wr:World} {gb B n:Nat} {L:Lay} {vs vr vt vg vl vw:Value} {qs:List Q3} (hM:PMid w1 gb L vs vr vt vg wr vl vw) (hB:w1.heap.size<=B) (hn:n<=w1.heap.size) (hgb:w1.heap.size < gb)
  (hL:LayIn R w1 (.agg #[.int .i64 L.T,.int .i64 L.D,.int .i64 L.Q,vs,vr,vt]) L) (hR:∀k,R k->n<=k)
  (hw:wr.ownsRow B 110 3 vw L.sw.length ((List.replicate L.sw.length PSw.new).map swV).flatten)
  (hl:wr.ownsRow B 115 9 vl L.rts.length (prtsV (L.rts.map PRt.new) qs).flatten) (hq:qs.length=L.rts.length) (hI:ItOf R w1 L.rts qs) :
  PBoxIn wr (fun b=>n<=b/\b < wr.heap.size) gb (PBx.init L):=by
 have hsR:SameOn R w1 wr:=fun k hk=>hM.2.2.1.block k (hL.1 k hk);have hz:=hM.2.2.1.size;have hqn:∀q,q∈qs->q.2.2=.slice none 0 0:=fun q h=>by
  obtain⟨i,hi,rfl⟩:=List.getElem_of_mem h;exact(hI i (by omega) hi).1
 have ho:∀b,(b=gb\/vl.ownBlock=some b\/vw.ownBlock=some b\/vg.ownBlock=some b\/(Value.slice none 0 0).ownBlock=some b\/∃q,q∈qs/\q.2.2.ownBlock=some b)->w1.heap.size<=b/\b < wr.heap.size:=by
  rintro b (rfl | h | h | h | h | ⟨q,hq,h⟩)
  ·exact⟨by omega,z0g hM.2.1⟩
  ·have:=hl.lt b h; omega
  ·have:=hw.lt b h; omega
  ·have:=hM.2.2.2.lt b h; omega
  ·cases h
  ·rw[hqn q hq] at h; cases h
 refine⟨R,vs,vr,vt,vl,vw,vg,.slice none 0 0,qs,?_,fun b hb=>⟨hR b hb,Nat.lt_of_lt_of_le (hL.1 b hb) hz⟩,fun b hb=>hb.2,fun b hb=>⟨by have:=(ho b hb).1; omega,(ho b hb).2⟩⟩;refine⟨hM.2.1,hL.same hsR hz,?_,?_,?_,?_,?_,?_,World.ownsRow_nil _ _ _ _,?_,?_,?_⟩
 ·intro w' hs i a b
  have a':i < L.rts.length:=by simpa [PBx.init] using a
  have:=(hI i a' b).2 w' (hsR.trans hs)
  simpa [PBx.init,PRt.new] using this
 ·have:=z3a hl (Nat.zero_le _)
  simpa [PBx.init] using this
 ·simpa [PBx.init] using hq
 ·intro i a b
  have:=(hI i (by omega) a).1;rw[this];simp only[PBx.init,List.getElem_map,PRt.new];exact World.ownsRow_nil _ _ _ _
 ·have:=z3a hw (Nat.zero_le _)
  simpa [PBx.init] using this
 ·have:=z3a hM.2.2.2 (Nat.zero_le _)
  simpa [PBx.init] using this
 ·intro i j hi hj _ b hb
  rw[hqn _ (List.getElem_mem hi)] at hb; cases hb
 ·intro b _ h; cases h
 ·intro b hb hRb
  have:=(ho b hb).1;have:=hL.1 b hRb;omega
theorem own_made (w:World) (base n:Nat) (hb:base<=w.heap.size) (hn:n<=maxLen):(w.alloc (.cells (madeCells #[.int .i64 0] n) 3)).ownsRow base 3 1 (.slice (some ⟨w.heap.size,0,none⟩) n n) n (intsV (List.replicate n 0)):=by
 refine⟨by simp[intsV],.inr ⟨w.heap.size,n,_,rfl,hb,heap_alloc_new w _,Nat.le_refl _,hn,?_,?_⟩⟩
 ·have:=congrArg List.length (toList_madeCells_one (.int .i64 0) n)
  simpa using this
 ·rw[toList_madeCells_one]; simp[intsV]
set_option maxHeartbeats 400000 in
theorem AtFirst_own (v:Value) (L:Lay) (w:World) (h:CLay w v L) (hl:L.tns.length<=1000) :
  Calls Tryz.prog 59 #[v] w fun e w'=>∃a n c,e=.returned (.slice a n c)/\w'.ownsRow w.heap.size 3 1 (.slice a n c) L.tns.length (intsV (List.replicate L.tns.length 0))/\Below w.heap.size w w':=by
 obtain⟨vs,vr,vt,rfl,-,-,hT⟩:=h;obtain⟨at_,ct,rfl,-,-,-⟩:=SlAt.open hT;clear hT;obtain⟨i0,hi0⟩:=info_parts Tryz.infoInt;have hmk:=fun (wz:World)=>run_make (P:=Tryz.prog) wz 49 3 i0 (.int .i64 0) Tryz.underlying49 hi0.1 hi0.2.1 .i64 .i64 (L.tns.length:Int) (L.tns.length:Int) (by omega) (by omega) (by rw[hi0.2.2.2]; omega) (by omega);rw[hi0.2.2.1] at hmk;simp only[Int.toNat_natCast,Nat.mul_one] at hmk;have hI:=zh (fun (wz:World) (hz:w.heap.size<=wz.heap.size)=>own_made wz w.heap.size L.tns.length hz (by unfold maxLen; omega));clear hi0;go_enter Tryz.func59,Tryz.ntmps59
 go_wp2
 go_ret
 refine⟨_,_,_,rfl,?_,z08 (o1:=z0n L vs vr (.slice at_ L.tns.length ct)) (Below.refl _ _)⟩;have:=uh hI (w.alloc (z0n L vs vr (.slice at_ L.tns.length ct))) (by simp)
 simpa [z0n] using this
set_option maxHeartbeats 4000000 in
theorem pNew_of (s:ByteArray) (F:Nat×Nat) (L:Lay) (n:Nat) (w:World) (hnw:n<=w.heap.size)
  (hload:Calls Tryz.prog 58 #[.string s] w fun e w'=>∃v,e=.returned (.tuple #[v,.int .i64 F.1,.int .i64 F.2])/\LShape v/\(F.1=0->∃R,LayIn R w' v L/\∀k,R k->n<=k)/\Below w.heap.size w w')
  (hsm:F.1=0->L.sw.length<=16/\L.rts.length<=12/\L.tns.length<=5) :
  Calls Tryz.prog 28 #[.string s] w fun e w'=>
   ((F.1≠0/\e=.returned (.tuple #[.pointer none,.int .i64 F.1])) ∨
    (F.1=0/\∃g,e=.returned (.tuple #[.pointer (some ⟨g,0,none⟩),.int .i64 0])/\w.heap.size<=g/\PBoxIn w' (fun b=>n<=b/\b < w'.heap.size) g (PBx.init L)))/\Below w.heap.size w w':=by
 have HLD:=zh hload;have HSM:=zh hsm;clear hload hsm;go_enter Tryz.func28,Tryz.ntmps28
 go_wp2_with fail
 refine(uh HLD).mono ?_;rintro e w1 ⟨v,rfl,⟨T,D,Q,a1,a2,a3,n1,n2,n3,d1,d2,d3,rfl⟩,hL,hb⟩;have HB:=zh hb;have hbs:=hb.size;by_cases h0:F.1=0
 ·have hz:((F.1:Int) != 0)=false:=by simp[h0]
  obtain⟨hs1,hs2,hs3⟩:=uh HSM h0;obtain⟨R,hLI,hRn⟩:=hL h0;obtain⟨vh,vr,vt,he,hH,hR,hT⟩:=hLI.2 w1 (fun _ _=>rfl);have HL:=zh (hLI.2 w1 (fun _ _=>rfl));have HRN:=zh hRn;simp only[Value.agg.injEq,Array.mk.injEq,List.cons.injEq,and_true,true_and,Value.int.injEq] at he;obtain⟨rfl,rfl,rfl,rfl,rfl,rfl⟩:=he;obtain⟨b1,c1,hv1,-,m1,-⟩:=SlAt.open hH;obtain⟨b2,c2,hv2,-,m2,-⟩:=SlAt.open hR;obtain⟨b3,c3,hv3,-,m3,-⟩:=SlAt.open hT;simp only[Value.slice.injEq] at hv1 hv2 hv3;obtain⟨rfl,rfl,rfl⟩:=hv1;obtain⟨rfl,rfl,rfl⟩:=hv2;obtain⟨rfl,rfl,rfl⟩:=hv3;unfold maxLen at m1 m2 m3;have HLI:=zh hLI;have H0:=zh h0;have hnw1:n<=w1.heap.size:=Nat.le_trans hnw hbs;clear hH hR hT hL hb HSM HLD h0 hLI hRn;obtain⟨i1,hi1⟩:=info_parts Tryz.infoRs;have HIL:=zh hi1;obtain⟨i2,hi2⟩:=info_parts Tryz.infoSs;have HIB:=zh hi2;clear hi1 hi2;have HAF:=zh (fun (wz:World) (hz:Below w1.heap.size w1 wz)=>AtFirst_own _ L wz ((uh HL).below hz) (by omega));have HL0:=zh (heap_alloc_new w1 (z0n L (.slice a1 L.sw.length d1) (.slice a2 L.rts.length d2) (.slice a3 L.tns.length d3)));go_wp2
  go_cut [7] (fun v wx=>∃gb ag ng cg,v=.pointer (some ⟨gb,0,none⟩)/\w1.heap.size < gb/\PMid w1 gb L (.slice a1 L.sw.length d1) (.slice a2 L.rts.length d2) (.slice a3 L.tns.length d3) (.slice ag ng cg) wx (.slice none 0 0) (.slice none 0 0))
  case first=>
   go_region_with (go_at_call 59; refine(uh HAF _ ?_).mono ?_; (first | exact((z01 w1 _).drew) | exact(z01 w1 _)); rintro e w3 ⟨ag,ng,cg,rfl,hI3,hb3⟩; have hl3:=(hb3.block w1.heap.size (by simp)).trans (uh HL0); obtain⟨⟨z0,z1,z2,z3,z4,z5⟩,-,qz⟩:=six0 hl3)
   all_goals
    have hb1:Below w1.heap.size w1 w3:=((z01 w1 (z0n L (.slice a1 L.sw.length d1) (.slice a2 L.rts.length d2) (.slice a3 L.tns.length d3)))).trans (⟨hb3.os,hb3.tape,hb3.output,hb3.size,fun k hk=>hb3.block k (by simp; omega)⟩);have HP3:=zh (And.intro hl3 (And.intro hI3 hb1));clear hl3 hI3 hb3 hb1;go_wp2_with fail
    go_meet
    exact⟨w3.heap.size,ag,ng,cg,rfl,qz,(Below.heap_alloc _ _ _ qz).trans (uh HP3).1,heap_alloc_new _ _,(uh HP3).2.2.alloc (uh HP3).2.2.size _,z3a ((uh HP3).2.1.alloc _) (by simp)⟩
  case rest=>
   obtain⟨gb,ag,ng,cg,rfl,hgb,hM⟩:=hcut;have hmc:=hM.2.2.1.size;have HM0:=zh hM;obtain⟨⟨z0,z1,z2,z3,z4,z5⟩,-,qp⟩:=six0 hM.1;have hgc:=z0g hM.2.1;clear hM;go_wp2
   go_loopw [27] (fun i wr=>∃k:Nat,∃vw,i=.int .i64 k/\k<=L.sw.length/\PMid w1 gb L (.slice a1 L.sw.length d1) (.slice a2 L.rts.length d2) (.slice a3 L.tns.length d3) (.slice ag ng cg) wr (.slice none 0 0) vw ∧
     wr.ownsRow wc.heap.size 110 3 vw k ((List.replicate k PSw.new).map swV).flatten/\wc.heap.size<=wr.heap.size) (fun i _=>L.sw.length - (intOf i).toNat)
   case atStart=>exact⟨0,_,rfl,Nat.zero_le _,uh HM0,World.ownsRow_nil _ _ _ _,Nat.le_refl _⟩
   case round=>
    clear HM0 z0 z1 z2 z3 z4 z5;obtain⟨k,vw,rfl,hk,hM,hw,hcr⟩:=hrel;have hmm:=hM.2.2.1.size;have HM:=zh hM;obtain⟨⟨z0,z1,z2,z3,z4,z5⟩,-,qp⟩:=six0 hM.1;obtain⟨⟨y0,y1,y2,y3,y4,y5,y6,y7,y8,y9⟩,⟨f6,f7,f8,f9⟩,qs⟩:=box10 hM.2.1;clear hM;by_cases hlt:k < L.sw.length
    ·have l1:(k:Int) < L.sw.length:=by omega
     obtain⟨aw,cw,hvw⟩:=z02 hw;subst hvw;go_wp2_with (at_builtin; refine wpList_append_own _ rfl _ _ 84 rfl wc.heap.size 110 i2 (.agg #[.int .u8 0,.int .i64 0,.bool false]) 3 24 Tryz.underlying84 (uh HIB).1 (uh HIB).2.1 (uh HIB).2.2.1 (uh HIB).2.2.2 rfl (by decide) _ _ _ rfl (hw.alloc _) ⟨wr.heap.size,0,none⟩ 1 1 [.int .u8 43,.int .i64 0,.bool false] rfl rfl (cells_new _ [.int .u8 43,.int .i64 0,.bool false] _) (by simp[Value.oneCell']) (by unfold maxLen; omega) (by omega) (by simp; omega) ?_; intro v4 w4 hown4 hgrow4 _; have HM4:=zh ((uh HM).append hw hmc hgrow4 (by decide) (by decide) (by decide)); obtain⟨⟨r0,r1,r2,r3,r4,r5,r6,r7,r8,r9⟩,⟨g6,g7,g8,g9⟩,qs4⟩:=box10 (uh HM4).2.1; obtain⟨aw',cw',hv'⟩:=z02 hown4; subst hv')
     refine⟨⟨k+1,_,by go_num,by omega,((uh HM4).store hgb _).2,?_,?_⟩,by simp[intOf]; omega⟩
     ·rw[swRep]
      exact z06 hown4 (Keeps.setCell ⟨gb,7,none⟩ _ (uh HM4).typed (by decide))
     ·have:=hgrow4.size
      simp[World.setCell] at this ⊢;omega
    ·obtain rfl:k=L.sw.length:=by omega
     have HW:=zh hw;obtain⟨aw,cw,hvw⟩:=z02 hw;subst hvw;clear hw;have l1:(L.sw.length:Int)<=L.sw.length:=by omega
     go_wp2
     go_loopw [43] (fun i wx=>∃k:Nat,∃vl qv,i=.int .i64 k/\k<=L.rts.length/\PMid w1 gb L (.slice a1 L.sw.length d1) (.slice a2 L.rts.length d2) (.slice a3 L.tns.length d3) (.slice ag ng cg) wx vl (.slice aw L.sw.length cw) ∧
       wx.ownsRow wc.heap.size 110 3 (.slice aw L.sw.length cw) L.sw.length ((List.replicate L.sw.length PSw.new).map swV).flatten/\wx.ownsRow wc.heap.size 115 9 vl k (prtsV ((L.rts.take k).map PRt.new) qv).flatten ∧
       qv.length=k/\ItOf R w1 (L.rts.take k) qv/\wc.heap.size<=wx.heap.size) (fun i _=>L.rts.length - (intOf i).toNat)
     case atStart=>exact⟨0,_,[],rfl,Nat.zero_le _,uh HM,uh HW,World.ownsRow_nil _ _ _ _,rfl,fun i h=>absurd h (by simp),hcr⟩
     case round=>
      clear HM HW z0 z1 z2 z3 z4 z5 y0 y1 y2 y3 y4 y5 y6 y7 y8 y9 f6 f7 f8 f9 qs qp hmm hcr;obtain⟨k,vl,qv,rfl,hk,hM,hw,hl,hql,hA,hcr⟩:=hrel;have hmm:=hM.2.2.1.size;have HM:=zh hM;obtain⟨⟨y0,y1,y2,y3,y4,y5,y6,y7,y8,y9⟩,⟨f6,f7,f8,f9⟩,qs⟩:=box10 hM.2.1;by_cases hlt:k < L.rts.length
      ·have l1:(k:Int) < L.rts.length:=by omega
       have l0:(0:Int)<=k:=by omega
       obtain⟨gx,ox,cx,vp,vf,hax,hgx,hcx,hit⟩:=(uh HLI).route k hlt;simp only[Value.slice.injEq,true_and] at hax;obtain⟨rfl,rfl⟩:=hax;have hc0:=hcx 0 (by omega);have hc1:=hcx 1 (by omega);have hc2:=hcx 2 (by omega);rw[<-hM.2.2.1.cell (p:=⟨gx,_,none⟩) hgx] at hc0 hc1 hc2;simp at hc0 hc1 hc2;obtain⟨hP,hF⟩:=hit w1 (fun _ _=>rfl);have HIt:=zh hit;obtain⟨ap,cp,rfl,-⟩:=SlAt.open hP;obtain⟨af,cf,rfl,-⟩:=SlAt.open hF;have hgxr:gx < wr.heap.size:=by omega
       obtain⟨al,cl,hvl⟩:=z02 hl;subst hvl;have HTK:=zh (show L.rts.take (k+1)=L.rts.take k++[L.rts[k]] from List.take_succ_eq_append_getElem hlt);have hkl:qv.length=(L.rts.take k).length:=by simp; omega
       have HKL:=zh hkl;have HQL:=zh hql;have HA:=zh hA;clear hcx hP hF hM hA hit hkl hql;generalize L.rts[k]=X at *;go_wp2
       go_region_law (refine z1z rfl (.tmp 51) (.tmp 54) 83 rfl wc.heap.size 115 i1 (.agg #[.int .i64 0,.slice none 0 0,.slice none 0 0,.int .u8 0,.int .i64 0,.bool false,.int .i64 0,.slice none 0 0,.int .i64 0]) 9 120 Tryz.underlying83 (uh HIL).1 (uh HIL).2.1 (uh HIL).2.2.1 (uh HIL).2.2.2 rfl (by decide) (.slice al k cl) _ _ (by simp[Act.eval]) (((hl.alloc _).alloc _).drew) ⟨wr.heap.size+1,0,none⟩ 1 1 [.int .i64 X.foot,.slice ap X.path.length cp,.slice af X.flank.length cf,.int .u8 46,.int .i64 0,.bool false,.int .i64 0,.slice none 0 0,.int .i64 0] (by simp[Act.eval]) rfl (z0t (wr.alloc _) [.int .i64 X.foot,.slice ap X.path.length cp,.slice af X.flank.length cf,.int .u8 46,.int .i64 0,.bool false,.int .i64 0,.slice none 0 0,.int .i64 0] _ _ (by simp)) (by simp[Value.oneCell']) (by unfold maxLen; omega) (by omega) (by simp; omega) ?_; intro v' w4 hown4 hgrow4; have hg2:=z20 hgrow4; have HM4:=zh (((uh HM).below (z01 wr _)).append (hl.alloc _) hmc hg2 (by decide) (by decide) (by decide)); obtain⟨⟨r0,r1,r2,r3,r4,r5,r6,r7,r8,r9⟩,⟨g6,g7,g8,g9⟩,qs4⟩:=box10 (uh HM4).2.1; obtain⟨al',cl',hv'⟩:=z02 hown4; subst hv')
       all_goals
        have kk:=fun e (n1:115≠e) (n2:86≠e)=>((Keeps.alloc e wr _).trans (z0f (hl.alloc _) hg2 n1)).trans (Keeps.setCell ⟨gb,6,none⟩ (.slice al' (k+1) cl') (uh HM4).typed n2);have ho5:=z06 hown4 (Keeps.setCell ⟨gb,6,none⟩ (.slice al' (k+1) cl') (uh HM4).typed (by decide));have hw5:=z06 hw (kk _ (by decide) (by decide));have hsz5:=hg2.size;clear hl hw hown4 hgrow4 hg2;go_wp2
        refine⟨⟨k+1,_,qv++[(.slice ap X.path.length cp,.slice af X.flank.length cf,.slice none 0 0)],by go_num,by omega,((uh HM4).store hgb _).1,hw5,?_,by simp[uh HQL],?_,?_⟩,by simp[intOf]; omega⟩
        ·rw[uh HTK,List.map_append]
         have e:=prtsV_snoc ((L.rts.take k).map PRt.new) qv (by rw[List.length_map]; exact uh HKL) (PRt.new X) (.slice ap X.path.length cp,.slice af X.flank.length cf,.slice none 0 0);rw[show [X].map PRt.new=[PRt.new X] from rfl,e,List.flatten_append]
         simpa [prtV,PRt.new] using ho5
        ·rw[uh HTK]
         exact(uh HA).snoc (uh HKL) rfl (uh HIt)
        ·simp[World.setCell] at hsz5 ⊢
         omega
      ·obtain rfl:k=L.rts.length:=by omega
       rw[List.take_length] at hA hl;have HQ:=zh (hM.fin hmc hnw1 hgb (uh HLI) (uh HRN) hw hl hql hA);have HBF:=zh ((uh HB).trans (hM.2.2.1.mono hbs));have l1:(L.rts.length:Int)<=L.rts.length:=by omega
       clear hM hA hl hw;go_wp2
       go_ret2
       exact⟨.inr ⟨uh H0,gb,rfl,by omega,uh HQ⟩,uh HBF⟩
 ·have hz:((F.1:Int) != 0)=true:=by simp[h0]
  have H0:=zh h0;clear hL hb h0;go_wp2
  go_ret2
  exact⟨.inl ⟨uh H0,rfl⟩,(uh HB).alloc hbs _⟩
structure PSm (B:PBx):Prop where
 sw:B.L.sw.length<=1000
 rts:B.rts.length<=100
 fr:∀x,x∈B.rts->x.freed<=1000
 wa:B.sws.length<=1000
 st:B.sta.length<=1000
 st9:∀t,t∈B.sta->t < 10
 wl:B.waits.length<=1000
 w9:∀t,t∈B.waits->t < 9
structure Same (B:PBx) (C:RBx):Prop where
 locks:B.locksT=C.locksT
 phases:B.phasesT=C.phasesT
 switches:B.switchesT=C.switchesT
 state:B.stateT=C.stateT
 queue:z21 B.waits=z0i C.queueT
end Go.Proofs.YtkbpocecbcaiiabGreatDoor
namespace Go.Proofs.YtkbpocecbcaiiabGreatDoor
open Go.RowKit
end Go.Proofs.YtkbpocecbcaiiabGreatDoor
namespace Go.Proofs.YtkbpocecbcaiiabGreatDoor
open Go.RowKit
end Go.Proofs.YtkbpocecbcaiiabGreatDoor
namespace Go.Proofs.YtkbpocecbcaiiabGreatDoor
def bt (s:ByteArray) (p:Nat):UInt8:=s.data.toList.getD p 0
theorem pk_bt (s:ByteArray) (p:Nat):pk s p=(bt s p).toNat:=rfl
def sl (s:ByteArray) (p q:Nat):List UInt8:=(s.data.toList.drop p).take (q - p)
theorem sl_nil (s:ByteArray) (p:Nat):sl s p p=[]:=by simp[sl]
theorem sl_len (s:ByteArray) (p q:Nat) (h:q<=s.size):(sl s p q).length=q - p:=by simp[sl]; omega
theorem z45 (s:ByteArray) (p q:Nat) (h:p < q) (hq:q<=s.size):sl s p q=bt s p :: sl s (p+1) q:=by
 have hp:p < s.data.toList.length:=by simp; omega
 unfold sl;rw[List.drop_eq_getElem_cons hp,show q - p=(q - (p+1))+1 by omega,List.take_succ_cons]
 congr 1
 simp[bt,List.getD_eq_getElem?_getD,List.getElem?_eq_getElem hp]
theorem sl_all (s:ByteArray):sl s 0 s.size=s.data.toList:=by
 unfold sl;rw[List.drop_zero,List.take_of_length_le (by simp)]
theorem sl_drop (s:ByteArray) (p q k:Nat):(sl s p q).drop k=sl s (p+k) q:=by
 unfold sl;rw[List.drop_take,List.drop_drop,show q - p - k=q - (p+k) by omega]
theorem sl_get0 (s:ByteArray) (p q:Nat) (h:p < q) (hq:q<=s.size):(sl s p q).getD 0 0=bt s p:=by
 rw[z45 s p q h hq]; rfl
theorem split_none (s:ByteArray) (c:UInt8) (q m:Nat) (hmq:m<=q) (hq:q<=s.size):∀(n p:Nat),p+n=m->∀pre,(∀i,p<=i->i < m->bt s i≠c)->z0v c pre (sl s p q)=z0v c (pre++sl s p m) (sl s m q):=by
 intro n
 induction n with
 | zero=>
  intro p h pre _;obtain rfl:p=m:=by omega
  rw[sl_nil,List.append_nil]
 | succ n ih=>
  intro p h pre hne;rw[z45 s p q (by omega) hq,z45 s p m (by omega) (by omega),z0v,if_neg (hne p (Nat.le_refl _) (by omega)),ih (p+1) (by omega) _ (fun i h1 h2=>hne i (by omega) h2)];simp
theorem split_hit (s:ByteArray) (c:UInt8) (m q:Nat) (pre:List UInt8) (h:m < q) (hq:q<=s.size) (hc:bt s m=c):z0v c pre (sl s m q)=pre :: z0v c [] (sl s (m+1) q):=by
 rw[z45 s m q h hq,z0v,if_pos hc]
theorem split_end (s:ByteArray) (c:UInt8) (q:Nat) (pre:List UInt8):z0v c pre (sl s q q)=[pre]:=by rw[sl_nil]; rfl
theorem z5p (s:ByteArray) (c:UInt8) (p q:Nat) (h:p<=q) (hq:q<=s.size) (hne:∀i,p<=i->i < q->bt s i≠c):z0v c [] (sl s p q)=[sl s p q]:=by
 rw[split_none s c q q (Nat.le_refl _) hq (q - p) p (by omega) [] hne,split_end]; rfl
theorem z4p (s:ByteArray) (c:UInt8) (p m q:Nat) (h:p<=m) (h2:m < q) (hq:q<=s.size) (hne:∀i,p<=i->i < m->bt s i≠c) (hc:bt s m=c):z0v c [] (sl s p q)=sl s p m :: z0v c [] (sl s (m+1) q):=by
 rw[split_none s c q m (by omega) hq (m - p) p (by omega) [] hne,split_hit s c m q _ h2 hq hc]; rfl
def PS (s:ByteArray) (a:Int) (p:Nat):Int:=z1m a p (s.data.toList.drop p)
theorem st_0 (c:Nat):stepS 0 c=if inB 49 57 c then 1 else -1:=by
 unfold stepS firstS inB; simp; (repeat' split) <;> omega
theorem st_1 (c:Nat):stepS 1 c=if inB 49 57 c then 2 else -1:=by
 unfold stepS firstS inB; simp; (repeat' split) <;> omega
theorem st_2 (c:Nat):stepS 2 c=if inB 49 57 c then 3 else -1:=by
 unfold stepS firstS inB; simp; (repeat' split) <;> omega
theorem st_3 (c:Nat):stepS 3 c=if c=47 then 4 else -1:=by
 unfold stepS firstS; simp; (repeat' split) <;> omega
theorem st_4 (c:Nat):stepS 4 c=if c=46\/c=121 then 5 else -1:=by
 unfold stepS firstS; simp; (repeat' split) <;> omega
theorem st_5 (c:Nat):stepS 5 c=if c=46\/c=121 then 5 else if c=47 then 6 else -1:=by
 unfold stepS firstS; simp; (repeat' split) <;> omega
theorem let_in (c:Nat):z30 (c:Int)=inB 97 112 c:=by
 unfold z30 inB; rw[Bool.eq_iff_iff]; simp; omega
theorem cap_in (c:Nat):z50 (c:Int)=inB 65 76 c:=by
 unfold z50 inB; rw[Bool.eq_iff_iff]; simp; omega
theorem sgn_in (c:Nat):signB (c:Int)=(sgn c != 0):=by
 unfold signB sgn; rw[Bool.eq_iff_iff]; simp; (repeat' split) <;> simp <;> omega
theorem st_6 (c:Nat):stepS 6 c=if inB 97 112 c then 7 else -1:=by
 unfold stepS z2t; simp[let_in]
theorem st_7 (c:Nat):stepS 7 c=if c=62 then 8 else -1:=by
 unfold stepS z2t; simp; (repeat' split) <;> omega
theorem st_8 (c:Nat):stepS 8 c=if inB 97 112 c then 9 else -1:=by
 unfold stepS z2t; simp[let_in]
theorem st_9 (c:Nat):stepS 9 c=if inB 97 112 c then 9 else if sgn c≠0 then 10 else if c=33 then 11 else if c=44 then 6 else if c=47 then 14 else -1:=by
 unfold stepS z2t; simp[let_in,sgn_in]; (repeat' split) <;> omega
theorem st_10 (c:Nat):stepS 10 c=if inB 97 112 c then 9 else if c=33 then 11 else if c=44 then 6 else if c=47 then 14 else -1:=by
 unfold stepS z2t; simp[let_in]; (repeat' split) <;> omega
theorem st_11 (c:Nat):stepS 11 c=if inB 97 112 c then 12 else -1:=by
 unfold stepS z2t; simp[let_in]
theorem st_12 (c:Nat):stepS 12 c=if sgn c≠0 then 13 else -1:=by
 unfold stepS z2t; simp[sgn_in]
theorem st_13 (c:Nat):stepS 13 c=if inB 97 112 c then 12 else if c=44 then 6 else if c=47 then 14 else -1:=by
 unfold stepS z2t; simp[let_in]; (repeat' split) <;> omega
theorem st_14 (c:Nat):stepS 14 c=if inB 97 112 c then 15 else -1:=by
 unfold stepS lastS; simp[let_in]
theorem st_15 (c:Nat):stepS 15 c=if inB 65 76 c then 16 else -1:=by
 unfold stepS lastS; simp[cap_in]
theorem st_16 (c:Nat):stepS 16 c=if inB 65 76 c then 16 else if c=44 then 14 else -1:=by
 unfold stepS lastS; simp[cap_in]; (repeat' split) <;> omega
theorem PS_go (s:ByteArray) (a b:Int) (p:Nat) (h:stepS a (pk s p)=b) (hb:b≠-1) (hp:p < s.size):PS s a p=PS s b (p+1):=by
 unfold PS;rw[placeS_go s a p hp (by rw[<-pk_in s p hp,h]; exact hb),<-pk_in s p hp,h]
theorem z36 (s:ByteArray) (a:Int) (p:Nat) (h:stepS a (pk s p)=-1) (ha:a≠16) (hp:p<=s.size):PS s a p=p:=by
 have _:=hp;unfold PS;by_cases hlt:p < s.size
 ·exact placeS_hit s a p hlt (by rw[<-pk_in s p hlt]; exact h)
 ·rw[placeS_end s a p hlt,if_neg ha]
theorem PS_last (s:ByteArray) (p:Nat) (h:stepS 16 (pk s p)=-1) (hp:p<=s.size):PS s 16 p=if p=s.size then -1 else (p:Int):=by
 unfold PS;by_cases hlt:p < s.size
 ·rw[placeS_hit s 16 p hlt (by rw[<-pk_in s p hlt]; exact h),if_neg (by omega)]
 ·rw[placeS_end s 16 p hlt,if_pos rfl,if_pos (by omega)]
end Go.Proofs.YtkbpocecbcaiiabGreatDoor
namespace Go.Proofs.YtkbpocecbcaiiabGreatDoor
def isLS (c:Nat):Prop:=inB 97 112 c=true\/sgn c≠0
theorem isLS_ne {c:Nat} (h:isLS c):c≠33/\c≠44/\c≠47/\c≠62:=by
 rcases h with h | h
 ·unfold inB at h; simp at h; omega
 ·unfold sgn at h; (repeat' split at h) <;> omega
theorem in_lt (s:ByteArray) (p:Nat) (lo hi:Nat) (h:inB lo hi (pk s p)=true) (hl:0 < lo):p < s.size:=by
 apply pk_pos;unfold inB at h; simp at h; omega
theorem sgn_lt (s:ByteArray) (p:Nat) (h:sgn (pk s p)≠0):p < s.size:=by
 apply pk_pos;intro e; rw[e] at h; exact h rfl
theorem eq_lt (s:ByteArray) (p c:Nat) (h:pk s p=c) (hc:c≠0):p < s.size:=pk_pos s p (by omega)
theorem sgn_id (c:Nat) (h:sgn c≠0):sgn c=c:=by unfold sgn at *; (repeat' split at h) <;> simp_all
theorem inB_sgn (c:Nat) (h:sgn c≠0):inB 97 112 c=false:=by unfold sgn at h; unfold inB; (repeat' split at h) <;> simp_all
theorem isLet_in (s:ByteArray) (p:Nat):isLet (bt s p)=inB 97 112 (pk s p):=rfl
theorem mark_let (acc:List (Nat×Nat)) (s:ByteArray) (p:Nat) (h:inB 97 112 (pk s p)=true):z1a acc (bt s p)=acc++[(pk s p - 97,0)]:=by
 unfold z1a; rw[isLet_in,h]; rfl
theorem mark_sgn (acc:List (Nat×Nat)) (x:Nat) (s:ByteArray) (p:Nat) (h:sgn (pk s p)≠0):z1a (acc++[(x,0)]) (bt s p)=acc++[(x,sgn (pk s p))]:=by
 unfold z1a;rw[isLet_in,inB_sgn _ h,if_neg (by simp),sgn_id _ h];simp[List.getD_eq_getElem?_getD,pk_bt]
theorem path_ok (s:ByteArray):∀(f p:Nat),p<=s.size->s.size < p+f →
  p<=(pathL s f p).2/\(pathL s f p).2<=s.size/\(∀i,p<=i->i < (pathL s f p).2->isLS (pk s i))/\(∀acc,(sl s p (pathL s f p).2).foldl z1a acc=acc++(pathL s f p).1) ∧
  inB 97 112 (pk s (pathL s f p).2)=false/\((pathL s f p).1=[]->(pathL s f p).2=p) ∧
  ((pathL s f p).1≠[]->p < (pathL s f p).2/\∃b:Int,((b=9/\sgn (pk s (pathL s f p).2)=0)\/b=10)/\∀a:Int,(a=8\/a=9\/a=10)->PS s a p=PS s b (pathL s f p).2):=by
 intro f
 induction f with
 | zero=>intro p h1 h2; omega
 | succ f ih=>
  intro p h1 h2;unfold pathL;cases hl:inB 97 112 (pk s p) with
  | false=>
   simp only[if_neg (Bool.false_ne_true)];refine⟨Nat.le_refl _,h1,fun i a b=>by omega,fun acc=>by rw[sl_nil]; simp,hl,fun _=>trivial,fun h=>absurd rfl h⟩
  | true=>
   simp only[if_pos];have hp:=in_lt s p 97 112 hl (by omega);by_cases hs:sgn (pk s (p+1))=0
   ·rw[hs]
    have e1:adv ((0:Nat) != 0) (p+1)=p+1:=rfl;rw[e1];obtain⟨i1,i2,i3,i4,i5,i6,i7⟩:=ih (p+1) (by omega) (by omega);refine⟨by omega,i2,fun i a b=>?_,fun acc=>?_,i5,fun h=>absurd h (by simp),fun _=>⟨by omega,?_⟩⟩
    ·rcases Nat.lt_or_ge p i with h | h
     ·exact i3 i (by omega) b
     ·obtain rfl:i=p:=by omega
      exact .inl hl
    ·rw[z45 s p _ (by omega) i2,List.foldl_cons,mark_let acc s p hl,i4]; simp
    ·have hst:∀a:Int,(a=8\/a=9\/a=10)->PS s a p=PS s 9 (p+1):=by
      rintro a (rfl | rfl | rfl)
      ·exact PS_go s 8 9 p (by rw[st_8,hl]; rfl) (by decide) hp
      ·exact PS_go s 9 9 p (by rw[st_9,hl]; rfl) (by decide) hp
      ·exact PS_go s 10 9 p (by rw[st_10,hl]; rfl) (by decide) hp
     by_cases hn:(pathL s f (p+1)).1=[]
     ·refine⟨9,.inl ⟨rfl,by rw[i6 hn]; exact hs⟩,fun a ha=>?_⟩
      rw[hst a ha,i6 hn]
     ·obtain⟨_,b,hb,hB⟩:=i7 hn
      exact⟨b,hb,fun a ha=>by rw[hst a ha]; exact hB 9 (.inr (.inl rfl))⟩
   ·have e1:adv (sgn (pk s (p+1)) != 0) (p+1)=p+2:=by unfold adv; rw[if_pos (by simpa using hs)]
    rw[e1];have hp1:=sgn_lt s (p+1) hs;obtain⟨i1,i2,i3,i4,i5,i6,i7⟩:=ih (p+2) (by omega) (by omega);refine⟨by omega,i2,fun i a b=>?_,fun acc=>?_,i5,fun h=>absurd h (by simp),fun _=>⟨by omega,?_⟩⟩
    ·rcases Nat.lt_or_ge (p+1) i with h | h
     ·exact i3 i (by omega) b
     ·rcases Nat.lt_or_ge p i with h' | h'
      ·obtain rfl:i=p+1:=by omega
       exact .inr hs
      ·obtain rfl:i=p:=by omega
       exact .inl hl
    ·rw[z45 s p _ (by omega) i2,z45 s (p+1) _ (by omega) i2,List.foldl_cons,List.foldl_cons,mark_let acc s p hl,mark_sgn acc _ s (p+1) hs,i4]; simp
    ·have hst:∀a:Int,(a=8\/a=9\/a=10)->PS s a p=PS s 10 (p+2):=by
      have h9:PS s 9 (p+1)=PS s 10 (p+2):=PS_go s 9 10 (p+1) (by rw[st_9,inB_sgn _ hs,if_neg (by simp),if_pos hs]) (by decide) hp1;rintro a (rfl | rfl | rfl)
      ·rw[<-h9]; exact PS_go s 8 9 p (by rw[st_8,hl]; rfl) (by decide) hp
      ·rw[<-h9]; exact PS_go s 9 9 p (by rw[st_9,hl]; rfl) (by decide) hp
      ·rw[<-h9]; exact PS_go s 10 9 p (by rw[st_10,hl]; rfl) (by decide) hp
     by_cases hn:(pathL s f (p+2)).1=[]
     ·exact⟨10,.inr rfl,fun a ha=>by rw[hst a ha,i6 hn]⟩
     ·obtain⟨_,b,hb,hB⟩:=i7 hn
      exact⟨b,hb,fun a ha=>by rw[hst a ha]; exact hB 10 (.inr (.inr rfl))⟩
theorem flank_ok (s:ByteArray):∀(f p:Nat),p<=s.size->s.size < p+f →
  p<=(z11 s f p).2.1/\(z11 s f p).2.1<=s.size/\((z11 s f p).2.2=false->∀a:Int,(a=11\/a=13)->PS s a p=(z11 s f p).2.1) ∧
  ((z11 s f p).2.2=true->(∀i,p<=i->i < (z11 s f p).2.1->isLS (pk s i))/\(∀acc,(sl s p (z11 s f p).2.1).foldl z1a acc=acc++(z11 s f p).1) ∧
    inB 97 112 (pk s (z11 s f p).2.1)=false/\((z11 s f p).1=[]->(z11 s f p).2.1=p) ∧
    ((z11 s f p).1≠[]->p < (z11 s f p).2.1/\∀a:Int,(a=11\/a=13)->PS s a p=PS s 13 (z11 s f p).2.1)):=by
 intro f
 induction f with
 | zero=>intro p h1 h2; omega
 | succ f ih=>
  intro p h1 h2;unfold z11;cases hl:inB 97 112 (pk s p) with
  | false=>
   simp only[if_neg (Bool.false_ne_true)];refine⟨Nat.le_refl _,h1,fun h=>absurd h (by simp),fun _=>⟨fun i a b=>by omega,fun acc=>by rw[sl_nil]; simp,hl,fun _=>trivial,fun h=>absurd rfl h⟩⟩
  | true=>
   simp only[if_pos];have hp:=in_lt s p 97 112 hl (by omega);have h12:∀a:Int,(a=11\/a=13)->PS s a p=PS s 12 (p+1):=by
    rintro a (rfl | rfl)
    ·exact PS_go s 11 12 p (by rw[st_11,hl]; rfl) (by decide) hp
    ·exact PS_go s 13 12 p (by rw[st_13,hl]; rfl) (by decide) hp
   by_cases hs:sgn (pk s (p+1))=0
   ·simp only[hs,if_true]
    refine⟨by omega,by omega,fun _ a ha=>?_,fun h=>absurd h (by simp)⟩;rw[h12 a ha];exact z36 s 12 (p+1) (by rw[st_12,if_neg (by simpa using hs)]) (by decide) (by omega)
   ·simp only[if_neg hs]
    have hp1:=sgn_lt s (p+1) hs;have h13:PS s 12 (p+1)=PS s 13 (p+2):=PS_go s 12 13 (p+1) (by rw[st_12,if_pos hs]) (by decide) hp1;obtain⟨i1,i2,i3,i4⟩:=ih (p+2) (by omega) (by omega);refine⟨by omega,i2,fun h a ha=>by rw[h12 a ha,h13]; exact i3 h 13 (.inr rfl),fun h=>?_⟩;obtain⟨j1,j2,j3,j4,j5⟩:=i4 h;refine⟨fun i a b=>?_,fun acc=>?_,j3,fun h=>absurd h (by simp),fun _=>⟨by omega,fun a ha=>?_⟩⟩
    ·rcases Nat.lt_or_ge (p+1) i with h | h
     ·exact j1 i (by omega) b
     ·rcases Nat.lt_or_ge p i with h' | h'
      ·obtain rfl:i=p+1:=by omega
       exact .inr hs
      ·obtain rfl:i=p:=by omega
       exact .inl hl
    ·rw[z45 s p _ (by omega) i2,z45 s (p+1) _ (by omega) i2,List.foldl_cons,List.foldl_cons,mark_let acc s p hl,mark_sgn acc _ s (p+1) hs,j2]; simp
    ·rw[h12 a ha,h13]
     by_cases hn:(z11 s f (p+2)).1=[]
     ·rw[j4 hn]
     ·exact(j5 hn).2 13 (.inr rfl)
end Go.Proofs.YtkbpocecbcaiiabGreatDoor
namespace Go.Proofs.YtkbpocecbcaiiabGreatDoor
theorem bt_ne {s:ByteArray} {p:Nat} {c:UInt8} (h:pk s p≠c.toNat):bt s p≠c:=by
 intro e; apply h; rw[pk_bt,e]
theorem bt_eq {s:ByteArray} {p:Nat} {c:UInt8} (h:pk s p=c.toNat):bt s p=c:=by
 rw[pk_bt] at h; exact UInt8.toNat_inj.1 h
def Stop (s:ByteArray) (b:Int) (q:Nat):Prop:=(b=9\/b=10\/b=13)/\stepS b (pk s q)=if pk s q=44 then 6 else if pk s q=47 then 14 else -1
theorem route_ok (s:ByteArray) (p:Nat) (hp:p<=s.size) (hs:s.size<=256) :
  ((z15 s p).1=false->PS s 6 p=(z15 s p).2.1) ∧
  ((z15 s p).1=true->p+2<=(z15 s p).2.1/\(z15 s p).2.1<=s.size/\(∀i,p<=i->i < (z15 s p).2.1->pk s i≠44/\pk s i≠47) ∧
    z47 (sl s p (z15 s p).2.1)=(z15 s p).2.2/\(z15 s p).2.2.path≠[]/\97<=pk s p/\∃b,Stop s b (z15 s p).2.1/\PS s 6 p=PS s b (z15 s p).2.1):=by
 unfold z15;cases h0:inB 97 112 (pk s p) with
 | false=>
  simp only[if_true];exact⟨fun _=>z36 s 6 p (by rw[st_6,h0]; rfl) (by decide) hp,fun h=>absurd h (by simp)⟩
 | true=>
  have hp0:=in_lt s p 97 112 h0 (by omega);have e6:PS s 6 p=PS s 7 (p+1):=PS_go s 6 7 p (by rw[st_6,h0]; rfl) (by decide) hp0;have h97:97<=pk s p:=by unfold inB at h0; simp at h0; omega
  simp only[Bool.true_eq_false,if_false];by_cases h1:pk s (p+1)=62
  ·have hp1:=eq_lt s (p+1) 62 h1 (by omega)
   have e7:PS s 7 (p+1)=PS s 8 (p+2):=PS_go s 7 8 (p+1) (by rw[st_7,if_pos h1]) (by decide) hp1;rw[if_neg (by simp[h1])];obtain⟨i1,i2,i3,i4,i5,i6,i7⟩:=path_ok s 300 (p+2) (by omega) (by omega);generalize pathL s 300 (p+2)=R at *;obtain⟨items,q⟩:=R;simp only at *;by_cases h2:items=[]
   ·have h2':items.length=0:=by rw[h2]; rfl
    rw[if_pos h2'];have:=i6 h2;subst this;exact⟨fun _=>by rw[e6,e7]; exact z36 s 8 (p+2) (by rw[st_8,i5]; rfl) (by decide) (by omega),fun h=>absurd h (by simp)⟩
   ·have h2':¬items.length=0:=by simpa using h2
    rw[if_neg h2'];obtain⟨i7a,b,hb,hB⟩:=i7 h2;have e8:=hB 8 (.inl rfl);have hstart:(sl s p q).getD 0 0=bt s p:=sl_get0 s p q (by omega) i2;by_cases h3:pk s q=33
    ·rw[if_neg (by simp[h3])]
     have hq:=eq_lt s q 33 h3 (by omega);have e9:PS s b q=PS s 11 (q+1):=by
      rcases hb with ⟨rfl,hsg⟩ | rfl
      ·exact PS_go s 9 11 q (by rw[st_9,i5,hsg,h3]; rfl) (by decide) hq
      ·exact PS_go s 10 11 q (by rw[st_10,i5,h3]; rfl) (by decide) hq
     obtain⟨j1,j2,j3,j4⟩:=flank_ok s 300 (q+1) (by omega) (by omega);generalize z11 s 300 (q+1)=R at *;obtain⟨fl,q2,ok⟩:=R;simp only at *;cases ok with
     | false=>
      simp only[Bool.false_and];exact⟨fun _=>by rw[e6,e7,e8,e9]; exact j3 rfl 11 (.inl rfl),fun h=>absurd h (by simp)⟩
     | true=>
      obtain⟨k1,k2,k3,k4,k5⟩:=j4 rfl;simp only[Bool.true_and,decide_eq_false_iff_not,decide_eq_true_eq];by_cases h4:fl=[]
      ·have:=k4 h4
       subst this;refine⟨fun _=>by rw[e6,e7,e8,e9]; exact z36 s 11 (q+1) (by rw[st_11,k3]; rfl) (by decide) j2,fun h=>absurd h (by rw[h4]; simp)⟩
      ·obtain⟨k5a,k5b⟩:=k5 h4
       refine⟨fun h=>absurd (List.length_pos_iff.2 h4) h,fun _=>⟨by omega,j2,fun i a c=>?_,?_,h2,h97,13,⟨.inr (.inr rfl),?_⟩,by rw[e6,e7,e8,e9]; exact k5b 11 (.inl rfl)⟩⟩
       ·rcases Nat.lt_or_ge q i with h | h
        ·have:=isLS_ne (k1 i (by omega) c); omega
        ·rcases Nat.lt_or_ge i q with h' | h'
         ·rcases Nat.lt_or_ge i (p+2) with h'' | h''
          ·rcases Nat.lt_or_ge p i with h3' | h3'
           ·obtain rfl:i=p+1:=by omega
            omega
           ·obtain rfl:i=p:=by omega
            unfold inB at h0; simp at h0; omega
          ·have:=isLS_ne (i3 i (by omega) h'); omega
         ·obtain rfl:i=q:=by omega
          omega
       ·unfold z47
        rw[sl_get0 s p q2 (by omega) j2,sl_drop,z4p s 33 (p+2) q q2 (by omega) (by omega) j2 (fun i a c=>bt_ne (by have:=isLS_ne (i3 i a c); simp; omega)) (bt_eq (by rw[h3]; rfl)),
         z5p s 33 (q+1) q2 (by omega) j2 (fun i a c=>bt_ne (by have:=isLS_ne (k1 i a c); simp; omega))]
        simp only[List.getD_cons_zero,List.drop_succ_cons,List.drop_zero,marksF,i4,k2,List.nil_append];rfl
       ·rw[st_13,k3]; rfl
    ·rw[if_pos (by simp[h3])]
     refine⟨fun h=>absurd h (by simp),fun _=>⟨by omega,i2,fun i a c=>?_,?_,h2,h97,b,⟨?_,?_⟩,by rw[e6,e7,e8]⟩⟩
     ·rcases Nat.lt_or_ge i (p+2) with h'' | h''
      ·rcases Nat.lt_or_ge p i with h3' | h3'
       ·obtain rfl:i=p+1:=by omega
        omega
       ·obtain rfl:i=p:=by omega
        unfold inB at h0; simp at h0; omega
      ·have:=isLS_ne (i3 i (by omega) c); omega
     ·unfold z47
      rw[hstart,sl_drop,z5p s 33 (p+2) q (by omega) i2 (fun i a c=>bt_ne (by have:=isLS_ne (i3 i a c); simp; omega))];simp only[List.getD_cons_zero,List.drop_succ_cons,List.drop_zero,marksF,i4,List.nil_append];rfl
     ·rcases hb with ⟨rfl,-⟩ | rfl
      ·exact .inl rfl
      ·exact .inr (.inl rfl)
     ·rcases hb with ⟨rfl,hsg⟩ | rfl
      ·rw[st_9,i5,hsg,if_neg (by simp),if_neg (by simp),if_neg h3]
      ·rw[st_10,i5,if_neg (by simp),if_neg h3]
  ·rw[if_pos (by simp[h1])]
   exact⟨fun _=>by rw[e6]; exact z36 s 7 (p+1) (by rw[st_7,if_neg h1]) (by decide) (by omega),fun h=>absurd h (by simp)⟩
end Go.Proofs.YtkbpocecbcaiiabGreatDoor
namespace Go.Proofs.YtkbpocecbcaiiabGreatDoor
theorem rts_ok (s:ByteArray) (hs:s.size<=256):∀(f p:Nat),p<=s.size->s.size < p+f →
  ((rtsL s f p).1=false->PS s 6 p=(rtsL s f p).2.1) ∧
  ((rtsL s f p).1=true->p < (rtsL s f p).2.1/\(rtsL s f p).2.1<=s.size/\(∀i,p<=i->i < (rtsL s f p).2.1->pk s i≠47) ∧
    (z0v 44 [] (sl s p (rtsL s f p).2.1)).map z47=(rtsL s f p).2.2/\(∀x,x∈z0v 44 [] (sl s p (rtsL s f p).2.1)->2<=x.length/\97<=(x.getD 0 0).toNat) ∧
    (∀r,r∈(rtsL s f p).2.2->r.path≠[])/\∃b:Int,b≠16/\PS s 6 p=PS s b (rtsL s f p).2.1/\stepS b (pk s (rtsL s f p).2.1)=if pk s (rtsL s f p).2.1=47 then 14 else -1):=by
 intro f
 induction f with
 | zero=>intro p h1 h2; omega
 | succ f ih=>
  intro p h1 h2;obtain⟨r1,r2⟩:=route_ok s p h1 hs;unfold rtsL;generalize z15 s p=R at *;obtain⟨ok,q,r⟩:=R;simp only at *;cases ok with
  | false=>
   simp only[if_true];exact⟨fun _=>r1 rfl,fun h=>absurd h (by simp)⟩
  | true=>
   obtain⟨a1,a2,a3,a4,a5,a6,b,⟨hb,hst⟩,hps⟩:=r2 rfl;simp only[Bool.true_eq_false,if_false];have hb16:b≠16:=by rcases hb with rfl | rfl | rfl <;> decide
   have hpart:2<=(sl s p q).length/\97<=((sl s p q).getD 0 0).toNat:=by
    rw[sl_len s p q a2,sl_get0 s p q (by omega) a2];exact⟨by omega,a6⟩
   by_cases hc:pk s q=44
   ·rw[if_pos (by simp[hc])]
    have hq:=eq_lt s q 44 hc (by omega);obtain⟨i1,i2⟩:=ih (q+1) (by omega) (by omega);have e6:PS s b q=PS s 6 (q+1):=PS_go s b 6 q (by rw[hst,if_pos hc]) (by decide) hq;generalize rtsL s f (q+1)=R at *;obtain⟨ok2,q2,rs⟩:=R;simp only at *;refine⟨fun h=>by rw[hps,e6]; exact i1 h,fun h=>?_⟩;obtain⟨c1,c2,c3,c4,c5,c6,b2,c7,c8,c9⟩:=i2 h;have hsp:z0v 44 [] (sl s p q2)=sl s p q :: z0v 44 [] (sl s (q+1) q2):=
     z4p s 44 p q q2 (by omega) (by omega) c2 (fun i x y=>bt_ne (by have:=a3 i x y; simp; omega)) (bt_eq (by rw[hc]; rfl))
    refine⟨by omega,c2,fun i x y=>?_,by rw[hsp,List.map_cons,c4,a4],?_,?_,b2,c7,by rw[hps,e6,c8],c9⟩
    ·rcases Nat.lt_or_ge q i with h' | h'
     ·exact c3 i (by omega) y
     ·rcases Nat.lt_or_ge i q with h'' | h''
      ·exact(a3 i x h'').2
      ·obtain rfl:i=q:=by omega
       omega
    ·rw[hsp]
     intro x hx;rcases List.mem_cons.1 hx with rfl | hx
     ·exact hpart
     ·exact c5 x hx
    ·intro x hx
     rcases List.mem_cons.1 hx with rfl | hx
     ·exact a5
     ·exact c6 x hx
   ·rw[if_neg (by simp[hc])]
    have hsp:z0v 44 [] (sl s p q)=[sl s p q]:=z5p s 44 p q (by omega) a2 (fun i x y=>bt_ne (by have:=a3 i x y; simp; omega));refine⟨fun h=>absurd h (by simp),fun _=>⟨by show p < q; omega,a2,fun i x y=>(a3 i x y).2,by rw[hsp]; simp[a4],?_,?_,b,hb16,hps,by rw[hst,if_neg hc]⟩⟩
    ·rw[hsp]
     intro x hx;simp at hx;subst hx;exact hpart
    ·intro x hx
     simp at hx;subst hx;exact a5
theorem caps_ok (s:ByteArray):∀(f p:Nat),p<=s.size->s.size < p+f →
  p<=(capsL s f p).2/\(capsL s f p).2<=s.size/\(∀i,p<=i->i < (capsL s f p).2->inB 65 76 (pk s i)=true)/\(sl s p (capsL s f p).2).map (fun x=>x.toNat - 65)=(capsL s f p).1 ∧
  inB 65 76 (pk s (capsL s f p).2)=false/\((capsL s f p).1=[]->(capsL s f p).2=p) ∧
  ((capsL s f p).1≠[]->p < (capsL s f p).2/\∀a:Int,(a=15\/a=16)->PS s a p=PS s 16 (capsL s f p).2):=by
 intro f
 induction f with
 | zero=>intro p h1 h2; omega
 | succ f ih=>
  intro p h1 h2;unfold capsL;cases hl:inB 65 76 (pk s p) with
  | false=>
   simp only[if_neg (Bool.false_ne_true)];refine⟨Nat.le_refl _,h1,fun i a b=>by omega,by rw[sl_nil]; rfl,hl,fun _=>trivial,fun h=>absurd rfl h⟩
  | true=>
   simp only[if_pos];have hp:=in_lt s p 65 76 hl (by omega);obtain⟨i1,i2,i3,i4,i5,i6,i7⟩:=ih (p+1) (by omega) (by omega);have hst:∀a:Int,(a=15\/a=16)->PS s a p=PS s 16 (p+1):=by
    rintro a (rfl | rfl)
    ·exact PS_go s 15 16 p (by rw[st_15,hl]; rfl) (by decide) hp
    ·exact PS_go s 16 16 p (by rw[st_16,hl]; rfl) (by decide) hp
   refine⟨by omega,i2,fun i a b=>?_,?_,i5,fun h=>absurd h (by simp),fun _=>⟨by omega,fun a ha=>?_⟩⟩
   ·rcases Nat.lt_or_ge p i with h | h
    ·exact i3 i (by omega) b
    ·obtain rfl:i=p:=by omega
     exact hl
   ·rw[z45 s p _ (by omega) i2,List.map_cons,i4]; rfl
   ·rw[hst a ha]
    by_cases hn:(capsL s f (p+1)).1=[]
    ·rw[i6 hn]
    ·exact(i7 hn).2 16 (.inr rfl)
theorem mem_sl (s:ByteArray) (p q:Nat) (hq:q<=s.size) (x:UInt8) (h:x∈sl s p q):∃i,p<=i/\i < q/\x=bt s i:=by
 obtain⟨j,hj,rfl⟩:=List.getElem_of_mem h;rw[sl_len s p q hq] at hj;refine⟨p+j,by omega,by omega,?_⟩;simp[sl,bt,List.getD_eq_getElem?_getD];rw[Array.getElem?_eq_getElem (by simp; omega)];rfl
theorem train_ok (s:ByteArray) (p:Nat) (hp:p<=s.size) (hs:s.size<=256) :
  ((z1c s p).1=false->PS s 14 p=(z1c s p).2.1) ∧
  ((z1c s p).1=true->p+2<=(z1c s p).2.1/\(z1c s p).2.1<=s.size/\(∀i,p<=i->i < (z1c s p).2.1->pk s i≠44/\pk s i≠47) ∧
    trainF (sl s p (z1c s p).2.1)=(z1c s p).2.2/\97<=pk s p/\(∀x,x∈(sl s p (z1c s p).2.1).drop 1->65<=x.toNat)/\inB 65 76 (pk s (z1c s p).2.1)=false/\PS s 14 p=PS s 16 (z1c s p).2.1):=by
 unfold z1c;cases h0:inB 97 112 (pk s p) with
 | false=>
  simp only[if_true];exact⟨fun _=>z36 s 14 p (by rw[st_14,h0]; rfl) (by decide) hp,fun h=>absurd h (by simp)⟩
 | true=>
  have hp0:=in_lt s p 97 112 h0 (by omega);have e14:PS s 14 p=PS s 15 (p+1):=PS_go s 14 15 p (by rw[st_14,h0]; rfl) (by decide) hp0;have hb:97<=pk s p/\pk s p<=112:=by unfold inB at h0; simpa using h0
  simp only[Bool.true_eq_false,if_false];obtain⟨i1,i2,i3,i4,i5,i6,i7⟩:=caps_ok s 300 (p+1) (by omega) (by omega);generalize capsL s 300 (p+1)=R at *;obtain⟨items,q⟩:=R;simp only[decide_eq_false_iff_not,decide_eq_true_eq] at *;by_cases h4:items=[]
  ·have:=i6 h4
   subst this;exact⟨fun _=>by rw[e14]; exact z36 s 15 (p+1) (by rw[st_15,i5]; rfl) (by decide) i2,fun h=>absurd h (by rw[h4]; simp)⟩
  ·obtain⟨i7a,i7b⟩:=i7 h4
   refine⟨fun h=>absurd (List.length_pos_iff.2 h4) h,fun _=>⟨by omega,i2,fun i a c=>?_,?_,hb.1,fun x hx=>?_,i5,by rw[e14]; exact i7b 15 (.inl rfl)⟩⟩
   ·rcases Nat.lt_or_ge p i with h | h
    ·have:=i3 i (by omega) c; unfold inB at this; simp at this; omega
    ·obtain rfl:i=p:=by omega
     omega
   ·unfold trainF
    rw[sl_get0 s p q (by omega) i2,sl_drop,i4]; rfl
   ·rw[sl_drop] at hx
    obtain⟨i,a,c,rfl⟩:=mem_sl s _ _ i2 x hx;have:=i3 i a c; unfold inB at this; simp at this; rw[<-pk_bt]; omega
theorem tns_ok (s:ByteArray) (hs:s.size<=256):∀(f p:Nat),p<=s.size->s.size < p+f →
  ((tnsL s f p).1=false->PS s 14 p=(tnsL s f p).2.1) ∧
  ((tnsL s f p).1=true->p < (tnsL s f p).2.1/\(tnsL s f p).2.1<=s.size/\(∀i,p<=i->i < (tnsL s f p).2.1->pk s i≠47) ∧
    (z0v 44 [] (sl s p (tnsL s f p).2.1)).map trainF=(tnsL s f p).2.2/\(∀x,x∈z0v 44 [] (sl s p (tnsL s f p).2.1)->1<=x.length/\97<=(x.getD 0 0).toNat/\∀y,y∈x.drop 1->65<=y.toNat) ∧
    PS s 14 p=if (tnsL s f p).2.1=s.size then -1 else ((tnsL s f p).2.1:Int)):=by
 intro f
 induction f with
 | zero=>intro p h1 h2; omega
 | succ f ih=>
  intro p h1 h2;obtain⟨r1,r2⟩:=train_ok s p h1 hs;unfold tnsL;generalize z1c s p=R at *;obtain⟨ok,q,r⟩:=R;simp only at *;cases ok with
  | false=>
   simp only[if_true];exact⟨fun _=>r1 rfl,fun h=>absurd h (by simp)⟩
  | true=>
   obtain⟨a1,a2,a3,a4,a5,a6,a7,a8⟩:=r2 rfl;simp only[Bool.true_eq_false,if_false];have hpart:1<=(sl s p q).length/\97<=((sl s p q).getD 0 0).toNat/\∀y,y∈(sl s p q).drop 1->65<=y.toNat:=by
    rw[sl_len s p q a2,sl_get0 s p q (by omega) a2];exact⟨by omega,a5,a6⟩
   by_cases hc:pk s q=44
   ·rw[if_pos (by simp[hc])]
    have hq:=eq_lt s q 44 hc (by omega);obtain⟨i1,i2⟩:=ih (q+1) (by omega) (by omega);have e6:PS s 16 q=PS s 14 (q+1):=PS_go s 16 14 q (by rw[st_16,a7,hc]; rfl) (by decide) hq;generalize tnsL s f (q+1)=R at *;obtain⟨ok2,q2,rs⟩:=R;simp only at *;refine⟨fun h=>by rw[a8,e6]; exact i1 h,fun h=>?_⟩;obtain⟨c1,c2,c3,c4,c5,c6⟩:=i2 h;have hsp:z0v 44 [] (sl s p q2)=sl s p q :: z0v 44 [] (sl s (q+1) q2):=
     z4p s 44 p q q2 (by omega) (by omega) c2 (fun i x y=>bt_ne (by have:=a3 i x y; simp; omega)) (bt_eq (by rw[hc]; rfl))
    refine⟨by omega,c2,fun i x y=>?_,by rw[hsp,List.map_cons,c4,a4],?_,by rw[a8,e6,c6]⟩
    ·rcases Nat.lt_or_ge q i with h' | h'
     ·exact c3 i (by omega) y
     ·rcases Nat.lt_or_ge i q with h'' | h''
      ·exact(a3 i x h'').2
      ·obtain rfl:i=q:=by omega
       omega
    ·rw[hsp]
     intro x hx;rcases List.mem_cons.1 hx with rfl | hx
     ·exact hpart
     ·exact c5 x hx
   ·rw[if_neg (by simp[hc])]
    have hsp:z0v 44 [] (sl s p q)=[sl s p q]:=z5p s 44 p q (by omega) a2 (fun i x y=>bt_ne (by have:=a3 i x y; simp; omega));refine⟨fun h=>absurd h (by simp),fun _=>⟨by show p < q; omega,a2,fun i x y=>(a3 i x y).2,by rw[hsp]; simp[a4],?_,by rw[a8]; exact PS_last s q (by rw[st_16,a7,if_neg (by simp),if_neg hc]) a2⟩⟩;rw[hsp];intro x hx;simp at hx;subst hx;exact hpart
theorem sec_ok (s:ByteArray):∀(f p:Nat),p<=s.size->s.size < p+f →
  p<=(secL s f p).2/\(secL s f p).2<=s.size/\(∀i,p<=i->i < (secL s f p).2->pk s i=46\/pk s i=121)/\(sl s p (secL s f p).2).map (·==121)=(secL s f p).1 ∧
  ¬(pk s (secL s f p).2=46\/pk s (secL s f p).2=121)/\((secL s f p).1=[]->(secL s f p).2=p) ∧
  ((secL s f p).1≠[]->p < (secL s f p).2/\∀a:Int,(a=4\/a=5)->PS s a p=PS s 5 (secL s f p).2):=by
 intro f
 induction f with
 | zero=>intro p h1 h2; omega
 | succ f ih=>
  intro p h1 h2;unfold secL;by_cases hl:pk s p=46\/pk s p=121
  ·simp only[if_pos hl]
   have hp:p < s.size:=pk_pos s p (by omega);obtain⟨i1,i2,i3,i4,i5,i6,i7⟩:=ih (p+1) (by omega) (by omega);have hst:∀a:Int,(a=4\/a=5)->PS s a p=PS s 5 (p+1):=by
    rintro a (rfl | rfl)
    ·exact PS_go s 4 5 p (by rw[st_4,if_pos hl]) (by decide) hp
    ·exact PS_go s 5 5 p (by rw[st_5,if_pos hl]) (by decide) hp
   refine⟨by omega,i2,fun i a b=>?_,?_,i5,fun h=>absurd h (by simp),fun _=>⟨by omega,fun a ha=>?_⟩⟩
   ·rcases Nat.lt_or_ge p i with h | h
    ·exact i3 i (by omega) b
    ·obtain rfl:i=p:=by omega
     exact hl
   ·rw[z45 s p _ (by omega) i2,List.map_cons,i4]
    congr 1
    rw[pk_bt,Bool.eq_iff_iff];simp only[beq_iff_eq];exact⟨fun h=>by rw[h]; rfl,fun h=>UInt8.toNat_inj.1 h⟩
   ·rw[hst a ha]
    by_cases hn:(secL s f (p+1)).1=[]
    ·rw[i6 hn]
    ·exact(i7 hn).2 5 (.inr rfl)
  ·simp only[if_neg hl]
   refine⟨Nat.le_refl _,h1,fun i a b=>by omega,by rw[sl_nil]; rfl,hl,fun _=>trivial,fun h=>absurd rfl h⟩
end Go.Proofs.YtkbpocecbcaiiabGreatDoor
namespace Go.Proofs.YtkbpocecbcaiiabGreatDoor
theorem times_ok (s:ByteArray):(z2z s 0≠3->PS s 0 0=z2z s 0)/\(z2z s 0=3->PS s 0 0=PS s 3 3/\3<=s.size/\∀i,i < 3->49<=pk s i/\pk s i<=57):=by
 unfold z2z;cases h0:inB 49 57 (pk s 0) with
 | false=>exact⟨fun _=>by simp only[if_true]; exact z36 s 0 0 (by rw[st_0,h0]; rfl) (by decide) (Nat.zero_le _),fun h=>absurd h (by simp)⟩
 | true=>
  have l0:=in_lt s 0 49 57 h0 (by omega);have e0:PS s 0 0=PS s 1 1:=PS_go s 0 1 0 (by rw[st_0,h0]; rfl) (by decide) l0;cases h1:inB 49 57 (pk s (0+1)) with
  | false=>exact⟨fun _=>by simp only[Bool.true_eq_false,if_true,if_false]; rw[e0]; exact z36 s 1 1 (by rw[st_1,show (1:Nat)=0+1 from rfl,h1]; rfl) (by decide) l0,fun h=>absurd h (by simp)⟩
  | true=>
   have l1:=in_lt s 1 49 57 h1 (by omega);have e1:PS s 1 1=PS s 2 2:=PS_go s 1 2 1 (by rw[st_1,show (1:Nat)=0+1 from rfl,h1]; rfl) (by decide) l1;cases h2:inB 49 57 (pk s (0+2)) with
   | false=>exact⟨fun _=>by simp only[Bool.true_eq_false,if_true,if_false]; rw[e0,e1]; exact z36 s 2 2 (by rw[st_2,show (2:Nat)=0+2 from rfl,h2]; rfl) (by decide) l1,fun h=>absurd h (by simp)⟩
   | true=>
    have l2:=in_lt s 2 49 57 h2 (by omega);have e2:PS s 2 2=PS s 3 3:=PS_go s 2 3 2 (by rw[st_2,show (2:Nat)=0+2 from rfl,h2]; rfl) (by decide) l2;refine⟨fun h=>absurd rfl h,fun _=>⟨by rw[e0,e1,e2],by omega,fun i hi=>?_⟩⟩;unfold inB at h0 h1 h2;simp at h0 h1 h2
    match i,hi with
    | 0,_=>omega
    | 1,_=>omega
    | 2,_=>omega
theorem lay_ok (s:ByteArray) (hs:s.size<=256) :
  (((layL s).1&&decide ((layL s).2.1=s.size))=false->PS s 0 0=(layL s).2.1) ∧
  (((layL s).1&&decide ((layL s).2.1=s.size))=true->PS s 0 0=-1/\layOf s.data.toList=(layL s).2.2/\Form s.data.toList):=by
 unfold layL;obtain⟨t1,t2⟩:=times_ok s;by_cases h3:z2z s 0=3
 ·rw[if_neg (by simpa using h3)]
  obtain⟨e0,l3,hd⟩:=t2 h3;by_cases h47:pk s 3=47
  ·rw[if_neg (by simp[h47])]
   have l4:=eq_lt s 3 47 h47 (by omega);have e3:PS s 3 3=PS s 4 4:=PS_go s 3 4 3 (by rw[st_3,if_pos h47]) (by decide) l4;obtain⟨s1,s2,s3,s4,s5,s6,s7⟩:=sec_ok s 300 4 (by omega) (by omega);generalize secL s 300 4=R at *;obtain⟨bs,q1⟩:=R;simp only at *;by_cases hbs:bs=[]
   ·rw[if_pos (by rw[hbs]; rfl)]
    have:=s6 hbs;subst this;exact⟨fun _=>by rw[e0,e3]; exact z36 s 4 4 (by rw[st_4,if_neg s5]) (by decide) s2,fun h=>absurd h (by simp)⟩
   ·rw[if_neg (by simpa using hbs)]
    obtain⟨s7a,s7b⟩:=s7 hbs;have e4:=s7b 4 (.inl rfl);by_cases h47b:pk s q1=47
    ·rw[if_neg (by simp[h47b])]
     have l5:=eq_lt s q1 47 h47b (by omega);have e5:PS s 5 q1=PS s 6 (q1+1):=PS_go s 5 6 q1 (by rw[st_5,if_neg s5,if_pos h47b]) (by decide) l5;obtain⟨r1,r2⟩:=rts_ok s hs 300 (q1+1) (by omega) (by omega);generalize rtsL s 300 (q1+1)=R at *;obtain⟨ok,q2,rs⟩:=R;simp only at *;cases ok with
     | false=>
      simp only[if_true];exact⟨fun _=>by rw[e0,e3,e4,e5]; exact r1 rfl,fun h=>absurd h (by simp)⟩
     | true=>
      simp only[Bool.true_eq_false,if_false];obtain⟨a1,a2,a3,a4,a5,a6,b,a7,a8,a9⟩:=r2 rfl;by_cases h47c:pk s q2=47
      ·rw[if_neg (by simp[h47c])]
       have l6:=eq_lt s q2 47 h47c (by omega);have e6:PS s b q2=PS s 14 (q2+1):=PS_go s b 14 q2 (by rw[a9,if_pos h47c]) (by decide) l6;obtain⟨u1,u2⟩:=tns_ok s hs 300 (q2+1) (by omega) (by omega);generalize tnsL s 300 (q2+1)=R at *;obtain⟨ok,q3,ts⟩:=R;simp only at *;cases ok with
       | false=>
        simp only[Bool.false_and];exact⟨fun _=>by rw[e0,e3,e4,e5,a8,e6]; exact u1 rfl,fun h=>absurd h (by simp)⟩
       | true=>
        obtain⟨b1,b2,b3,b4,b5,b6⟩:=u2 rfl;simp only[Bool.true_and,decide_eq_false_iff_not,decide_eq_true_eq];refine⟨fun h=>by rw[e0,e3,e4,e5,a8,e6,b6,if_neg h],fun h=>?_⟩;have hps:PS s 0 0=-1:=by rw[e0,e3,e4,e5,a8,e6,b6,if_pos h]
        subst h;have hsplit:z0v 47 [] s.data.toList=[sl s 0 3,sl s 4 q1,sl s (q1+1) q2,sl s (q2+1) s.size]:=by
         rw[<-sl_all s,z4p s 47 0 3 s.size (by omega) (by omega) (Nat.le_refl _) (fun i x y=>bt_ne (by have:=hd i y; simp; omega)) (bt_eq (by rw[h47]; rfl)),
          z4p s 47 4 q1 s.size (by omega) (by omega) (Nat.le_refl _) (fun i x y=>bt_ne (by have:=s3 i x y; simp; omega)) (bt_eq (by rw[h47b]; rfl)),
          z4p s 47 (q1+1) q2 s.size (by omega) (by omega) (Nat.le_refl _) (fun i x y=>bt_ne (by have:=a3 i x y; simp; omega)) (bt_eq (by rw[h47c]; rfl)),
          z5p s 47 (q2+1) s.size (by omega) (Nat.le_refl _) (fun i x y=>bt_ne (by have:=b3 i x y; simp; omega))]
        have hlay:layOf s.data.toList=⟨pk s 0 - 48,pk s 1 - 48,pk s 2 - 48,bs,rs,ts⟩:=by
         unfold layOf;rw[hsplit];rw[<-s4,<-a4,<-b4];rfl
        refine⟨hps,hlay,by simp; omega,?_,?_,?_,sl s 0 3,sl s 4 q1,sl s (q1+1) q2,sl s (q2+1) s.size,hsplit,a5,b5,?_⟩
        ·have:=(hd 0 (by omega)).1; rw[pk_bt] at this; unfold bt at this; omega
        ·have:=(hd 1 (by omega)).1; rw[pk_bt] at this; unfold bt at this; omega
        ·have:=(hd 2 (by omega)).1; rw[pk_bt] at this; unfold bt at this; omega
        ·rw[hlay]; exact a6
      ·rw[if_pos (by simp[h47c])]
       exact⟨fun _=>by rw[e0,e3,e4,e5,a8]; exact z36 s b q2 (by rw[a9,if_neg h47c]) a7 a2,fun h=>absurd h (by simp)⟩
    ·rw[if_pos (by simp[h47b])]
     exact⟨fun _=>by rw[e0,e3,e4]; exact z36 s 5 q1 (by rw[st_5,if_neg s5,if_neg h47b]) (by decide) s2,fun h=>absurd h (by simp)⟩
  ·rw[if_pos (by simp[h47])]
   exact⟨fun _=>by rw[e0]; exact z36 s 3 3 (by rw[st_3,if_neg h47]) (by decide) l3,fun h=>absurd h (by simp)⟩
 ·rw[if_pos (by simpa using h3)]
  exact⟨fun _=>t1 h3,fun h=>absurd h (by simp)⟩
theorem PS_all (s:ByteArray):PS s 0 0=z1m 0 0 s.data.toList:=by unfold PS; rw[List.drop_zero]
theorem form_ok:FormOK:=by
 intro l hl hp;have hs:(⟨l.toArray⟩:ByteArray).data.toList=l:=by simp
 have hz:(⟨l.toArray⟩:ByteArray).size<=256:=by show l.toArray.size<=256; simpa using hl
 obtain⟨h1,h2⟩:=lay_ok ⟨l.toArray⟩ hz;rw[PS_all,hs] at h1 h2;cases h:((layL ⟨l.toArray⟩).1&&decide ((layL ⟨l.toArray⟩).2.1=(⟨l.toArray⟩:ByteArray).size)) with
 | true=>exact(h2 h).2.2
 | false=>
  have:=h1 h;rw[hp] at this;omega
theorem form_eq (s:ByteArray) (hs:s.size<=256):((z2h s).1=0/\z1m 0 0 s.data.toList=-1/\layOf s.data.toList=(layL s).2.2/\(layL s).2.2.Paths) ∨
  ((z2h s).1=2/\z1m 0 0 s.data.toList≠-1/\((z2h s).2:Int)=z1m 0 0 s.data.toList):=by
 obtain⟨h1,h2⟩:=lay_ok s hs;unfold z2h;rw[if_neg (by omega)];cases h:((layL s).1&&decide ((layL s).2.1=s.size)) with
 | true=>
  left;obtain⟨a,b,c⟩:=h2 h;rw[PS_all] at a;obtain⟨-,-,-,-,p0,p1,p2,p3,-,-,-,hP⟩:=c;rw[b] at hP;exact⟨rfl,a,b,hP⟩
 | false=>
  right;have:=h1 h;rw[PS_all] at this;refine⟨rfl,by rw[this]; omega,by simp[this]⟩
theorem read_paths (s:ByteArray):(z2h s).1=0->(layL s).2.2.Paths:=by
 intro h;by_cases hs:s.size<=256
 ·rcases form_eq s hs with ⟨-,-,-,h'⟩ | ⟨h',-⟩
  ·exact h'
  ·rw[h] at h'; cases h'
 ·unfold z2h at h
  rw[if_pos (by omega)] at h;cases h
end Go.Proofs.YtkbpocecbcaiiabGreatDoor
