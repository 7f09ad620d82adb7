import Derived.Test.YtkbpocecbcaiiabGreatDoorO8
namespace Go.Proofs.YtkbpocecbcaiiabGreatDoor
open Go.RowKit
def CInts (w:World) (l:List Nat) (cs:List Value):Prop:=∃u,cs=[u]/\Ints w u l
def CByts (w:World) (l:List Nat) (cs:List Value):Prop:=∃u,cs=[u]/\Byts w u l
def IRows (w:World) (v:Value) (ll:List (List Nat)):Prop:=SlAt 49 1 CInts w v ll
def BRows (w:World) (v:Value) (ll:List (List Nat)):Prop:=SlAt 74 1 CByts w v ll
def kobj (L:Lay) (vh vp vf va vk vw vs vj:Value):Obj:=.cells #[.int .i64 L.T,.int .i64 L.D,.int .i64 L.Q,vh,vp,vf,va,vk,vw,vs,vj] 53 (0,0)
def KPl (w:World) (g:Nat) (L:Lay):Prop:=∃vh vp vf va vk vw vs vj,w.heap[g]?=some (kobj L vh vp vf va vk vw vs vj)/\Bools w vh L.sw/\Ints w vp (z03 0 L.sw)/\Ints w vf (L.rts.map (·.foot)) ∧
 IRows w va (L.rts.map (fun r=>secs r.path))/\IRows w vk (L.rts.map (fun r=>secs r.flank))/\BRows w vw (L.rts.map (z31 L.sw.length))/\Ints w vs (L.tns.map (·.start))/\IRows w vj (L.tns.map (·.jny))
theorem IRows.below {w w':World} {v:Value} {ll:List (List Nat)} (h:IRows w v ll) (k:Below w.heap.size w w'):IRows w' v ll:=
 SlAt.keep h (.below k) (fun _ _ ⟨u,e,hu⟩=>⟨u,e,hu.keep (.below k)⟩)
theorem BRows.below {w w':World} {v:Value} {ll:List (List Nat)} (h:BRows w v ll) (k:Below w.heap.size w w'):BRows w' v ll:=
 SlAt.keep h (.below k) (fun _ _ ⟨u,e,hu⟩=>⟨u,e,hu.keep (.below k)⟩)
theorem KPl.below {w w':World} {g:Nat} {L:Lay} (h:KPl w g L) (k:Below w.heap.size w w'):KPl w' g L:=by
 obtain⟨vh,vp,vf,va,vk,vw,vs,vj,e,a1,a2,a3,a4,a5,a6,a7,a8⟩:=h;exact⟨vh,vp,vf,va,vk,vw,vs,vj,(k.block g (z0g e)).trans e,a1.keep (.below k),a2.keep (.below k),a3.keep (.below k),a4.below k,a5.below k,a6.below k,a7.keep (.below k),a8.below k⟩
theorem rows_of {w:World} {n:Nat} {v:Value} {C:World->List Nat->List Value->Prop} {e:TypeId} (ll:List (List Nat)) (W:Nat->Value) (h:w.ownsRow n e 1 v ll.length ((List.range ll.length).map W)) (hC:∀r (_:r < ll.length),C w ll[r] [W r]):SlAt e 1 C w v ll:=by
 obtain⟨-,h⟩:=h;rcases h with ⟨rfl,h0⟩ | ⟨g,cap,cur,rfl,-,hg,h1,h2,h3,h4⟩
 ·have:ll=[]:=List.length_eq_zero_iff.1 h0
  subst this;exact⟨none,0,rfl,Nat.le_refl _,Nat.zero_le _,.inl rfl⟩
 ·refine⟨some ⟨g,0,none⟩,cap,rfl,h1,h2,.inr ⟨g,0,cur,(0,0),rfl,hg,fun i hi=>⟨[W i],rfl,hC i hi,fun j hj=>?_⟩⟩⟩
  obtain rfl:j=0:=by omega
  have:(cur.toList.take (ll.length*1))[i]?=((List.range ll.length).map W)[i]?:=by rw[h4]
  rw[List.getElem?_take_of_lt (by omega),List.getElem?_map,List.getElem?_range hi] at this
  simpa using this
theorem KM.rest {n:Nat} {w:World} {g:Nat} {L:Lay} {V:Nat->Nat->Value} (h:KM n w g L.T L.D L.Q (KP.of L) V):KPl w g L:=by
 have hI:∀(i:Nat) (hi:i=4\/i=5\/i=9) (l:List Nat),kcont (KP.of L) V i 0=intsV l->Ints w (V i 0) l:=fun i hi l hl=>by
  obtain⟨a,e,hv,ho⟩:=h.topI i hi l hl;rw[hv];exact Ints.ofOwn ho rfl
 have hR:∀(i j:Nat) (ll:List (List Nat)),3<=i/\i<=10->ktyp i=49->ktyp j=3->kcont (KP.of L) V i 0=(List.range ll.length).map (V j)->(∀r (_:r < ll.length),KKey (KP.of L) j r/\kcont (KP.of L) V j r=intsV ll[r])->IRows w (V i 0) ll:=fun i j ll hi ht htj hc hk=>by
  have ho:=h.own i 0 (z0u _ i hi);rw[hc,ht] at ho;refine rows_of ll (V j) (by simpa using ho) (fun r hr=>⟨_,rfl,?_⟩);obtain⟨k1,k2⟩:=hk r hr;have hor:=h.own j r k1;rw[k2,htj] at hor;exact Ints.ofOwn hor (by simp[intsV])
 refine⟨V 3 0,V 4 0,V 5 0,V 6 0,V 7 0,V 8 0,V 9 0,V 10 0,h.cell,?_,hI 4 (by omega) _ rfl,hI 5 (by omega) _ rfl,?_,?_,?_,hI 9 (by omega) _ rfl,?_⟩
 ·have ho:=h.own 3 0 (z0u _ 3 (by omega))
  exact Bools.ofOwn ho (by show (z17 L.sw).length=_; simp[z17])
 ·refine hR 6 16 _ (by omega) rfl rfl rfl (fun r hr=>⟨.inr (.inl ⟨rfl,hr⟩),?_⟩)
  show intsV ((L.rts.map (fun r=>secs r.path)).getD r [])=_;rw[List.getD_eq_getElem?_getD,List.getElem?_eq_getElem hr]; rfl
 ·refine hR 7 17 _ (by omega) rfl rfl rfl (fun r hr=>⟨.inr (.inr (.inl ⟨rfl,hr⟩)),?_⟩)
  show intsV ((L.rts.map (fun r=>secs r.flank)).getD r [])=_;rw[List.getD_eq_getElem?_getD,List.getElem?_eq_getElem hr]; rfl
 ·have ho:=h.own 8 0 (z0u _ 8 (by omega))
  have hc:kcont (KP.of L) V 8 0=(List.range (L.rts.map (z31 L.sw.length)).length).map (V 18):=rfl;have ht:ktyp 8=74:=rfl;rw[hc,ht] at ho;refine rows_of _ (V 18) (by simpa using ho) (fun r hr=>⟨_,rfl,?_⟩);have hor:=h.own 18 r (.inr (.inr (.inr (.inl ⟨rfl,hr⟩))));have e:kcont (KP.of L) V 18 r=bytsV (L.rts.map (z31 L.sw.length))[r]:=by
   show bytsV ((L.rts.map (z31 L.sw.length)).getD r [])=_;rw[List.getD_eq_getElem?_getD,List.getElem?_eq_getElem hr]; rfl
  rw[e] at hor;exact Byts.ofOwn hor (by simp[bytsV])
 ·refine hR 10 20 _ (by omega) rfl rfl rfl (fun r hr=>⟨.inr (.inr (.inr (.inr ⟨rfl,hr⟩))),?_⟩)
  show intsV ((L.tns.map (·.jny)).getD r [])=_;rw[List.getD_eq_getElem?_getD,List.getElem?_eq_getElem hr]; rfl
theorem KM.same {n:Nat} {w w':World} {g T D Q:Nat} {k:KP} {V:Nat->Nat->Value} (h:KM n w g T D Q k V) (hs:∀b,n<=b->b < w.heap.size->w'.heap[b]?=w.heap[b]?):KM n w' g T D Q k V:=by
 refine⟨(hs g h.ng (z0g h.cell)).trans h.cell,h.ng,fun i r hk=>?_,h.ap⟩;have ho:=h.own i r hk;refine⟨ho.1,?_⟩;rcases ho.2 with h2 | ⟨b,cap,cur,hv,hg,hh,r⟩
 ·exact .inl h2
 ·exact .inr ⟨b,cap,cur,hv,hg,(hs b hg (z0g hh)).trans hh,r⟩
def KPlIn (R:Nat->Prop) (w:World) (g:Nat) (L:Lay):Prop:=(∀k,R k->k < w.heap.size)/\∀w',SameOn R w w'->KPl w' g L
theorem KM.restIn {n:Nat} {w:World} {g:Nat} {L:Lay} {V:Nat->Nat->Value} (h:KM n w g L.T L.D L.Q (KP.of L) V):KPlIn (fun k=>n<=k/\k < w.heap.size) w g L:=
 ⟨fun _ hk=>hk.2,fun _ hs=>(h.same (fun b h1 h2=>hs b ⟨h1,h2⟩)).rest⟩
theorem KPlIn.at {R:Nat->Prop} {w:World} {g:Nat} {L:Lay} (h:KPlIn R w g L):KPl w g L:=h.2 w (fun _ _=>rfl)
theorem KPlIn.only {R F:Nat->Prop} {w w':World} {g:Nat} {L:Lay} (h:KPlIn R w g L) (ho:Only F w w') (hd:∀k,R k->¬F k):KPlIn R w' g L:=
 ⟨fun k hk=>Nat.lt_of_lt_of_le (h.1 k hk) ho.size,fun w2 hs=>h.2 w2 (fun k hk=>(hs k hk).trans (ho.block k (h.1 k hk) (hd k hk)))⟩
theorem KPlIn.below {R:Nat->Prop} {w w':World} {g:Nat} {L:Lay} (h:KPlIn R w g L) (hb:Below w.heap.size w w'):KPlIn R w' g L:=h.only (F:=fun _=>False) (Only.of_below hb) (fun _ _ h=>h)
theorem z0k {w:World} {g:Nat} {L:Lay} {vh vp vf va vk vw vs vj:Value} (h:w.heap[g]?=some (kobj L vh vp vf va vk vw vs vj)) :
  (w.cell? ⟨g,0,none⟩=some (.int .i64 L.T)/\w.cell? ⟨g,1,none⟩=some (.int .i64 L.D)/\w.cell? ⟨g,2,none⟩=some (.int .i64 L.Q)/\w.cell? ⟨g,3,none⟩=some vh/\w.cell? ⟨g,4,none⟩=some vp/\w.cell? ⟨g,5,none⟩=some vf/\w.cell? ⟨g,6,none⟩=some va/\w.cell? ⟨g,7,none⟩=some vk/\w.cell? ⟨g,8,none⟩=some vw/\w.cell? ⟨g,9,none⟩=some vs/\w.cell? ⟨g,10,none⟩=some vj)/\g < w.heap.size:=
 ⟨⟨z07 h 0,z07 h 1,z07 h 2,z07 h 3,z07 h 4,z07 h 5,z07 h 6,z07 h 7,z07 h 8,z07 h 9,z07 h 10⟩,z0g h⟩
def z33 (l:List Nat) (i:Int):Bool:=l.any (fun x:Nat=>(x:Int)==i)
theorem within_any (v:Value) (l:List Nat) (x:Int) (w:World) (h:Ints w v l) :
  Calls Tryz.prog 87 #[v,.int .i64 x] w fun e w'=>e=.returned (.bool (z33 l x))/\w'=w:=by
 obtain⟨ao,cap,rfl,h1,h2,h3⟩:=SlAt.open h;clear h;unfold maxLen at h2;have HZ:=zh (show ∀k,(∀j,j < k->∀(h:j < l.length),((l[j]:Nat):Int)≠x)->k=l.length->z33 l x=false from fun k hk e=>by
  unfold z33;rw[List.any_eq_false];intro y hy;obtain⟨j,hj,rfl⟩:=List.mem_iff_getElem.1 hy;have:=hk j (by omega) hj
  simpa using this)
 obtain⟨Z,hZ⟩:∃Z,Z=z33 l x:=⟨_,rfl⟩
 rw[<-hZ];have HZZ:=zh hZ;clear hZ;go_enter Tryz.func87,Tryz.ntmps87
 go_wp2
 go_loop [5] (fun i=>∃k:Nat,k<=l.length/\i=.int .i64 k/\∀j,j < k->∀(h:j < l.length),((l[j]:Nat):Int)≠x) (fun i=>l.length - (intOf i).toNat)
 case atStart=>exact⟨0,Nat.zero_le _,rfl,fun j hj=>by omega⟩
 case round=>
  obtain⟨k,hk,rfl,hno⟩:=hrel;have HNO:=zh hno;clear hno;by_cases hlt:k < l.length
  ·obtain⟨g,off,hao,-,cs,-,hC,hc⟩:=h3 k hlt
   unfold CInt at hC;subst hC;have hc0:=hc 0 (by omega);have HY:=zh (show ((l[k]:Nat):Int)=x->z33 l x=true from fun e=>by
    unfold z33;rw[List.any_eq_true];exact⟨l[k],List.getElem_mem hlt,by simp[e]⟩)
   clear hc h3;simp at hc0;have HN2:=zh (show ((l[k]:Nat):Int)≠x->∀j,j < k+1->∀(h:j < l.length),((l[j]:Nat):Int)≠x from fun hne j hj h=>by
    by_cases e:j=k
    ·subst e; exact hne
    ·exact uh HNO j (by omega) h)
   by_cases e:((l[k]:Nat):Int)=x
   ·have eb:(((l[k]:Nat):Int)==x)=true:=by simp[e]
    have HE:=zh ((uh HY e).symm.trans (uh HZZ).symm);clear e;go_wp2
    go_ret
    exact⟨z04 (uh HE),rfl⟩
   ·have eb:(((l[k]:Nat):Int)==x)=false:=by simp[e]
    have HN3:=zh (uh HN2 e);clear e;go_wp2
    exact⟨⟨k+1,by omega,by go_num,uh HN3⟩,by simp[intOf]; omega⟩
  ·have HE:=zh ((uh HZ k (uh HNO) (by omega)).symm.trans (uh HZZ).symm)
   go_wp2
   go_ret
   exact⟨z04 (uh HE),rfl⟩
theorem pts_mem (l:List Bool):∀n i,i∈z03 n l↔n<=i/\l.getD (i - n) false=true:=by
 induction l with
 | nil=>intro n i; simp[z03]
 | cons b l ih=>
  intro n i;unfold z03;have key:∀i,i∈z03 (n+1) l↔n+1<=i/\(b :: l).getD (i - n) false=true:=by
   intro i;rw[ih];constructor
   ·rintro⟨h1,h2⟩
    have e:i - n=(i - (n+1))+1:=by omega
    rw[e];exact⟨h1,h2⟩
   ·rintro⟨h1,h2⟩
    have e:i - n=(i - (n+1))+1:=by omega
    rw[e] at h2;exact⟨h1,h2⟩
  by_cases hb:b=true
  ·rw[if_pos hb,List.mem_cons,key]
   constructor
   ·rintro(rfl | ⟨h1,h2⟩)
    ·exact⟨Nat.le_refl _,by rw[Nat.sub_self]; exact hb⟩
    ·exact⟨by omega,h2⟩
   ·rintro⟨h1,h2⟩
    by_cases e:i=n
    ·exact .inl e
    ·exact .inr ⟨by omega,h2⟩
  ·rw[if_neg hb,key]
   constructor
   ·rintro⟨h1,h2⟩
    exact⟨by omega,h2⟩
   ·rintro⟨h1,h2⟩
    refine⟨?_,h2⟩;by_cases e:i=n
    ·subst e
     rw[Nat.sub_self] at h2;exact absurd h2 hb
    ·omega
theorem pts_within (l:List Bool) (x:Nat):z33 (z03 0 l) ((x:Int) - 97)=(match numF x 97 l.length with | some s=>l.getD s false | none=>false):=by
 unfold numF;by_cases h:97<=x/\x < 97+l.length
 ·rw[if_pos h]
  show z33 _ _=l.getD (x - 97) false;have e:(x:Int) - 97=((x - 97:Nat):Int):=by omega
  rw[e];unfold z33;cases hg:l.getD (x - 97) false with
  | true=>
   rw[List.any_eq_true];exact⟨x - 97,(pts_mem l 0 _).2 ⟨Nat.zero_le _,hg⟩,by simp⟩
  | false=>
   rw[List.any_eq_false];intro y hy;have:=((pts_mem l 0 y).1 hy).2;intro e2;have e3:y=x - 97:=by have:=eq_of_beq e2; omega
   rw[e3,Nat.sub_zero,hg] at this;cases this
 ·rw[if_neg h]
  show z33 _ _=false;unfold z33;rw[List.any_eq_false];intro y hy;have h2:=((pts_mem l 0 y).1 hy).2;rw[Nat.sub_zero] at h2;have hl:y < l.length:=by
   rcases Nat.lt_or_ge y l.length with h | h
   ·exact h
   ·rw[List.getD_eq_getElem?_getD,List.getElem?_eq_none h] at h2
    cases h2
  simp;omega
set_option maxRecDepth 100000 in
set_option maxHeartbeats 2000000 in
theorem kcommand_any (g:Nat) (L:Lay) (c x:Nat) (w:World) (h:KPl w g L) (hc:c < 256) (hx:x < 256) :
  Calls Tryz.prog 64 #[.pointer (some ⟨g,0,none⟩),.int .u8 c,.int .u8 x] w fun e w'=>e=.returned (.bool (L.cmdB c x))/\w'=w:=by
 obtain⟨vh,vp,vf,va,vk,vw,vs,vj,e,a1,a2,a3,a4,a5,a6,a7,a8⟩:=h;obtain⟨⟨-,-,-,-,c4,c5,-,-,-,c9,-⟩,hg⟩:=z0k e;obtain⟨Z,hZ⟩:∃Z,Z=L.cmdB c x:=⟨_,rfl⟩
 rw[<-hZ];unfold Lay.cmdB at hZ;have hi:IntKind.i64.wrap (x:Int)=x:=Go.IntWalk.i64_in _ (by omega);by_cases q1:c=114
 ·rw[if_pos q1] at hZ
  obtain⟨aa,cs,rfl,-,hm,-⟩:=SlAt.open a7;rw[List.length_map] at c9;have HZ:=zh hZ;subst q1;clear a1 a2 a3 a4 a5 a6 a7 a8 hZ e c4 c5 hi;by_cases h1:49<=x
  ·have hv:(x:Int) - 49=((x - 49:Nat):Int):=by omega
   obtain⟨y,hy⟩:∃y,y=x - 49:=⟨_,rfl⟩
   rw[<-hy] at hv;by_cases h2:y < L.tns.length
   ·have HE:=zh (show true=Z by
     rw[uh HZ]; unfold numF; rw[if_pos (by omega)]; rfl)
    have l2:(y:Int) < L.tns.length:=by omega
    have l1:(49:Int)<=x:=by omega
    generalize L.tns.length=nt at *;clear HZ h2 hy;go_enter Tryz.func64,Tryz.ntmps64
    go_wp2
    go_ret
    exact⟨z04 (uh HE),rfl⟩
   ·have HE:=zh (show false=Z by
     rw[uh HZ]; unfold numF; rw[if_neg (by omega)]; rfl)
    have l2:¬(y:Int) < L.tns.length:=by omega
    have l1:(49:Int)<=x:=by omega
    generalize L.tns.length=nt at *;clear HZ h2 hy;go_enter Tryz.func64,Tryz.ntmps64
    go_wp2
    go_ret
    exact⟨z04 (uh HE),rfl⟩
  ·have HE:=zh (show false=Z by
    rw[uh HZ]; unfold numF; rw[if_neg (by omega)]; rfl)
   have l1:¬(49:Int)<=x:=by omega
   clear HZ;go_enter Tryz.func64,Tryz.ntmps64
   go_wp2
   go_ret
   exact⟨z04 (uh HE),rfl⟩
 rw[if_neg q1] at hZ;have q1b:((c:Int)==114)=false:=by simp; omega
 by_cases q2:c=99
 ·rw[if_pos q2] at hZ
  obtain⟨aa,cs,rfl,-,hm,-⟩:=SlAt.open a3;rw[List.length_map] at c5;have HZ:=zh hZ;subst q2;clear a1 a2 a3 a4 a5 a6 a7 a8 hZ e c4 c9 hi;by_cases h1:65<=x
  ·have hv:(x:Int) - 65=((x - 65:Nat):Int):=by omega
   obtain⟨y,hy⟩:∃y,y=x - 65:=⟨_,rfl⟩
   rw[<-hy] at hv;by_cases h2:y < L.rts.length
   ·have HE:=zh (show true=Z by
     rw[uh HZ]; unfold numF; rw[if_pos (by omega)]; rfl)
    have l2:(y:Int) < L.rts.length:=by omega
    have l1:(65:Int)<=x:=by omega
    generalize L.rts.length=nt at *;clear HZ h2 hy;go_enter Tryz.func64,Tryz.ntmps64
    go_wp2
    go_ret
    exact⟨z04 (uh HE),rfl⟩
   ·have HE:=zh (show false=Z by
     rw[uh HZ]; unfold numF; rw[if_neg (by omega)]; rfl)
    have l2:¬(y:Int) < L.rts.length:=by omega
    have l1:(65:Int)<=x:=by omega
    generalize L.rts.length=nt at *;clear HZ h2 hy;go_enter Tryz.func64,Tryz.ntmps64
    go_wp2
    go_ret
    exact⟨z04 (uh HE),rfl⟩
  ·have HE:=zh (show false=Z by
    rw[uh HZ]; unfold numF; rw[if_neg (by omega)]; rfl)
   have l1:¬(65:Int)<=x:=by omega
   clear HZ;go_enter Tryz.func64,Tryz.ntmps64
   go_wp2
   go_ret
   exact⟨z04 (uh HE),rfl⟩
 rw[if_neg q2] at hZ;have q2b:((c:Int)==99)=false:=by simp; omega
 by_cases q3:c=109
 ·rw[if_pos q3] at hZ
  have hZ2:=hZ.trans (pts_within L.sw x).symm;clear hZ;have HW:=zh (within_any vp (z03 0 L.sw) ((x:Int) - 97) w a2);rw[<-hZ2] at HW;subst q3;clear a1 a2 a3 a4 a5 a6 a7 a8 hZ2 e c5 c9 hi;go_enter Tryz.func64,Tryz.ntmps64
  go_wp2_with fail
  refine(uh HW).mono ?_;rintro e w1 ⟨rfl,rfl⟩;go_wp2
  go_ret
  exact⟨rfl,rfl⟩
 rw[if_neg q3] at hZ;have q3b:((c:Int)==109)=false:=by simp; omega
 clear a1 a2 a3 a4 a5 a6 a7 a8 e c4 c5 c9 hi;subst hZ;go_enter Tryz.func64,Tryz.ntmps64
 go_wp2
 go_ret
 exact⟨rfl,rfl⟩
theorem z44 (l:List Bool):∀n,(z03 n l).length=cntT l:=by
 induction l with
 | nil=>intro n; rfl
 | cons b l ih=>
  intro n;unfold z03;by_cases hb:b=true
  ·rw[if_pos hb,List.length_cons,ih]
   subst hb;simp[cntT]
  ·rw[if_neg hb,ih]
   have:b=false:=by simpa using hb
   subst this;simp[cntT]
theorem kcommands_any (g:Nat) (L:Lay) (s:ByteArray) (w:World) (h:KPl w g L) (hk:L.bgn<=s.size) (hs:s.size<=1000) :
  Calls Tryz.prog 40 #[.pointer (some ⟨g,0,none⟩),.string s] w fun e w'=>e=.returned (.string (s.extract L.bgn s.size))/\∃m,w'=w.drewN m:=by
 obtain⟨vh,vp,vf,va,vk,vw,vs,vj,e,a1,a2,-⟩:=h;obtain⟨⟨-,-,-,c3,c4,-⟩,hg⟩:=z0k e;obtain⟨aa,cs,rfl,-,hm,-⟩:=SlAt.open a1;obtain⟨ap,cp,rfl,-,hmp,-⟩:=SlAt.open a2;rw[z44] at c4;have hp:L.bgn=L.sw.length+cntT L.sw:=rfl;generalize L.bgn=p at *;generalize L.sw.length=n at *;generalize cntT L.sw=m at *;have hpi:(n:Int)+m=p:=by omega
 have l1:(p:Int)<=s.size:=by omega
 clear a1 a2 e hm hmp hp;go_enter Tryz.func40,Tryz.ntmps40
 go_wp2
 go_quiet (fail)
 go_wp2
 go_ret
 exact⟨rfl,_,rfl⟩
theorem pk_out (s:ByteArray) (i:Nat) (h:s.size<=i):pk s i=0:=by
 unfold pk;rw[List.getD_eq_getElem?_getD,List.getElem?_eq_none (by simpa using h)]; rfl
theorem z5k (b:Bool) (l:List Bool):cntT (b :: l)=(if b then 1 else 0)+cntT l:=by
 unfold cntT;cases b
 ·simp
 ·simp; omega
theorem pts_get (l:List Bool):∀(n j:Nat) (h:j < (z03 n l).length),n<=(z03 n l)[j]/\(z03 n l)[j] - n < l.length/\l.getD ((z03 n l)[j] - n) false=true/\cntT (l.take ((z03 n l)[j] - n))=j:=by
 induction l with
 | nil=>intro n j h; simp[z03] at h
 | cons b l ih=>
  intro n j h;by_cases hb:b=true
  ·have e:z03 n (b :: l)=n :: z03 (n+1) l:=by rw[z03,if_pos hb]
   have hh:j < (n :: z03 (n+1) l).length:=by rw[<-e]; exact h
   have eg:(z03 n (b :: l))[j]=(n :: z03 (n+1) l)[j]:=by simp only[e]
   rw[eg];cases j with
   | zero=>
    rw[List.getElem_cons_zero,Nat.sub_self];refine⟨Nat.le_refl _,by simp,hb,rfl⟩
   | succ j=>
    rw[List.getElem_cons_succ];obtain⟨h1,h2,h3,h4⟩:=ih (n+1) j (by simpa using hh);obtain⟨p,hp⟩:∃p,p=(z03 (n+1) l)[j]'(by simpa using hh):=⟨_,rfl⟩
    rw[<-hp] at h1 h2 h3 h4 ⊢;have e2:p - n=(p - (n+1))+1:=by omega
    refine⟨by omega,by simp; omega,by rw[e2]; exact h3,?_⟩;rw[e2,List.take_succ_cons,z5k,h4,if_pos hb]; omega
  ·have e:z03 n (b :: l)=z03 (n+1) l:=by rw[z03,if_neg hb]
   have hh:j < (z03 (n+1) l).length:=by rw[<-e]; exact h
   have eg:(z03 n (b :: l))[j]=(z03 (n+1) l)[j]:=by simp only[e]
   rw[eg];obtain⟨h1,h2,h3,h4⟩:=ih (n+1) j hh;obtain⟨p,hp⟩:∃p,p=(z03 (n+1) l)[j]:=⟨_,rfl⟩
   rw[<-hp] at h1 h2 h3 h4 ⊢;have e2:p - n=(p - (n+1))+1:=by omega
   refine⟨by omega,by simp; omega,by rw[e2]; exact h3,?_⟩;rw[e2,List.take_succ_cons,z5k,h4,if_neg hb]; omega
theorem cntT_lt (l:List Bool):∀i,l.getD i false=true->cntT (l.take i) < cntT l:=by
 induction l with
 | nil=>intro i h; simp at h
 | cons b l ih=>
  intro i h;cases i with
  | zero=>
   have hb:b=true:=h;rw[List.take_zero,z5k,if_pos hb];simp[cntT]; omega
  | succ i=>
   have:=ih i h;rw[List.take_succ_cons,z5k,z5k]; omega
theorem rep_lt {s:ByteArray} {q:Nat} (h:isRep (pk s q)=true):q < s.size:=by
 rcases Nat.lt_or_ge q s.size with h' | h'
 ·exact h'
 ·rw[pk_out s q h'] at h; cases h
theorem okO_lt {s:ByteArray} {q:Nat} (h:okO s q=true):q < s.size:=by
 rcases Nat.lt_or_ge q s.size with h' | h'
 ·exact h'
 ·unfold okO at h; rw[pk_out s q h'] at h; cases h
structure GoodF (L:Lay) (s:ByteArray):Prop where
 le:s.size<=64
 ge:L.bgn<=s.size
 even:(s.size - L.bgn) % 2=0
 occ:∀i,i < L.sw.length->okO s i=true
 rep:∀k,k < cntT L.sw->isRep (pk s (L.sw.length+k))=true
 cmd:∀j,j < (s.size - L.bgn) / 2->L.okP s j=true
theorem z53 (L:Lay) (s:ByteArray):L.frameB s=true↔GoodF L s:=by
 unfold Lay.frameB Lay.okS Lay.okC Lay.okB;simp only[Bool.and_eq_true,decide_eq_true_eq,List.all_eq_true,List.mem_range];constructor
 ·rintro⟨⟨h1,h2⟩,h3,h4⟩
  have hr:∀k,k < cntT L.sw->isRep (pk s (L.sw.length+k))=true:=by
   intro k hk;have hk':k < (z03 0 L.sw).length:=by rw[z44]; exact hk
   obtain⟨-,a2,a3,a4⟩:=pts_get L.sw 0 k hk';rw[Nat.sub_zero] at a2 a3 a4;have:=(h2 _ a2).2;unfold Lay.okR Lay.posR at this;rw[a3,a4] at this
   simpa using this
  refine⟨h1,?_,h3,fun i hi=>(h2 i hi).1,hr,h4⟩;unfold Lay.bgn;by_cases hc:cntT L.sw=0
  ·by_cases hn:L.sw.length=0
   ·omega
   ·have:=okO_lt (h2 (L.sw.length - 1) (by omega)).1
    omega
  ·have:=rep_lt (hr (cntT L.sw - 1) (by omega))
   omega
 ·rintro⟨h1,h2,h3,h4,h5,h6⟩
  refine⟨⟨h1,fun i hi=>⟨h4 i hi,?_⟩⟩,h3,h6⟩;unfold Lay.okR Lay.posR;cases hs:L.sw.getD i false with
  | false=>rfl
  | true=>
   rw[h5 _ (cntT_lt L.sw i hs)]; rfl
theorem z1h (w:World) (a b:Nat):(w.drewN a).drewN b=w.drewN (a+b):=by simp
theorem good_no {L:Lay} {s:ByteArray} (h:¬GoodF L s):L.frameB s=false:=by
 cases e:L.frameB s with
 | false=>rfl
 | true=>exact absurd ((z53 L s).1 e) h
theorem good_yes {L:Lay} {s:ByteArray} (h:GoodF L s):L.frameB s=true:=(z53 L s).2 h
set_option maxRecDepth 100000 in
set_option maxHeartbeats 4000000 in
theorem kgood_any (g:Nat) (L:Lay) (s:ByteArray) (w:World) (h:KPl w g L) (hn:L.sw.length<=1000) (hsm:s.size<=maxLen) :
  Calls Tryz.prog 32 #[.pointer (some ⟨g,0,none⟩),.string s] w fun e w'=>e=.returned (.bool (L.frameB s))/\∃m,w'=w.drewN m:=by
 have HCM:=zh (fun (c x:Nat) (wz:World) (hz:Below w.heap.size w wz) (hc:c < 256) (hx:x < 256)=>kcommand_any g L c x wz (h.below hz) hc hx);obtain⟨vh,vp,vf,va,vk,vw,vs,vj,e,a1,a2,-⟩:=h;obtain⟨⟨-,-,-,c3,c4,-⟩,hg⟩:=z0k e;obtain⟨aa,cs,rfl,-,hm,-⟩:=SlAt.open a1;obtain⟨ap,cp,rfl,-,hmp,-⟩:=SlAt.open a2;rw[z44] at c4;obtain⟨Z,hZ⟩:∃Z,Z=L.frameB s:=⟨_,rfl⟩
 rw[<-hZ];have HN:=zh (fun (h:¬GoodF L s)=>hZ.trans (good_no h));have HY:=zh (fun (h:GoodF L s)=>hZ.trans (good_yes h));have hcn:cntT L.sw<=L.sw.length:=by unfold cntT; exact List.length_filter_le _ _
 obtain⟨n,hnn⟩:∃n,n=L.sw.length:=⟨_,rfl⟩
 obtain⟨m,hmm⟩:∃m,m=cntT L.sw:=⟨_,rfl⟩
 obtain⟨p,hpp⟩:∃p,p=L.bgn:=⟨_,rfl⟩
 have hpe:p=n+m:=by rw[hpp,hnn,hmm]; rfl
 rw[<-hnn] at c3 hn hcn;rw[<-hmm] at c4 hcn;have HE:=zh (And.intro hnn (And.intro hmm hpp));have hpi:(n:Int)+m=p:=by omega
 have hpn:n<=p/\p<=2000:=by omega
 unfold maxLen at hsm;clear a1 a2 e hZ hm hmp hnn hmm hpp hpe;by_cases q1:s.size<=64
 ·have l1:¬(64:Int) < s.size:=by omega
  by_cases q2:p<=s.size
  ·have l2:¬(s.size:Int) < p:=by omega
   have hsub:(s.size:Int) - p=((s.size - p:Nat):Int):=by omega
   obtain⟨d,hd⟩:∃d,d=s.size - p:=⟨_,rfl⟩
   rw[<-hd] at hsub;have htm:((d:Int)).tmod 2=((d % 2:Nat):Int):=(Int.ofNat_tmod d 2).symm;by_cases q3:d % 2=0
   ·have h3':(d:Int) % 2=0:=by omega
    have h3b:((d:Int) % 2==0)=true:=by simp[h3']
    have HD:=zh hd;clear htm hd;go_enter Tryz.func32,Tryz.ntmps32
    go_wp2
    go_loop [7] (fun i=>∃k:Nat,k<=n/\i=.int .i64 k/\∀j,j < k->okO s j=true) (fun i=>n - (intOf i).toNat)
    case atStart=>exact⟨0,Nat.zero_le _,rfl,fun j hj=>by omega⟩
    case round=>
     obtain⟨k,hk,rfl,hko⟩:=hrel;have HKO:=zh hko;clear hko;by_cases hlt:k < n
     ·have hks:k < s.size:=by omega
      obtain⟨z,hz⟩:∃z,s[k].toNat=z:=⟨_,rfl⟩
      have hpz:pk s k=z:=(z18 s k hks).symm.trans hz;have l3:(k:Int) < n:=by omega
      have l4:(k:Int) < s.size:=by omega
      have HOK:=zh (show okO s k=true->∀j,j < k+1->okO s j=true from fun h j hj=>by
       by_cases e:j=k
       ·subst e; exact h
       ·exact uh HKO j (by omega))
      have HPZ:=zh hpz;clear hpz;by_cases z1:z=48
      ·have HK2:=zh (uh HOK (by unfold okO; rw[uh HPZ,z1]; rfl))
       subst z1;go_wp2
       exact⟨⟨k+1,by omega,by go_num,uh HK2⟩,by simp[intOf]; omega⟩
      ·have z1b:((z:Int)==48)=false:=by simp; omega
       by_cases z2:z=49
       ·have HK2:=zh (uh HOK (by unfold okO; rw[uh HPZ,z2]; rfl))
        subst z2;go_wp2
        exact⟨⟨k+1,by omega,by go_num,uh HK2⟩,by simp[intOf]; omega⟩
       ·have z2b:((z:Int)==49)=false:=by simp; omega
        have z1n:((z:Int) != 48)=true:=by simp; omega
        have z2n:((z:Int) != 49)=true:=by simp; omega
        have HZ:=zh (uh HN (fun h=>by
         have h1:=h.occ k (by rw[<-(uh HE).1]; exact hlt);unfold okO at h1;rw[uh HPZ] at h1;simp[z1,z2] at h1))
        go_wp2
        go_ret
        exact⟨z04 (uh HZ).symm,0,rfl⟩
     ·have l3:¬(k:Int) < n:=by omega
      have HO2:=zh (show ∀i,i < n->okO s i=true from fun i hi=>uh HKO i (by omega));clear HKO;go_wp2
      go_loop [8] (fun i=>∃q:Nat,n<=q/\q<=p/\i=.int .i64 q/\∀j,n<=j->j < q->isRep (pk s j)=true) (fun i=>p - (intOf i).toNat)
      case atStart=>exact⟨n,Nat.le_refl _,hpn.1,rfl,fun j h1 h2=>by omega⟩
      case round=>
       obtain⟨q,hq1,hq2,rfl,hqr⟩:=hrel;have HQR:=zh hqr;clear hqr;by_cases hlt:q < p
       ·have hks:q < s.size:=by omega
        obtain⟨z,hz⟩:∃z,s[q].toNat=z:=⟨_,rfl⟩
        have hpz:pk s q=z:=(z18 s q hks).symm.trans hz;have l3:(q:Int) < p:=by omega
        have l4:(q:Int) < s.size:=by omega
        have HOK:=zh (show isRep (pk s q)=true->∀j,n<=j->j < q+1->isRep (pk s j)=true from fun h j h1 hj=>by
         by_cases e:j=q
         ·subst e; exact h
         ·exact uh HQR j h1 (by omega))
        have HPZ:=zh hpz;clear hpz;by_cases z1:z=43
        ·have HK2:=zh (uh HOK (by rw[uh HPZ,z1]; rfl))
         subst z1;go_wp2
         exact⟨⟨q+1,by omega,by omega,by go_num,uh HK2⟩,by simp[intOf]; omega⟩
        ·have z1b:((z:Int)==43)=false:=by simp; omega
         by_cases z2:z=45
         ·have HK2:=zh (uh HOK (by rw[uh HPZ,z2]; rfl))
          subst z2;go_wp2
          exact⟨⟨q+1,by omega,by omega,by go_num,uh HK2⟩,by simp[intOf]; omega⟩
         ·have z2b:((z:Int)==45)=false:=by simp; omega
          by_cases z3:z=63
          ·have HK2:=zh (uh HOK (by rw[uh HPZ,z3]; rfl))
           subst z3;go_wp2
           exact⟨⟨q+1,by omega,by omega,by go_num,uh HK2⟩,by simp[intOf]; omega⟩
          ·have z3b:((z:Int)==63)=false:=by simp; omega
           have z1n:((z:Int) != 43)=true:=by simp; omega
           have z2n:((z:Int) != 45)=true:=by simp; omega
           have z3n:((z:Int) != 63)=true:=by simp; omega
           have HZ:=zh (uh HN (fun h=>by
            have e1:=(uh HE).1;have e2:=(uh HE).2.1;have h1:=h.rep (q - n) (by omega);have e3:L.sw.length+(q - n)=q:=by omega
            rw[e3,uh HPZ] at h1;unfold isRep at h1;simp[z1,z2,z3] at h1))
           go_wp2
           go_ret
           exact⟨z04 (uh HZ).symm,0,rfl⟩
       ·have l3:¬(q:Int) < p:=by omega
        have HR2:=zh (show ∀k,k < m->isRep (pk s (n+k))=true from fun k hk=>uh HQR (n+k) (by omega) (by omega));clear HQR;go_wp2
        go_loopw [9] (fun i wr=>∃j mm:Nat,2*j<=d/\i=.int .i64 ((p+2*j:Nat):Int)/\(∀i,i < j->L.okP s i=true)/\wr=w.drewN mm) (fun i _=>s.size+1 - (intOf i).toNat)
        case atStart=>exact⟨0,0,Nat.zero_le _,rfl,fun i hi=>by omega,rfl⟩
        case round=>
         obtain⟨j,mm,hj,rfl,hjo,hwr⟩:=hrel;have HWR:=zh hwr;have HJO:=zh hjo;clear hjo;obtain⟨q',hq'⟩:∃q',q'=p+2*j:=⟨_,rfl⟩
         obtain⟨q2',hq2'⟩:∃q',q'=p+2*j+1:=⟨_,rfl⟩
         rw[<-hq'];have hqa:(q':Int)+1=q2':=by omega
         have hqb:q'<=100:=by have:=uh HD; omega
         have HB2:=zh (show ∀n,Below w.heap.size w ((w.drewN mm).drewN n) from fun n=>below_drewN (below_drewN (Below.refl _ _) _) n);rw[<-hwr] at HB2;clear hwr;by_cases hlt:q2' < s.size
         ·have hlt0:q' < s.size:=by omega
          obtain⟨c,hc⟩:∃z,s[q'].toNat=z:=⟨_,rfl⟩
          obtain⟨x,hx⟩:∃z,s[q2'].toNat=z:=⟨_,rfl⟩
          have hcz:pk s q'=c:=(z18 s q' hlt0).symm.trans hc;have hxz:pk s q2'=x:=(z18 s q2' hlt).symm.trans hx;have HCC:=zh (fun wz hz=>uh HCM c x wz hz (by rw[<-hcz]; exact pk_256 s q') (by rw[<-hxz]; exact pk_256 s q2'));have HOP:=zh (show L.okP s j=L.cmdB c x by
           unfold Lay.okP;have e:=(uh HE).2.2;rw[<-e,<-hq2',<-hq',hcz,hxz])
          have l3:(q2':Int) < s.size:=by omega
          have l4:(q':Int) < s.size:=by omega
          obtain⟨bo,hbo⟩:∃b,L.cmdB c x=b:=⟨_,rfl⟩
          rw[hbo] at HCC HOP;have HQ:=zh (And.intro hq' hq2');clear hbo hcz hxz hq' hq2';go_wp2
          have wq2:IntKind.i64.wrap (q2':Int)=q2':=Go.IntWalk.i64_in _ (by omega);have wq3:IntKind.i64.wrap ((q':Int)+1)=q2':=by rw[hqa]; exact wq2
          have l5:(0:Int)<=q2':=by omega
          go_quiet ((go_at_call 64; exact Calls.quiet_of_same (uh HCC _ (uh HB2 _))))
          cases bo with
          | true=>
           have HJ2:=zh (show ∀i,i < j+1->L.okP s i=true from fun i hi=>by
            by_cases e:i=j
            ·subst e; exact uh HOP
            ·exact uh HJO i (by omega))
           go_wp2
           exact⟨⟨j+1,mm+nq,by have:=(uh HQ).2; have:=uh HD; omega,by rw[(uh HQ).1]; go_num,uh HJ2,by rw[uh HWR]; exact z1h _ _ _⟩,by simp[intOf]; omega⟩
          | false=>
           have HZ:=zh (uh HN (fun h=>by
            have h1:=h.cmd j (by have e:=(uh HE).2.2; have:=(uh HQ).2; rw[<-e,<-uh HD]; have:=uh HD; omega);rw[uh HOP] at h1;cases h1))
           go_wp2
           go_ret
           exact⟨z04 (uh HZ).symm,_,by rw[uh HWR]; exact z1h _ _ _⟩
         ·have l3:¬(q2':Int) < s.size:=by omega
          have HZ:=zh (uh HY ⟨q1,by have e:=(uh HE).2.2; omega,by have e:=(uh HE).2.2; rw[<-e,<-uh HD]; exact q3,fun i hi=>uh HO2 i (by rw[(uh HE).1]; exact hi),fun k hk=>by rw[<-(uh HE).1]; exact uh HR2 k (by rw[(uh HE).2.1]; exact hk),fun i hi=>uh HJO i (by have e:=(uh HE).2.2; rw[<-e,<-uh HD] at hi; omega)⟩);clear hq' hq2';go_wp2
          go_ret
          exact⟨z04 (uh HZ).symm,mm,uh HWR⟩
   ·have h3':(d:Int) % 2=1:=by omega
    have HZ:=zh (uh HN (fun h=>by have:=h.even; have e:=(uh HE).2.2; rw[<-e,<-hd] at this; omega));clear htm;go_enter Tryz.func32,Tryz.ntmps32
    go_wp2
    go_ret
    exact⟨z04 (uh HZ).symm,0,rfl⟩
  ·have HZ:=zh (uh HN (fun h=>by have:=h.ge; have e:=(uh HE).2.2; omega))
   have l2:(s.size:Int) < p:=by omega
   go_enter Tryz.func32,Tryz.ntmps32
   go_wp2
   go_ret
   exact⟨z04 (uh HZ).symm,0,rfl⟩
 ·have HZ:=zh (uh HN (fun h=>q1 h.le))
  have l1:(64:Int) < s.size:=by omega
  go_enter Tryz.func32,Tryz.ntmps32
  go_wp2
  go_ret
  exact⟨z04 (uh HZ).symm,0,rfl⟩
set_option maxHeartbeats 400000 in
theorem ksplit_any (s:ByteArray) (c:UInt8) (w:World) (hs:s.size<=2000) :
  Calls Tryz.prog 39 #[.string s,.int .u8 c.toNat] w fun e w'=>∃v',e=.returned v'/\Strs w' v' (z0v c [] s.data.toList)/\Below w.heap.size w w':=by
 obtain⟨i0,hi0⟩:=info_parts Tryz.infoStr;have HI:=zh hi0;clear hi0;generalize hzz:z0v c [] s.data.toList=z;have HZ:=zh hzz;clear hzz;go_enter Tryz.func39,Tryz.ntmps39
 go_wp2
 go_loopw [5,6,7] (fun r fr i wr=>∃k f:Nat,∃g:List (List UInt8),k<=s.size/\f<=k/\i=.int .i64 k/\fr=.int .i64 f/\g.length<=f/\wr.ownsRow w.heap.size 9 1 r g.length (strsV g) ∧
   z=g++z0v c ((s.data.toList.take k).drop f) (s.data.toList.drop k)/\Below w.heap.size w wr) (fun _ _ i _=>s.size - (intOf i).toNat)
 case atStart=>exact⟨0,0,[],Nat.zero_le _,Nat.le_refl _,rfl,rfl,Nat.le_refl _,World.ownsRow_nil _ _ _ _,by simpa using (uh HZ).symm,Below.refl _ _⟩
 case round=>
  obtain⟨k,f,g,hk,hf,rfl,rfl,hg,hown,hq,hb⟩:=hrel;have HQ:=zh hq;have HB:=zh hb;have hsz:=hb.size;clear hq hb;by_cases hlt:k < s.size
  ·have HD:=zh (z5f s k hlt)
   by_cases hc:s[k]=c
   ·have hc':((s[k].toNat:Int)==(c.toNat:Int))=true:=by rw[hc]; simp
    have HC:=zh hc;clear hc;go_wp2_with (at_builtin; refine wpList_append_own _ rfl _ _ 22 rfl w.heap.size 9 i0 (.string ByteArray.empty) 1 16 Tryz.underlying22 (uh HI).1 (uh HI).2.1 (uh HI).2.2.1 (uh HI).2.2.2 rfl (by decide) _ _ _ rfl (hown.alloc _) ⟨wr.heap.size,0,none⟩ 1 1 [.string (s.extract f k)] rfl rfl (z0q _ _ _) (z0a rfl) (by unfold maxLen; omega) (by omega) (by simp; omega) ?_; intro v' w1 hown' hgrow _)
    have hb':=z0p (uh HB) (by omega) hown hgrow;clear hgrow hown;go_wp2
    refine⟨⟨k+1,k+1,g++[(s.data.toList.take k).drop f],by omega,by omega,by go_num,by go_num,by simp; omega,?_,?_,hb'⟩,by simp[intOf]; omega⟩
    ·rw[z5d,strV,<-z3d]; simpa using hown'
    ·rw[uh HQ,uh HD]; simp[z0v,uh HC]
   ·have hc':((s[k].toNat:Int)==(c.toNat:Int))=false:=by
     simp only[beq_eq_false_iff_ne,ne_eq];intro h; exact hc (UInt8.toNat_inj.1 (by omega))
    have HC:=zh hc;clear hc;go_wp2
    refine⟨⟨k+1,f,g,by omega,by omega,by go_num,by go_num,hg,hown,?_,uh HB⟩,by simp[intOf]; omega⟩;rw[uh HQ,uh HD,z5g s f k hlt hf]; simp[z0v,uh HC]
  ·obtain rfl:k=s.size:=by omega
   go_wp2_with (at_builtin; refine wpList_append_own _ rfl _ _ 22 rfl w.heap.size 9 i0 (.string ByteArray.empty) 1 16 Tryz.underlying22 (uh HI).1 (uh HI).2.1 (uh HI).2.2.1 (uh HI).2.2.2 rfl (by decide) _ _ _ rfl (hown.alloc _) ⟨wr.heap.size,0,none⟩ 1 1 [.string (s.extract f s.size)] rfl rfl (z0q _ _ _) (z0a rfl) (by unfold maxLen; omega) (by omega) (by simp; omega) ?_; intro v' w1 hown' hgrow _)
   have hb':=z0p (uh HB) (by omega) hown hgrow;have hz:=zh (show z=g++[(s.data.toList.take s.size).drop f] by
    have e:s.data.toList.drop s.size=[]:=List.drop_of_length_le (by simp);rw[uh HQ,e]; rfl)
   rw[z3d] at hown';have hfin:=zh (Strs.ofOwn (l:=g++[(s.data.toList.take s.size).drop f]) (by rw[z5d]; exact hown') (by simp));clear hgrow hown hown';go_wp2
   go_ret
   exact⟨v',rfl,by rw[uh hz]; exact uh hfin,hb'⟩
theorem z5l (c:UInt8):∀(l pre r:List UInt8),c ∉ l->z0v c pre (l++c :: r)=(pre++l) :: z0v c [] r
 | [],pre,r,_=>by
  show z0v c pre (c :: r)=_;rw[z0v,if_pos rfl,List.append_nil]
 | x :: l,pre,r,h=>by
  have hx:¬x=c:=fun e=>h (by rw[e]; exact List.mem_cons_self ..);show z0v c pre (x :: (l++c :: r))=_;rw[z0v,if_neg hx,z5l c l (pre++[x]) r (fun hm=>h (List.mem_cons_of_mem _ hm)),List.append_assoc];rfl
theorem splitA_end (c:UInt8):∀(l pre:List UInt8),c ∉ l->z0v c pre l=[pre++l]
 | [],pre,_=>by rw[z0v,List.append_nil]
 | x :: l,pre,h=>by
  have hx:¬x=c:=fun e=>h (by rw[e]; exact List.mem_cons_self ..);rw[z0v,if_neg hx,splitA_end c l (pre++[x]) (fun hm=>h (List.mem_cons_of_mem _ hm)),List.append_assoc];rfl
def tailS (t0 t1 t2 t3:ByteArray):List UInt8:=t0.data.toList++47 :: (t1.data.toList++47 :: (t2.data.toList++47 :: t3.data.toList))
def hearS (t0 t1 t2 t3:ByteArray):ByteArray:=⟨(61 :: tailS t0 t1 t2 t3).toArray⟩
theorem no_slash {t:ByteArray} (h:∀i,i < t.size->pk t i≠47):(47:UInt8) ∉ t.data.toList:=by
 intro hm;obtain⟨i,hi,he⟩:=List.mem_iff_getElem.1 hm;have hi':i < t.size:=by simpa using hi
 have:=h i hi';rw[<-z18 t i hi'] at this;apply this;have e:t[i]=47:=he;rw[e]; rfl
theorem bytes_back (t:ByteArray):(⟨t.data.toList.toArray⟩:ByteArray)=t:=by
 obtain⟨⟨l⟩⟩:=t; rfl
structure HearOK (L:Lay) (s t0 t1 t2 t3:ByteArray):Prop where
 s0:t0.size=L.rts.length
 s1:t1.size=cntT L.sw
 s2:t2.size=(s.size - L.bgn) / 2
 s3:t3.size<=1000
 b0:∀i,i < t0.size->pk t0 i=103\/pk t0 i=114
 b1:∀i,i < t1.size->pk t1 i=43\/pk t1 i=45\/pk t1 i=46
 b2:∀i,i < t2.size->pk t2 i≠47
 b3:∀i,i < t3.size->49<=pk t3 i/\pk t3 i < 49+L.tns.length
 r:L.rts.length<=100
 sw:L.sw.length<=100
 tn:L.tns.length<=100
theorem HearOK.parts {L:Lay} {s t0 t1 t2 t3:ByteArray} (h:HearOK L s t0 t1 t2 t3) (h64:s.size<=64):z0v 47 [] ((hearS t0 t1 t2 t3).extract 1 (hearS t0 t1 t2 t3).size).data.toList=[t0.data.toList,t1.data.toList,t2.data.toList,t3.data.toList]/\(hearS t0 t1 t2 t3).size<=1400:=by
 have e:((hearS t0 t1 t2 t3).extract 1 (hearS t0 t1 t2 t3).size).data.toList=tailS t0 t1 t2 t3:=by
  rw[z3d,List.take_of_length_le (by simp)];rfl
 have hsz:(hearS t0 t1 t2 t3).size=t0.size+t1.size+t2.size+t3.size+4:=by
  show (61 :: tailS t0 t1 t2 t3).toArray.size=_;simp[tailS];omega
 have hb:=h.s2;have hc:cntT L.sw<=L.sw.length:=by unfold cntT; exact List.length_filter_le _ _
 have h1:=h.s0;have h2:=h.s1;have h3:=h.s3;have h4:=h.r;have h5:=h.sw;refine⟨?_,by omega⟩;rw[e];unfold tailS;rw[z5l _ _ _ _ (no_slash (fun i hi=>by have:=h.b0 i hi; omega)),z5l _ _ _ _ (no_slash (fun i hi=>by have:=h.b1 i hi; omega)),z5l _ _ _ _ (no_slash h.b2),splitA_end _ _ _ (no_slash (fun i hi=>by have:=h.b3 i hi; have:=h.b3 i hi; omega))];rfl
theorem khear_no (g:Nat) (L:Lay) (s:ByteArray) (w:World) (h:KPl w g L) (hn:L.sw.length<=1000) (hsm:s.size<=maxLen) (hf:L.frameB s=false) :
  Calls Tryz.prog 12 #[.pointer (some ⟨g,0,none⟩),.string s,.string ⟨#[33]⟩] w fun e w'=>e=.returned (.tuple #[.pointer none,.bool true])/\Below w.heap.size w w':=by
 have HG:=zh (kgood_any g L s w h hn hsm);rw[hf] at HG;clear h hf;go_enter Tryz.func12,Tryz.ntmps12
 go_wp2_with fail
 refine(uh HG).mono ?_;rintro e w1 ⟨rfl,m,hw⟩;have HB:=zh (show Below w.heap.size w w1 by rw[hw]; exact below_drewN (Below.refl _ _) _);clear hw;go_wp2
 go_ret2
 exact⟨rfl,uh HB⟩
def heardO (t0 t1 t2 t3:ByteArray):Obj:=.cells #[.string t0,.string t1,.string t2,.string t3] 44 (0,0)
def HearP (w w':World) (e:Ending) (t0 t1 t2 t3:ByteArray):Prop:=∃gh,e=.returned (.tuple #[.pointer (some ⟨gh,0,none⟩),.bool true])/\w.heap.size<=gh/\w'.heap[gh]?=some (heardO t0 t1 t2 t3)/\Below w.heap.size w w'
set_option maxRecDepth 100000 in
set_option maxHeartbeats 8000000 in
theorem khear_yes (g:Nat) (L:Lay) (s t0 t1 t2 t3:ByteArray) (w:World) (h:KPl w g L) (hf:L.frameB s=true) (hO:HearOK L s t0 t1 t2 t3) :
  Calls Tryz.prog 12 #[.pointer (some ⟨g,0,none⟩),.string s,.string (hearS t0 t1 t2 t3)] w fun e w'=>HearP w w' e t0 t1 t2 t3:=by
 have hgd:=(z53 L s).1 hf;have h64:=hgd.le;have HG:=zh (kgood_any g L s w h (by have:=hO.sw; omega) (by unfold maxLen; omega));rw[hf] at HG;obtain⟨hsp,hsz⟩:=hO.parts h64;have HSP:=zh (fun (wz:World)=>ksplit_any ((hearS t0 t1 t2 t3).extract 1 (hearS t0 t1 t2 t3).size) 47 wz (by rw[z2v]; omega));rw[hsp] at HSP;have HCM:=zh (fun (wz:World) (hz:Below w.heap.size w wz)=>kcommands_any g L s wz (h.below hz) hgd.ge (by omega));have HCS:=zh (show (s.extract L.bgn s.size).size=s.size - L.bgn from z2v s L.bgn);obtain⟨U,hU⟩:∃U,U=hearS t0 t1 t2 t3:=⟨_,rfl⟩
 have hU0:pk U 0=61:=by rw[hU]; rfl
 rw[<-hU] at hsz HSP ⊢;have hUp:0 < U.size:=by
  rcases Nat.eq_zero_or_pos U.size with e | e
  ·rw[hU] at e; exact absurd e (by show (61 :: tailS t0 t1 t2 t3).toArray.size≠0; simp)
  ·exact e
 have hU1:U[0].toNat=61:=(z18 U 0 hUp).trans hU0;have hE2:¬U.toList=[]:=by
  rw[ByteArray.toList_eq];intro e;have:U.data.toList.length=0:=by rw[e]; rfl
  have h2:U.data.toList.length=U.size:=by simp
  omega
 have hE:U.toList.isEmpty=false:=by simpa using hE2
 obtain⟨vh,vp,vf,va,vk,vw,vs,vj,e,a1,a2,a3,a4,a5,a6,a7,a8⟩:=h;have HKO:=zh e;obtain⟨af,cf,rfl,-⟩:=SlAt.open a3;obtain⟨ap,cp,rfl,-⟩:=SlAt.open a2;obtain⟨ass,css,rfl,-⟩:=SlAt.open a7;rw[List.length_map] at HKO;rw[List.length_map] at HKO;rw[z44] at HKO;have HO:=zh hO;clear a1 a2 a3 a4 a5 a6 a7 a8 e hO hgd hU hU0 hsp hf;go_enter Tryz.func12,Tryz.ntmps12
 go_wp2_with fail
 refine(uh HG).mono ?_;rintro e w1 ⟨rfl,m,hw⟩;have HB:=zh (show Below w.heap.size w w1 by rw[hw]; exact below_drewN (Below.refl _ _) _);clear hw HG;have s1:(1:Int)<=U.size:=by omega
 have s0:(0:Int) < U.size:=by omega
 go_wp2_with fail
 refine(uh HSP _).mono ?_;rintro e w2 ⟨vl,rfl,hS,hb2⟩;have HB2:=zh ((uh HB).trans (hb2.mono (uh HB).size));obtain⟨al,cl,rfl,-,-,hl⟩:=SlAt.open hS;obtain⟨gl,ol,rfl,hgl,cs0,-,e0,k0⟩:=hl 0 (by simp);obtain⟨gl1,ol1,q1,-,cs1,-,e1,k1⟩:=hl 1 (by simp);obtain⟨gl2,ol2,q2,-,cs2,-,e2,k2⟩:=hl 2 (by simp);obtain⟨gl3,ol3,q3,-,cs3,-,e3,k3⟩:=hl 3 (by simp);simp only[Option.some.injEq,Addr.mk.injEq,and_true] at q1 q2 q3;obtain⟨rfl,rfl⟩:=q1;obtain⟨rfl,rfl⟩:=q2;obtain⟨rfl,rfl⟩:=q3;have e0':cs0=[.string ⟨t0.data.toList.toArray⟩]:=e0;have e1':cs1=[.string ⟨t1.data.toList.toArray⟩]:=e1;have e2':cs2=[.string ⟨t2.data.toList.toArray⟩]:=e2;have e3':cs3=[.string ⟨t3.data.toList.toArray⟩]:=e3;rw[bytes_back] at e0' e1' e2' e3';subst e0' e1' e2' e3';have m0:=k0 0 (by decide);have m1:=k1 0 (by decide);have m2:=k2 0 (by decide);have m3:=k3 0 (by decide);simp at m0 m1 m2 m3;have hk2:=(((uh HB).trans (hb2.mono (uh HB).size)).block g (z0g (uh HKO))).trans (uh HKO);obtain⟨⟨-,-,-,-,c4,c5,-,-,-,c9,-⟩,hg2⟩:=z0k hk2;have HC2:=zh (fun n=>uh HCM (w2.drewN n) (below_drewN (uh HB2) n));have hO:=uh HO;obtain⟨hs0,hs1,hs2,hs3,hb0,hb1,hb22,hb3,hr,hsw,htn⟩:=hO;have HB0:=zh hb0;have HB1:=zh hb1;have HB3:=zh hb3;have hcs:=uh HCS;obtain⟨CM,hCM⟩:∃CM,CM=s.extract L.bgn s.size:=⟨_,rfl⟩
 rw[<-hCM] at HC2 hcs;have hs2':t2.size=CM.size / 2:=by rw[hcs]; exact hs2
 rw[<-hs0] at c5;rw[<-hs1] at c4;have hcn:t1.size<=100:=by rw[hs1]; have:cntT L.sw<=L.sw.length:=by { unfold cntT; exact List.length_filter_le _ _ }; omega
 have hr0:t0.size<=100:=by omega
 have hcm:CM.size<=64:=by omega
 obtain⟨nt,hnt⟩:∃n,n=L.tns.length:=⟨_,rfl⟩
 rw[<-hnt] at c9 HB3 htn;have b3:((t2.size:Int) != ((CM.size / 2:Nat):Int))=false:=by rw[hs2']; simp
 have b4:(CM.size:Int).tdiv 2=((CM.size / 2:Nat):Int):=(Int.ofNat_tdiv CM.size 2).symm;clear hb2 hS hl e0 e1 e2 e3 k0 k1 k2 k3 hk2 hs0 hs1 hs2 hb0 hb1 hb22 hb3 hCM hnt HCM HSP HCS;go_wp2
 go_quiet ((go_at_call 40; exact Calls.quiet_of (uh HC2 _)))
 have HB3w:=zh (below_drewN (uh HB2) nq);go_wp2
 go_loop [10] (fun i=>∃k:Nat,k<=t0.size/\i=.int .i64 k) (fun i=>t0.size - (intOf i).toNat)
 case atStart=>exact⟨0,Nat.zero_le _,rfl⟩
 case round=>
  obtain⟨k,hk,rfl⟩:=hrel;by_cases hlt:k < t0.size
  ·obtain⟨z,hz⟩:∃z,t0[k].toNat=z:=⟨_,rfl⟩
   have hpz:z=103\/z=114:=by
    have:=uh HB0 k hlt;rw[<-z18 t0 k hlt,hz] at this;exact this
   have l3:(k:Int) < t0.size:=by omega
   rcases hpz with rfl | rfl
   ·go_wp2
    exact⟨⟨k+1,by omega,by go_num⟩,by simp[intOf]; omega⟩
   ·go_wp2
    exact⟨⟨k+1,by omega,by go_num⟩,by simp[intOf]; omega⟩
  ·have l3:¬(k:Int) < t0.size:=by omega
   go_wp2
   go_loop [11] (fun i=>∃k:Nat,k<=t1.size/\i=.int .i64 k) (fun i=>t1.size - (intOf i).toNat)
   case atStart=>exact⟨0,Nat.zero_le _,rfl⟩
   case round=>
    obtain⟨k,hk,rfl⟩:=hrel;by_cases hlt:k < t1.size
    ·obtain⟨z,hz⟩:∃z,t1[k].toNat=z:=⟨_,rfl⟩
     have hpz:z=43\/z=45\/z=46:=by
      have:=uh HB1 k hlt;rw[<-z18 t1 k hlt,hz] at this;exact this
     have l4:(k:Int) < t1.size:=by omega
     rcases hpz with rfl | rfl | rfl
     ·go_wp2
      exact⟨⟨k+1,by omega,by go_num⟩,by simp[intOf]; omega⟩
     ·go_wp2
      exact⟨⟨k+1,by omega,by go_num⟩,by simp[intOf]; omega⟩
     ·go_wp2
      exact⟨⟨k+1,by omega,by go_num⟩,by simp[intOf]; omega⟩
    ·have l4:¬(k:Int) < t1.size:=by omega
     go_wp2
     go_loopw [12] (fun i wr=>∃k mm:Nat,k<=t3.size/\i=.int .i64 k/\wr=w2.drewN mm) (fun i _=>t3.size - (intOf i).toNat)
     case atStart=>exact⟨0,nq,Nat.zero_le _,rfl,rfl⟩
     case round=>
      obtain⟨k,mm,hk,rfl,hwr⟩:=hrel;have HWR:=zh hwr;have n0:wr.cell? ⟨gl,ol,none⟩=some (.string t0):=by rw[hwr]; exact m0
      have n1:wr.cell? ⟨gl,ol+1,none⟩=some (.string t1):=by rw[hwr]; exact m1
      have n2:wr.cell? ⟨gl,ol+2,none⟩=some (.string t2):=by rw[hwr]; exact m2
      have n3:wr.cell? ⟨gl,ol+3,none⟩=some (.string t3):=by rw[hwr]; exact m3
      have n9:wr.cell? ⟨g,9,none⟩=some (.slice ass nt css):=by rw[hwr]; exact c9
      have ng:gl < wr.heap.size:=by rw[hwr]; exact hgl
      clear hwr;by_cases hlt:k < t3.size
      ·obtain⟨z,hz⟩:∃z,t3[k].toNat=z:=⟨_,rfl⟩
       have hpz:49<=z/\z < 49+nt:=by
        have:=uh HB3 k hlt;rw[<-z18 t3 k hlt,hz] at this;exact this
       have l5:(k:Int) < t3.size:=by omega
       have l6:¬(z:Int) < 49:=by omega
       have l6b:decide ((z:Int) < 49)=false:=by simp; omega
       obtain⟨y,hy⟩:∃y,y=z - 49:=⟨_,rfl⟩
       have hzy:(z:Int) - 49=y:=by omega
       have l7:¬(nt:Int)<=y:=by omega
       have hyb:y<=100:=by omega
       go_wp2
       have wz:IntKind.i64.wrap (z:Int)=z:=Go.IntWalk.i64_in _ (by omega);have wy:IntKind.i64.wrap (y:Int)=y:=Go.IntWalk.i64_in _ (by omega);go_quiet (fail)
       go_wp2
       exact⟨⟨k+1,mm+nq,by omega,by go_num,by rw[uh HWR]; exact z1h _ _ _⟩,by simp[intOf]; omega⟩
      ·have l5:¬(k:Int) < t3.size:=by omega
       go_wp2
       go_region
       have HBz:=zh (show Below w.heap.size w wr by rw[uh HWR]; exact below_drewN (uh HB2) mm);go_wp2
       go_ret2
       exact⟨wr.heap.size,rfl,(uh HBz).size,heap_alloc_new _ _,((uh HBz).alloc (uh HBz).size _).drew⟩
theorem timesZ_nat (l:List Nat) (s:Nat):z26 l s=((l.filter (·==s)).length:Int):=by
 unfold z26;have:(fun y:Nat=>((y:Int)==(s:Int)))=(·==s):=by
  funext y; rw[Bool.eq_iff_iff]; simp; omega
 rw[this]
theorem secs_at (p:List (Nat×Nat)) (k:Nat) (h:k < p.length) (h':k < (secs p).length):(secs p)[k]=(p.getD k (0,0)).1:=by
 simp[secs,List.getD_eq_getElem?_getD,List.getElem?_eq_getElem h]
theorem signs_at (p:List (Nat×Nat)) (k:Nat) (h:k < p.length) (h':k < (signs p).length):(signs p)[k]=(p.getD k (0,0)).2:=by
 simp[signs,List.getD_eq_getElem?_getD,List.getElem?_eq_getElem h]
theorem z3v (p:Nat->Bool) (n:Nat):(List.range (n+1)).any p=((List.range n).any p||p n):=by
 rw[List.range_succ,List.any_append]; simp
theorem z3w (p:Nat->Bool) (n k:Nat) (h:k < n) (hp:p k=true):(List.range n).any p=true:=
 List.any_eq_true.2 ⟨k,List.mem_range.2 h,hp⟩
theorem sw_at (l:List Bool) (s:Nat) (h:s < l.length):l.getD s false=l[s]:=by
 simp[List.getD_eq_getElem?_getD,List.getElem?_eq_getElem h]
set_option maxHeartbeats 4000000 in
theorem crooked_any (v:Value) (L:Lay) (r:Rt) (vp vs vf vl:Value) (w:World) (h:RPlan w v L) (hr:CRRt w r [.int .i64 r.foot,vp,vs,vf,vl]) (hp:L.Paths) :
  Calls Tryz.prog 96 #[v,.agg #[.int .i64 r.foot,vp,vs,vf,vl]] w fun e w'=>e=.returned (.bool (L.crooked r))/\Below w.heap.size w w':=by
 have HR:=zh h;obtain⟨vh,vr,vt,rfl,hH,-,-⟩:=h;obtain⟨aoh,caph,rfl,h1,h2,h3⟩:=SlAt.open hH;obtain⟨_,_,_,_,he,hP,hS,hF,hL⟩:=hr;simp only[List.cons.injEq,and_true,true_and] at he;obtain⟨rfl,rfl,rfl,rfl⟩:=he;have HP:=zh hP;have HF:=zh hF;obtain⟨aop,capp,rfl,p1,p2,p3⟩:=SlAt.open hP;obtain⟨aos,caps,rfl,s1,s2,s3⟩:=SlAt.open hS;obtain⟨aof,capf,rfl,f1,f2,f3⟩:=SlAt.open hF;have HPS:=zh hp;clear hH hP hS hF hL hp;unfold maxLen at h2 p2 s2 f2;generalize hzz:L.crooked r=z;have HZ:=zh hzz;clear hzz;by_cases c0:L.sw.length<=r.foot
 ·have hz:=zh (show z=true by rw[<-uh HZ]; simp[Lay.crooked,c0])
  clear h3 p3 s3 f3;go_enter Tryz.func96,Tryz.ntmps96
  go_wp2
  go_ret
  exact⟨z04 (uh hz).symm,z08 (Below.refl _ _)⟩
 have HZ2:=zh (show z=((List.range r.path.length).any (L.badPath r)||(List.range r.flank.length).any (L.badFlank r)) by rw[<-uh HZ]; simp[Lay.crooked,c0]);clear HZ;have hpl:(secs r.path).length=r.path.length:=by simp[secs]
 have hsl:(signs r.path).length=r.path.length:=by simp[signs]
 have hfl:(secs r.flank).length=r.flank.length:=by simp[secs]
 have HPL:=zh hpl;have HSL:=zh hsl;have HFL:=zh hfl;clear hpl hsl hfl;go_enter Tryz.func96,Tryz.ntmps96
 go_wp2
 go_loopw [5] (fun i wr=>∃k:Nat,k<=(secs r.path).length/\i=.int .i64 k/\(List.range k).any (L.badPath r)=false ∧
   Below (w.heap.size+2) ((w.alloc (z1k L (.slice aoh L.sw.length caph) vr vt)).alloc (rrtBox r (.slice aop (secs r.path).length capp) (.slice aos (signs r.path).length caps) (.slice aof (secs r.flank).length capf) vl)) wr) (fun i _=>(secs r.path).length - (intOf i).toNat)
 case atStart=>exact⟨0,Nat.zero_le _,rfl,rfl,Below.refl _ _⟩
 case round=>
  obtain⟨k,hk,rfl,hz,hb⟩:=hrel;have HQ:=zh hz;have HB:=zh hb;obtain⟨q0,q1,q2,q3,q4,q5⟩:=z2s hb;obtain⟨y0,y1,y2,y3,y4⟩:=two_rrt hb;have qs:=z1r hb;clear hz;by_cases hlt:k < (secs r.path).length
  ·have hlt':k < r.path.length:=by have:=uh HPL; omega
   have hlts:k < (signs r.path).length:=by have:=uh HSL; omega
   obtain⟨gp,offp,hao,hgp,cs,-,hC,hc⟩:=p3 k hlt;subst hao;unfold CInt at hC;subst hC;have hc0:=hc 0 (by omega);rw[<-(z08 hb).cell (p:=⟨gp,_,none⟩) hgp] at hc0;obtain⟨gs,offs,hao,hgs,cs2,-,hC2,hd⟩:=s3 k hlts;subst hao;unfold CByte at hC2;subst hC2;have hd0:=hd 0 (by omega);rw[<-(z08 hb).cell (p:=⟨gs,_,none⟩) hgs] at hd0;have HBP:=zh (show L.badPath r k=(decide (L.sw.length<=(secs r.path)[k])||decide ((1:Int) < z26 (secs r.path) (secs r.path)[k])||(secs r.path)[k]==r.foot||(L.sw.getD (secs r.path)[k] false != ((signs r.path)[k] != 0))) by
    rw[timesZ_nat,secs_at _ _ hlt' hlt,signs_at _ _ hlt' hlts,Lay.badPath]
    congr 3
    rw[decide_eq_decide]; omega)
   have HIP:=zh ((uh HP).below (z08 hb));simp at hc0 hd0;clear hc hd p3 s3 f3 hb;generalize (secs r.path)[k]=s at *;generalize (signs r.path)[k]=sg at *;generalize htz:z26 (secs r.path) s=n at *;have HT:=zh htz;clear htz;have hb3:=zh (z08 (uh HB));have HTR:=zh (fun (h:L.badPath r k=true)=>show z=true by rw[uh HZ2,z3w _ _ k hlt' h,Bool.true_or]);by_cases c1:L.sw.length<=s
   ·have hz:=zh (uh HTR (by rw[uh HBP]; simp[c1]))
    have d1:decide ((L.sw.length:Int)<=(s:Int))=true:=by simp; omega
    go_wp2_with (go_at_call 138; refine(z12 _ _ _ _ (uh HIP)).mono ?_; rw[uh HT]; rintro e w' ⟨rfl,rfl⟩)
    go_quiet (fail)
    go_wp2
    go_ret
    exact⟨z04 (uh hz).symm,below_drewN (uh hb3) _⟩
   have d1:decide ((L.sw.length:Int)<=(s:Int))=false:=by simp; omega
   by_cases c2:1 < n
   ·have hz:=zh (uh HTR (by rw[uh HBP]; simp[c2]))
    have d2:decide ((1:Int) < n)=true:=by simp; omega
    go_wp2_with (go_at_call 138; refine(z12 _ _ _ _ (uh HIP)).mono ?_; rw[uh HT]; rintro e w' ⟨rfl,rfl⟩)
    go_quiet (fail)
    go_wp2
    go_ret
    exact⟨z04 (uh hz).symm,below_drewN (uh hb3) _⟩
   have d2:decide ((1:Int) < n)=false:=by simp; omega
   by_cases c3:s=r.foot
   ·have hz:=zh (uh HTR (by rw[uh HBP]; simp[c3]))
    have d3:((s:Int)==(r.foot:Int))=true:=by simp; omega
    clear c3;go_wp2_with (go_at_call 138; refine(z12 _ _ _ _ (uh HIP)).mono ?_; rw[uh HT]; rintro e w' ⟨rfl,rfl⟩)
    go_quiet (fail)
    go_wp2
    go_ret
    exact⟨z04 (uh hz).symm,below_drewN (uh hb3) _⟩
   have d3:((s:Int)==(r.foot:Int))=false:=by simp; omega
   have hss:s < L.sw.length:=by omega
   obtain⟨gh,offh,hao,hgh,cs3,-,hC3,he⟩:=h3 s hss;subst hao;unfold CBool at hC3;subst hC3;have he0:=he 0 (by omega);rw[<-(z08 (uh HB)).cell (p:=⟨gh,_,none⟩) hgh] at he0;rw[sw_at _ _ hss] at HBP;simp at he0;clear he h3;generalize L.sw[s]=b at *;have hBP:=zh (show L.badPath r k=(b != (sg != 0)) by rw[uh HBP]; simp[c1,c2,c3]);clear HBP;have hz0:(0:Int)<=s:=by omega
   have hz1:(s:Int) < L.sw.length:=by omega
   have HAS:=zh (z3v (L.badPath r) k);have hbc:b=true\/b=false:=by cases b <;> simp
   rcases hbc with rfl | rfl <;> by_cases hs0:sg=0
   ·have hz:=zh (uh HTR (by rw[uh hBP]; simp[hs0]))
    have d4:((sg:Int) != 0)=false:=by simp; omega
    clear hs0;go_wp2_with (go_at_call 138; refine(z12 _ _ _ _ (uh HIP)).mono ?_; rw[uh HT]; rintro e w' ⟨rfl,rfl⟩)
    go_quiet (fail)
    go_wp2
    go_ret
    exact⟨z04 (uh hz).symm,below_drewN (uh hb3) _⟩
   ·have hz:=zh (show L.badPath r k=false by rw[uh hBP]; simp[hs0])
    have d4:((sg:Int) != 0)=true:=by simp; omega
    clear hs0;go_wp2_with (go_at_call 138; refine(z12 _ _ _ _ (uh HIP)).mono ?_; rw[uh HT]; rintro e w' ⟨rfl,rfl⟩)
    go_quiet (fail)
    go_wp2
    exact⟨⟨k+1,by omega,by go_num,by rw[uh HAS,uh HQ,uh hz]; rfl,below_drewN (uh HB) _⟩,by simp[intOf]; omega⟩
   ·have hz:=zh (show L.badPath r k=false by rw[uh hBP]; simp[hs0])
    have d4:((sg:Int) != 0)=false:=by simp; omega
    clear hs0;go_wp2_with (go_at_call 138; refine(z12 _ _ _ _ (uh HIP)).mono ?_; rw[uh HT]; rintro e w' ⟨rfl,rfl⟩)
    go_quiet (fail)
    go_wp2
    exact⟨⟨k+1,by omega,by go_num,by rw[uh HAS,uh HQ,uh hz]; rfl,below_drewN (uh HB) _⟩,by simp[intOf]; omega⟩
   ·have hz:=zh (uh HTR (by rw[uh hBP]; simp[hs0]))
    have d4:((sg:Int) != 0)=true:=by simp; omega
    clear hs0;go_wp2_with (go_at_call 138; refine(z12 _ _ _ _ (uh HIP)).mono ?_; rw[uh HT]; rintro e w' ⟨rfl,rfl⟩)
    go_quiet (fail)
    go_wp2
    go_ret
    exact⟨z04 (uh hz).symm,below_drewN (uh hb3) _⟩
  ·have HZ3:=zh (show z=(List.range r.flank.length).any (L.badFlank r) by
    have hk':k=r.path.length:=by have:=uh HPL; omega
    rw[uh HZ2,<-hk',uh HQ,Bool.false_or])
   clear HZ2 hb;go_wp2
   go_loopw [8] (fun i wr=>∃k:Nat,k<=(secs r.flank).length/\i=.int .i64 k/\(List.range k).any (L.badFlank r)=false ∧
     Below (w.heap.size+2) ((w.alloc (z1k L (.slice aoh L.sw.length caph) vr vt)).alloc (rrtBox r (.slice aop (secs r.path).length capp) (.slice aos (signs r.path).length caps) (.slice aof (secs r.flank).length capf) vl)) wr) (fun i _=>(secs r.flank).length - (intOf i).toNat)
   case atStart=>exact⟨0,Nat.zero_le _,rfl,rfl,uh HB⟩
   case round=>
   clear HQ HB q0 q1 q2 q3 q4 q5 y0 y1 y2 y3 y4 qs hk hlt;obtain⟨k,hk,rfl,hz,hb⟩:=hrel;have HQ:=zh hz;have HB:=zh hb;obtain⟨q0,q1,q2,q3,q4,q5⟩:=z2s hb;obtain⟨y0,y1,y2,y3,y4⟩:=two_rrt hb;have qs:=z1r hb;clear hz;by_cases hlt:k < (secs r.flank).length
   ·have hlt':k < r.flank.length:=by have:=uh HFL; omega
    obtain⟨gf,offf,hao,hgf,cs,-,hC,hc⟩:=f3 k hlt;subst hao;unfold CInt at hC;subst hC;have hc0:=hc 0 (by omega);rw[<-(z08 hb).cell (p:=⟨gf,_,none⟩) hgf] at hc0;have HBP:=zh (show L.badFlank r k=(decide (L.sw.length<=(secs r.flank)[k])||decide ((1:Int) < z26 (secs r.flank) (secs r.flank)[k])||decide ((0:Int) < z26 (secs r.path) (secs r.flank)[k])||L.endsB (secs r.flank)[k]||!L.sw.getD (secs r.flank)[k] false) by
     rw[times_has,timesZ_nat,secs_at _ _ hlt' hlt,Lay.badFlank]
     congr 4
     rw[decide_eq_decide]; omega)
    have HIP:=zh ((uh HP).below (z08 hb));have HIF:=zh ((uh HF).below (z08 hb));simp at hc0;clear hc p3 s3 f3 hb;generalize (secs r.flank)[k]=s at *;generalize htz:z26 (secs r.flank) s=n at *;have HT:=zh htz;clear htz;generalize htz:z26 (secs r.path) s=m at *;have HM:=zh htz;clear htz;generalize htz:L.endsB s=eb at *;have HE:=zh htz;clear htz;have HTR:=zh (fun (h:L.badFlank r k=true)=>show z=true by rw[uh HZ3]; exact z3w _ _ k hlt' h);have HAS:=zh (z3v (L.badFlank r) k);by_cases c1:L.sw.length<=s
    ·have hz:=zh (uh HTR (by rw[uh HBP]; simp[c1]))
     have d1:decide ((L.sw.length:Int)<=(s:Int))=true:=by simp; omega
     go_wp2_with fail
     refine(z12 _ _ _ _ (uh HIF)).mono ?_;rw[uh HT];rintro e w' ⟨rfl,rfl⟩;go_wp2_with fail
     refine(z12 _ _ _ _ (uh HIP)).mono ?_;rw[uh HM];rintro e w' ⟨rfl,rfl⟩;go_wp2_with fail
     refine(ends_any _ L s _ ((uh HR).below (z08 (uh HB))) (uh HPS)).mono ?_;rw[uh HE];rintro e w1 ⟨rfl,hb1⟩;have hb5:=(uh HB).trans (hb1.mono (B':=w.heap.size+2) (by omega));clear q0 q1 q2 q3 q4 q5 y0 y1 y2 y3 y4 hc0;obtain⟨q0,q1,q2,q3,q4,q5⟩:=z2s hb5;have hb6:=zh (z08 hb5);have HB5:=zh hb5;clear hb1 hb5;go_wp2
     go_ret
     exact⟨z04 (uh hz).symm,uh hb6⟩
    have d1:decide ((L.sw.length:Int)<=(s:Int))=false:=by simp; omega
    by_cases c2:1 < n
    ·have hz:=zh (uh HTR (by rw[uh HBP]; simp[c2]))
     have d2:decide ((1:Int) < n)=true:=by simp; omega
     go_wp2_with fail
     refine(z12 _ _ _ _ (uh HIF)).mono ?_;rw[uh HT];rintro e w' ⟨rfl,rfl⟩;go_wp2_with fail
     refine(z12 _ _ _ _ (uh HIP)).mono ?_;rw[uh HM];rintro e w' ⟨rfl,rfl⟩;go_wp2_with fail
     refine(ends_any _ L s _ ((uh HR).below (z08 (uh HB))) (uh HPS)).mono ?_;rw[uh HE];rintro e w1 ⟨rfl,hb1⟩;have hb5:=(uh HB).trans (hb1.mono (B':=w.heap.size+2) (by omega));clear q0 q1 q2 q3 q4 q5 y0 y1 y2 y3 y4 hc0;obtain⟨q0,q1,q2,q3,q4,q5⟩:=z2s hb5;have hb6:=zh (z08 hb5);have HB5:=zh hb5;clear hb1 hb5;go_wp2
     go_ret
     exact⟨z04 (uh hz).symm,uh hb6⟩
    have d2:decide ((1:Int) < n)=false:=by simp; omega
    by_cases c3:0 < m
    ·have hz:=zh (uh HTR (by rw[uh HBP]; simp[c3]))
     have d3:decide ((0:Int) < m)=true:=by simp; omega
     go_wp2_with fail
     refine(z12 _ _ _ _ (uh HIF)).mono ?_;rw[uh HT];rintro e w' ⟨rfl,rfl⟩;go_wp2_with fail
     refine(z12 _ _ _ _ (uh HIP)).mono ?_;rw[uh HM];rintro e w' ⟨rfl,rfl⟩;go_wp2_with fail
     refine(ends_any _ L s _ ((uh HR).below (z08 (uh HB))) (uh HPS)).mono ?_;rw[uh HE];rintro e w1 ⟨rfl,hb1⟩;have hb5:=(uh HB).trans (hb1.mono (B':=w.heap.size+2) (by omega));clear q0 q1 q2 q3 q4 q5 y0 y1 y2 y3 y4 hc0;obtain⟨q0,q1,q2,q3,q4,q5⟩:=z2s hb5;have hb6:=zh (z08 hb5);have HB5:=zh hb5;clear hb1 hb5;go_wp2
     go_ret
     exact⟨z04 (uh hz).symm,uh hb6⟩
    have d3:decide ((0:Int) < m)=false:=by simp; omega
    have hec:eb=true\/eb=false:=by cases eb <;> simp
    rcases hec with rfl | rfl
    ·have hz:=zh (uh HTR (by rw[uh HBP]; simp))
     go_wp2_with fail
     refine(z12 _ _ _ _ (uh HIF)).mono ?_;rw[uh HT];rintro e w' ⟨rfl,rfl⟩;go_wp2_with fail
     refine(z12 _ _ _ _ (uh HIP)).mono ?_;rw[uh HM];rintro e w' ⟨rfl,rfl⟩;go_wp2_with fail
     refine(ends_any _ L s _ ((uh HR).below (z08 (uh HB))) (uh HPS)).mono ?_;rw[uh HE];rintro e w1 ⟨rfl,hb1⟩;have hb5:=(uh HB).trans (hb1.mono (B':=w.heap.size+2) (by omega));clear q0 q1 q2 q3 q4 q5 y0 y1 y2 y3 y4 hc0;obtain⟨q0,q1,q2,q3,q4,q5⟩:=z2s hb5;have hb6:=zh (z08 hb5);have HB5:=zh hb5;clear hb1 hb5;go_wp2
     go_ret
     exact⟨z04 (uh hz).symm,uh hb6⟩
    have hss:s < L.sw.length:=by omega
    obtain⟨gh,offh,hao,hgh,cs3,-,hC3,he⟩:=h3 s hss;subst hao;unfold CBool at hC3;subst hC3;have he0:=he 0 (by omega);rw[sw_at _ _ hss] at HBP;simp at he0;clear he h3;generalize L.sw[s]=b at *;have hBP:=zh (show L.badFlank r k=!b by rw[uh HBP]; simp[c1,c2,c3]);clear HBP;have hz0:(0:Int)<=s:=by omega
    have hz1:(s:Int) < L.sw.length:=by omega
    have hbc:b=true\/b=false:=by cases b <;> simp
    rcases hbc with rfl | rfl
    ·have hz:=zh (show L.badFlank r k=false by rw[uh hBP]; rfl)
     go_wp2_with fail
     refine(z12 _ _ _ _ (uh HIF)).mono ?_;rw[uh HT];rintro e w' ⟨rfl,rfl⟩;go_wp2_with fail
     refine(z12 _ _ _ _ (uh HIP)).mono ?_;rw[uh HM];rintro e w' ⟨rfl,rfl⟩;go_wp2_with fail
     refine(ends_any _ L s _ ((uh HR).below (z08 (uh HB))) (uh HPS)).mono ?_;rw[uh HE];rintro e w1 ⟨rfl,hb1⟩;have hb5:=(uh HB).trans (hb1.mono (B':=w.heap.size+2) (by omega));clear q0 q1 q2 q3 q4 q5 y0 y1 y2 y3 y4 hc0;obtain⟨q0,q1,q2,q3,q4,q5⟩:=z2s hb5;have hb6:=zh (z08 hb5);have HB5:=zh hb5;clear hb1 hb5;rw[<-(uh hb6).cell (p:=⟨gh,_,none⟩) hgh] at he0;go_wp2
     exact⟨⟨k+1,by omega,by go_num,by rw[uh HAS,uh HQ,uh hz]; rfl,uh HB5⟩,by simp[intOf]; omega⟩
    ·have hz:=zh (uh HTR (by rw[uh hBP]; rfl))
     go_wp2_with fail
     refine(z12 _ _ _ _ (uh HIF)).mono ?_;rw[uh HT];rintro e w' ⟨rfl,rfl⟩;go_wp2_with fail
     refine(z12 _ _ _ _ (uh HIP)).mono ?_;rw[uh HM];rintro e w' ⟨rfl,rfl⟩;go_wp2_with fail
     refine(ends_any _ L s _ ((uh HR).below (z08 (uh HB))) (uh HPS)).mono ?_;rw[uh HE];rintro e w1 ⟨rfl,hb1⟩;have hb5:=(uh HB).trans (hb1.mono (B':=w.heap.size+2) (by omega));clear q0 q1 q2 q3 q4 q5 y0 y1 y2 y3 y4 hc0;obtain⟨q0,q1,q2,q3,q4,q5⟩:=z2s hb5;have hb6:=zh (z08 hb5);have HB5:=zh hb5;clear hb1 hb5;rw[<-(uh hb6).cell (p:=⟨gh,_,none⟩) hgh] at he0;go_wp2
     go_ret
     exact⟨z04 (uh hz).symm,uh hb6⟩
   ·have hz:=zh (show z=false by
     have hk':k=r.flank.length:=by have:=uh HFL; omega
     rw[uh HZ3,<-hk',uh HQ])
    have hb3:=z08 (uh HB);clear hb;go_wp2
    go_ret
    exact⟨z04 (uh hz).symm,hb3⟩
end Go.Proofs.YtkbpocecbcaiiabGreatDoor
