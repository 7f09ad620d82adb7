import Derived.Test.YtkbpocecbcaiiabGreatDoorO49
namespace Go.Proofs.YtkbpocecbcaiiabGreatDoor
open Go.RowKit
theorem rwantN_w (C:RBx) (l:List Nat) (r:Nat):∀k,({ C with waits:=l }:RBx).wantN r k={ C.wantN r k with waits:=l }
 | 0=>rfl
 | k+1=>by
  show (({ C with waits:=l }:RBx).wantN r k).wantK r k={ (C.wantN r k).wantK r k with waits:=l };rw[rwantN_w C l r k];unfold RBx.wantK;simp only;split <;> rfl
theorem pwantN_w (B:PBx) (q:List Nat) (l:List (Nat×Nat)):∀k,({ B with waits:=q }:PBx).wantN l k={ B.wantN l k with waits:=q }
 | 0=>rfl
 | k+1=>by
  show (({ B with waits:=q }:PBx).wantN l k).want1 (l.getD k (0,0))={ (B.wantN l k).want1 (l.getD k (0,0)) with waits:=q };rw[pwantN_w B q l k];unfold PBx.want1;simp only;split <;> rfl
theorem rgiven_w (C:RBx) (l q:List Nat) (r t:Nat):({ ({ C with waits:=l }:RBx).given r t with waits:=q }:RBx)={ C.given r t with waits:=q }:=by
 show ({ ((({ { C with sta:=C.more t } with waits:=l }:RBx).wantN r C.L.sw.length).put r (RLnW t)) with waits:=q }:RBx)={ ((({ C with sta:=C.more t }:RBx).wantN r C.L.sw.length).put r (RLnW t)) with waits:=q };rw[rwantN_w];rfl
theorem pgiven_w (B:PBx) (l q:List Nat) (r t:Nat):({ ({ B with waits:=l }:PBx).given r t with waits:=q }:PBx)={ B.given r t with waits:=q }:=by
 show ({ (({ ({ B with sta:=oneM B.sta t }.putR r ((B.route r).set t)) with waits:=l }:PBx).wantN (swsOf (B.route r).rt) (swsOf (B.route r).rt).length) with waits:=q }:PBx)={ (({ B with sta:=oneM B.sta t }.putR r ((B.route r).set t)).wantN (swsOf (B.route r).rt) (swsOf (B.route r).rt).length) with waits:=q };rw[pwantN_w]
theorem given_L (C:RBx) (r t:Nat) (hl:C.wanted.length=C.L.sw.length):(C.given r t).L=C.L:=
 (rwant_get { C with sta:=C.more t } r C.L.sw.length (by show _<=C.wanted.length; rw[hl]; exact Nat.le_refl _)).2.2.1
theorem Sim.grantN {B:PBx} {C:RBx} {pf:PFr} {f:Fr} (h:Sim B C) (hi:Inv C) (hf:FrS pf f C.L):∀k,k<=C.waits.length →
  Sim { B.grantN pf k with waits:=C.leftN f k++C.waits.drop k } { C.grantN f k with waits:=C.leftN f k++C.waits.drop k }/\Inv { C.grantN f k with waits:=C.leftN f k++C.waits.drop k } ∧
  (C.grantN f k).L=C.L/\B.servN pf k=C.servN f k/\B.leftN pf k=C.leftN f k/\(∀t,t∈C.servN f k->t∈C.waits)/\(C.servN f k).length<=k
 | 0,_=>by
  refine⟨?_,?_,rfl,rfl,rfl,fun t ht=>by simp[RBx.servN] at ht,Nat.le_refl _⟩
  ·show Sim { B with waits:=[]++C.waits.drop 0 } { C with waits:=[]++C.waits.drop 0 }
   rw[List.drop_zero,List.nil_append];rw[<-h.waits];have e:({ C with waits:=B.waits }:RBx)=C:=by rw[h.waits]
   rw[e];exact h
  ·show Inv { C with waits:=[]++C.waits.drop 0 }
   rw[List.drop_zero,List.nil_append];exact hi
 | k+1,hk=>by
  obtain⟨a,b,c,d,e,g,j⟩:=Sim.grantN h hi hf k (by omega);have hk':k < C.waits.length:=by omega
  have ed:C.waits.drop k=C.waits[k] :: C.waits.drop (k+1):=List.drop_eq_getElem_cons hk';have et:C.waits.getD k 0=C.waits[k]:=z05 hk';have hf':FrS pf f (C.grantN f k).L:=by rw[c]; exact hf
  obtain⟨Bk,hBk⟩:∃X,X=B.grantN pf k:=⟨_,rfl⟩
  obtain⟨Ck,hCk⟩:∃X,X=C.grantN f k:=⟨_,rfl⟩
  obtain⟨t,htt⟩:∃t,t=C.waits[k]:=⟨_,rfl⟩
  rw[<-hBk,<-hCk] at a;rw[<-hCk] at b c hf';have hmem:t∈C.leftN f k++C.waits.drop k:=by rw[ed,<-htt]; simp
  obtain⟨ht,hj⟩:=b.wt t hmem;have hgB:=a.grantB b hf' (t:=t) ht hj;obtain⟨hr,hn,hg⟩:=hgB;have hg':Bk.grantB pf t=Ck.grantB f t:=hg;have hn':Bk.nextR t=some (Ck.nxt t):=hn;have eS:B.servN pf (k+1)=if Bk.grantB pf t then B.servN pf k++[t] else B.servN pf k:=by
   show (if (B.grantN pf k).grantB pf (B.waits.getD k 0) then B.servN pf k++[B.waits.getD k 0] else B.servN pf k)=_;rw[h.waits,et,<-htt,<-hBk]
  have eL:B.leftN pf (k+1)=if Bk.grantB pf t then B.leftN pf k else B.leftN pf k++[t]:=by
   show (if (B.grantN pf k).grantB pf (B.waits.getD k 0) then B.leftN pf k else B.leftN pf k++[B.waits.getD k 0])=_;rw[h.waits,et,<-htt,<-hBk]
  have eG:B.grantN pf (k+1)=Bk.grant pf t:=by
   show (B.grantN pf k).grant pf (B.waits.getD k 0)=_;rw[h.waits,et,<-htt,<-hBk]
  have fS:C.servN f (k+1)=if Ck.grantB f t then C.servN f k++[t] else C.servN f k:=by
   show (if (C.grantN f k).grantB f (C.waits.getD k 0) then C.servN f k++[C.waits.getD k 0] else C.servN f k)=_;rw[et,<-htt,<-hCk]
  have fL:C.leftN f (k+1)=if Ck.grantB f t then C.leftN f k else C.leftN f k++[t]:=by
   show (if (C.grantN f k).grantB f (C.waits.getD k 0) then C.leftN f k else C.leftN f k++[C.waits.getD k 0])=_;rw[et,<-htt,<-hCk]
  have fG:C.grantN f (k+1)=Ck.grant f t:=by
   show (C.grantN f k).grant f (C.waits.getD k 0)=_;rw[et,<-htt,<-hCk]
  have gP:Bk.grant pf t=if Bk.grantB pf t then Bk.given (Ck.nxt t) t else Bk:=by
   unfold PBx.grant PBx.grantB;rw[hn']
  have gC:Ck.grant f t=if Ck.grantB f t then Ck.given (Ck.nxt t) t else Ck:=rfl;have hmt:t∈C.waits:=by rw[htt]; exact List.getElem_mem hk'
  rw[eS,eL,eG,fS,fL,fG,gP,gC,hg',d,e];by_cases hq:Ck.grantB f t=true
  ·simp only[if_pos hq]
   have hw:({ Ck with waits:=C.leftN f k++C.waits.drop k }:RBx).waits=C.leftN f k++t :: C.waits.drop (k+1):=by
    show C.leftN f k++C.waits.drop k=_;rw[ed,<-htt]
   have hsg:=a.given b hf' hw hq;have e1:=rgiven_w Ck (C.leftN f k++C.waits.drop k) (C.leftN f k++C.waits.drop (k+1)) (Ck.nxt t) t;have e2:=pgiven_w Bk (C.leftN f k++C.waits.drop k) (C.leftN f k++C.waits.drop (k+1)) (Ck.nxt t) t;have hsg1:Sim { ({ Bk with waits:=C.leftN f k++C.waits.drop k }:PBx).given (Ck.nxt t) t with waits:=C.leftN f k++C.waits.drop (k+1) } { ({ Ck with waits:=C.leftN f k++C.waits.drop k }:RBx).given (Ck.nxt t) t with waits:=C.leftN f k++C.waits.drop (k+1) }:=hsg.1;have hsg2:Inv { ({ Ck with waits:=C.leftN f k++C.waits.drop k }:RBx).given (Ck.nxt t) t with waits:=C.leftN f k++C.waits.drop (k+1) }:=hsg.2;rw[e1] at hsg1 hsg2;rw[e2] at hsg1;refine⟨hsg1,hsg2,(given_L Ck _ _ b.wl).trans c,by trivial,by trivial,?_,?_⟩
   ·intro t' ht'
    rcases List.mem_append.1 ht' with hm | hm
    ·exact g t' hm
    ·rw[List.mem_singleton] at hm; rw[hm]; exact hmt
   ·simp only[List.length_append,List.length_cons,List.length_nil]; omega
  ·simp only[if_neg hq]
   have ew:C.leftN f k++[t]++C.waits.drop (k+1)=C.leftN f k++C.waits.drop k:=by
    rw[ed,<-htt,List.append_assoc]; rfl
   rw[ew];exact⟨a,b,c,by trivial,by trivial,g,by omega⟩
theorem Sim.grants {B:PBx} {C:RBx} {pf:PFr} {f:Fr} (h:Sim B C) (hi:Inv C) (hf:FrS pf f C.L) :
  Sim (B.grants pf) (C.grants f)/\Inv (C.grants f)/\(C.grants f).L=C.L/\B.servN pf B.waits.length=C.servN f C.waits.length/\(∀t,t∈C.servN f C.waits.length->t∈C.waits)/\(C.servN f C.waits.length).length<=C.waits.length:=by
 obtain⟨a,b,c,d,e,g,j⟩:=h.grantN hi hf C.waits.length (Nat.le_refl _);rw[List.drop_length,List.append_nil] at a b;unfold PBx.grants RBx.grants;rw[h.waits,e];exact⟨a,b,c,d,g,j⟩
theorem Inv.gone {C:RBx} (h:Inv C):∀x,x∈C.lines->x.gone<=1000/\x.count<=1000:=by
 intro x hx;obtain⟨r,hr,rfl⟩:=List.mem_iff_getElem.1 hx;have hr':r < C.L.rts.length:=by rw[<-h.ll]; exact hr
 have e:C.line r=C.lines[r]:=z05 hr;have hli:=h.li r hr';have hp:=(h.rt hr').pl;rw[e] at hli;refine⟨?_,hli.ct⟩;by_cases h1:C.lines[r].ph=116
 ·have:=(hli.ps h1).2; omega
 ·rw[hli.g0 h1]; omega
theorem mem_getDn {l:List Nat} {x:Nat} (h:x∈l):∃i,i < l.length/\l.getD i 0=x:=by
 obtain⟨i,hi,rfl⟩:=List.mem_iff_getElem.1 h;exact⟨i,hi,z05 hi⟩
theorem Inv.sta8 {C:RBx} (h:Inv C):∀x,x∈C.sta->x<=8:=by
 intro x hx;obtain⟨t,ht,rfl⟩:=mem_getDn hx;have:=h.sj t;have ht':t < C.L.tns.length:=by rw[<-h.st]; exact ht
 have hm:C.L.tn t∈C.L.tns:=by
  unfold Lay.tn;rw[z05 ht'];exact List.getElem_mem ht'
 have:=h.lay.good.jl _ hm;omega
theorem Inv.sta8g {C:RBx} (h:Inv C) (t:Nat):C.sta.getD t 0<=8:=by
 by_cases ht:t < C.sta.length
 ·exact h.sta8 _ (by rw[z05 ht]; exact List.getElem_mem ht)
 ·rw[List.getD_eq_getElem?_getD,List.getElem?_eq_none (by omega)]
  exact Nat.zero_le _
theorem Inv.watchOK {C:RBx} {pf:PFr} {f:Fr} (h:Inv C) (hf:FrS pf f C.L):WatchOK C f:=by
 have h1:=h.lay.sw;have h2:=h.lay.rl;have h3:=h.lay.T;refine⟨by omega,h.wl,h.fl,h.dl,hf.pl,by rw[h.ll]; exact Nat.le_refl _,by omega,fun x hx=>(h.gone x hx).1,fun x hx=>?_⟩;obtain⟨s,-,rfl⟩:=mem_getDn hx;have:=h.late s;omega
theorem Inv.stepOK {C:RBx} {pf:PFr} {f:Fr} (h:Inv C) (hf:FrS pf f C.L) {r:Nat} (hr:r < C.L.rts.length):StepOK C f r:=by
 have h1:=h.lay.sw;have h2:=h.lay.rl;have ho:=h.rt hr;have hp:=ho.pl;have hli:=h.li r hr;refine⟨by rw[h.ll]; exact Nat.le_refl _,by omega,by omega,hf.ol,hf.pl,h.fl,?_,?_,?_,by rw[hf.ol]; exact ho.foot,?_,?_,hli.ct⟩
 ·unfold RBx.pth secs
  intro e;exact ho.ne (List.map_eq_nil_iff.1 e)
 ·unfold RBx.pth
  rw[z0o]; omega
 ·intro s hs
  unfold RBx.pth secs at hs;obtain⟨x,hx,rfl⟩:=List.mem_map.1 hs;rw[hf.ol];exact(ho.ps x hx).1
 ·intro hp
  have e:(C.pth r).length=(C.L.rt r).path.length:=z0o _;rw[e];exact hli.ps hp
 ·intro hp
  obtain⟨x,y⟩:=h.tr r hr (by omega);refine⟨by rw[h.st]; exact x,y,?_⟩;have:=h.sta8g (C.line r).train;omega
theorem Inv.doOK {C:RBx} {pf:PFr} {f:Fr} (h:Inv C) (hf:FrS pf f C.L):DoOK C f:=by
 have:=h.wq;have:=h.lay.Q;exact⟨h.ll,h.st,h.fl,by omega,fun r hr=>by rw[hf.ol]; exact(h.rt hr).foot⟩
theorem Inv.grantOK {C:RBx} {q:List Nat} {pf:PFr} {f:Fr} (h:Inv { C with waits:=q }) (hf:FrS pf f C.L) {t:Nat} (ht:t∈q):GrantOK C f t:=by
 obtain⟨a,b⟩:=h.wt t ht;have h1:C.L.sw.length<=16:=h.lay.sw;have h2:C.L.rts.length<=12:=h.lay.rl;have h3:C.L.tns.length<=5:=h.lay.good.tns;have h4:C.sta.getD t 0<=8:=h.sta8g t;exact⟨h.lay.good.paths,h.lay.good.jnys,by omega,h.ll,by omega,by omega,hf.ol,h.fl,h.wl,fun x hx=>(h.gone x hx).1,h.st,a,b,by omega⟩
theorem Sim.pgd {B:PBx} {C:RBx} (h:Sim B C) (hi:Inv C):PGd B:=by
 have h2:=hi.lay.rl;refine⟨by rw[h.L]; exact hi.lay.good,by rw[h.rl]; omega,?_,by rw[h.sta,h.L]; exact hi.st,?_⟩
 ·intro y hy
  obtain⟨r,hr,rfl⟩:=List.mem_iff_getElem.1 hy;have hr':r < C.L.rts.length:=by rw[<-h.rl]; exact hr
  have e:B.route r=B.rts[r]:=z05 hr;have hl:=h.lr r hr';rw[e] at hl;have ho:=hi.rt hr';have:=ho.pl;have:=ho.fl;exact⟨by rw[hl.rt]; omega,by rw[hl.rt]; omega,hl.mb,hl.fb,hl.cb⟩
 ·intro x hx
  rw[h.sta] at hx;have:=hi.sta8 x hx;omega
theorem pstepN_route (B:PBx) (f:PFr) (r:Nat):∀k,k<=r->(B.stepN f k).route r=B.route r
 | 0,_=>rfl
 | k+1,hk=>by
  have ih:=pstepN_route B f r k (by omega);show ((B.stepN f k).step1 f k).route r=_;rw[<-ih];unfold PBx.step1;have hp:∀(X:PBx) (y:PRt),(X.putR k y).route r=X.route r:=fun X y=>z0h _ _ _ _ _ (by omega);split
  ·exact hp _ _
  ·exact hp _ _
theorem pk_at (t:ByteArray) (i:Nat) (h:i < t.size):pk t i=t[i].toNat:=by
 unfold pk;rw[z05 (by simpa using h)];rfl
theorem pk_ext (s:ByteArray) (b i:Nat) (h:b+i < s.size):pk (s.extract b s.size) i=pk s (b+i):=by
 have h':i < (s.extract b s.size).size:=by rw[z2v]; omega
 rw[pk_at _ _ h',pk_drop s b i h h']
theorem frS_of (L:Lay) (s:ByteArray):FrS (L.pfrOf s) (L.frOf s) L:=⟨rfl,rfl,by simp[Lay.frOf],by simp[Lay.frOf]⟩
theorem z4r (L:Lay) (s:ByteArray) (h:L.frameB s=true):s.size<=64/\(s.size - L.bgn) % 2=0/\(L.frOf s).cmds.size=s.size - L.bgn/\(L.pfrOf s).cmds.length=(s.size - L.bgn) / 2 ∧
  ∀j,j < (s.size - L.bgn) / 2->L.cmdB (pk (L.frOf s).cmds (2*j)) (pk (L.frOf s).cmds (2*j+1))=true/\(L.pfrOf s).cmds.getD j (0,0)=(pk (L.frOf s).cmds (2*j),pk (L.frOf s).cmds (2*j+1) - cbase (pk (L.frOf s).cmds (2*j))):=by
 unfold Lay.frameB Lay.okC at h;simp only[Bool.and_eq_true,decide_eq_true_eq,List.all_eq_true,List.mem_range] at h;obtain⟨⟨h1,-⟩,h2,h3⟩:=h;have el:(L.pfrOf s).cmds.length=(s.size - L.bgn) / 2:=by
  show (L.cmdsL s _).length=_;unfold Lay.cmdsL;simp
 refine⟨h1,h2,z2v s L.bgn,el,fun j hj=>?_⟩;have e1:pk (L.frOf s).cmds (2*j)=pk s (L.bgn+2*j):=pk_ext s L.bgn (2*j) (by omega);have e2:pk (L.frOf s).cmds (2*j+1)=pk s (L.bgn+2*j+1):=by
  have:=pk_ext s L.bgn (2*j+1) (by omega);rw[<-Nat.add_assoc] at this;exact this
 rw[e1,e2];refine⟨h3 j hj,?_⟩;have ec:(L.pfrOf s).cmds=(List.range ((s.size - L.bgn) / 2)).map (L.cmdF s):=rfl;rw[ec,z05 (by simpa using hj),List.getElem_map,List.getElem_range];rfl
theorem ordStr_nats (o:List Nat):z21 o=z0i (o.map (49+·)):=by
 unfold z21 z0i;rw[List.map_map];rfl
theorem ans_nats (a b c:List Nat) (o:List Nat):ansS (z0i a) (z0i b) (z0i c) (z21 o)=z0i (ansL a b c (o.map (49+·))):=by
 unfold ansS ansL;rw[ordStr_nats,z2c,z2c,z2c,z2c,z2c,z2c,z2c];rfl
theorem flatMap_cg {p q:Nat->List Nat} {n:Nat} (h:∀s,s < n->p s=q s):(List.range n).flatMap p=(List.range n).flatMap q:=by
 rw[List.flatMap_def,List.flatMap_def]
 congr 1
 refine List.map_congr_left (fun s hs=>h s (List.mem_range.1 hs))
theorem Sim.lamps {B:PBx} {C:RBx} (h:Sim B C) (hi:Inv C):B.lampsT=C.lampsT:=by
 unfold PBx.lampsT RBx.lampsT;apply List.ext_getElem
 ·simp only[List.length_map]; rw[h.rl,hi.ll]
 ·intro r h1 h2
  simp only[List.length_map] at h1 h2;rw[List.getElem_map,List.getElem_map];have hl:=(h.lr r (by rw[<-hi.ll]; exact h2)).ph;have e:B.route r=B.rts[r]:=z05 h1;have e':C.line r=C.lines[r]:=z05 h2;rw[e,e'] at hl;unfold lampC rlampC;rw[hl]
theorem Sim.moves {B:PBx} {C:RBx} {pf:PFr} {f:Fr} (h:Sim B C) (hi:Inv C) (hf:FrS pf f C.L):B.movesT pf=C.movesT f:=by
 unfold PBx.movesT RBx.movesT;rw[h.sl];refine flatMap_cg (fun s hs=>?_);unfold PBx.moveT RBx.moveT;rw[h.L];by_cases e:C.L.sw.getD s false=true
 ·rw[if_pos e,if_pos e,h.move hi hf hs e]
 ·rw[if_neg e,if_neg e]
theorem Sim.cyc {B:PBx} {C:RBx} (h:Sim B C) (hi:Inv C) (s:ByteArray) :
  (B.L.frameB s=true->CycOK B (B.L.pfrOf s))/\(C.L.frameB s=true->RCyc C (C.L.frOf s))/\Sim (B.cyc s) (C.cyc s)/\Inv (C.cyc s)/\(C.cyc s).L=C.L/\B.ans s=C.ans s:=by
 unfold PBx.cyc RBx.cyc PBx.ans RBx.ans;rw[h.L];by_cases hfb:C.L.frameB s=true
 case neg=>
  have hff:C.L.frameB s=false:=by simpa using hfb
  rw[hff];exact⟨fun hh=>by simp at hh,fun hh=>by simp at hh,h,hi,rfl,rfl⟩
 have hf:=frS_of C.L s;obtain⟨z1,z2,z3,z4,z5⟩:=z4r C.L s hfb;generalize C.L.pfrOf s=pf at *;generalize C.L.frOf s=f at *
 -- the stages
 obtain⟨a1,b1,c1⟩:=h.watchN hi hf C.L.sw.length (Nat.le_refl _);have a1':Sim (B.s1 pf) (C.s1 f):=by unfold PBx.s1 RBx.s1 RBx.watch; rw[h.sl]; exact a1
 have b1':Inv (C.s1 f):=b1;have c1':(C.s1 f).L=C.L:=c1;have hf1:FrS pf f (C.s1 f).L:=by rw[c1']; exact hf
 have hs2:=fun k hk=>a1'.stepN b1' hf1 k hk;obtain⟨a2,b2,c2⟩:=hs2 (C.s1 f).L.rts.length (Nat.le_refl _);have a2':Sim (B.s2 pf) (C.s2 f):=by unfold PBx.s2 RBx.s2; rw[a1'.rl,b1'.ll]; exact a2
 have b2':Inv (C.s2 f):=by unfold RBx.s2; rw[b1'.ll]; exact b2
 have c2':(C.s2 f).L=C.L:=by unfold RBx.s2; rw[b1'.ll]; exact c2.trans c1'
 have hf2:FrS pf f (C.s2 f).L:=by rw[c2']; exact hf
 have hs3:=a2'.doN b2' hf2 ((s.size - C.L.bgn) / 2) (by rw[c2']; exact z5);obtain⟨a3,b3,c3,d3⟩:=hs3 ((s.size - C.L.bgn) / 2) (Nat.le_refl _);have n3:f.cmds.size / 2=(s.size - C.L.bgn) / 2:=by rw[z3]
 have a3':Sim (B.s3 pf) (C.s3 f):=by unfold PBx.s3 RBx.s3; rw[z4,n3]; exact a3
 have b3':Inv (C.s3 f):=by unfold RBx.s3; rw[n3]; exact b3
 have c3':(C.s3 f).L=C.L:=by unfold RBx.s3; rw[n3]; exact c3.trans c2'
 have hf3:FrS pf f (C.s3 f).L:=by rw[c3']; exact hf
 obtain⟨a4,b4,c4,d4,e4,g4⟩:=a3'.grants b3' hf3;have a4':Sim (B.s4 pf) (C.s4 f):=a4;have b4':Inv (C.s4 f):=b4;have c4':(C.s4 f).L=C.L:=c4.trans c3';have hf4:FrS pf f (C.s4 f).L:=by rw[c4']; exact hf
 have q2:=b2'.wq;have q2':=b2'.lay.Q;have q3:=b3'.wq;have q3':=b3'.lay.Q;have l0:=hi.lay;have l4:=b4'.lay.sw;have t3:∀t,t∈(C.s3 f).waits->t < 9:=by
  intro t ht;have:=(b3'.wt t ht).1;have:=b3'.lay.good.tns;omega
 rw[if_pos hfb,if_pos hfb,if_pos hfb,if_pos hfb];refine⟨fun _=>?_,fun _=>?_,a4',b4',c4',?_⟩
 ·refine⟨h.pgd hi,by rw[h.L]; have:=l0.T; omega,?_,by rw[h.sl]; have:=l0.sw; omega,?_,by rw[a2'.waits]; omega,by rw[z4]; omega,a3'.pgd b3',by rw[a3'.waits]; omega,⟨(a4'.pgd b4').rl,(a4'.pgd b4').ok,by rw[a4'.sl]; omega⟩,⟨?_,?_⟩,?_⟩
  ·intro x hx
   obtain⟨i,hi',rfl⟩:=List.mem_iff_getElem.1 hx;have e:B.sw i=B.sws[i]:=z05 hi';rw[<-e];exact h.lt i
  ·intro k hk hg
   have hk':k < (C.s1 f).L.rts.length:=by rw[<-a1'.rl]; exact hk
   obtain⟨x,y,z⟩:=hs2 k (by omega);have e:(B.s1 pf).route k=(B.s1 pf).rts[k]:=z05 hk;have er:=pstepN_route (B.s1 pf) pf k k (Nat.le_refl _);have hl:=x.lr k (by rw[z]; exact hk');rw[er,e] at hl;have hph:(B.s1 pf).rts[k].ph=100:=by
    unfold PRt.gave at hg;by_cases e1:(B.s1 pf).rts[k].ph=100
    ·exact e1
    ·rw[if_neg e1] at hg; simp at hg
   have hne:(((C.s1 f).stepN f k).line k).ph≠46:=by rw[<-hl.ph,hph]; decide
   rw[hl.tr hne,x.sta];obtain⟨u,v⟩:=y.tr k (by rw[z]; exact hk') hne;have:=y.sta8g (((C.s1 f).stepN f k).line k).train;omega
  ·intro t ht
   rw[d4] at ht;exact t3 t (e4 t ht)
  ·rw[d4]; omega
  ·unfold PBx.doAs
   rw[List.length_map,List.length_range,z4];omega
 ·refine⟨hi.watchOK hf,?_,?_,?_,by rw[z3]; omega,by rw[z3]; exact z2,?_,by omega,t3,b4'.watchOK hf4,by rw[hf4.ol]⟩
  ·intro k hk
   have hk':k < (C.s1 f).L.rts.length:=by rw[<-b1'.ll]; exact hk
   obtain⟨x,y,z⟩:=hs2 k (by omega);refine⟨y.stepOK (pf:=pf) (by rw[z]; exact hf1) (by rw[z]; exact hk'),?_⟩;rw[y.ll,z,b1'.ll]
  ·rw[b1'.ll]; have:=b1'.lay.rl; omega
  ·intro k hk
   have hk':k < (s.size - C.L.bgn) / 2:=by rw[<-n3]; exact hk
   obtain⟨x,y,z,-⟩:=hs3 k (by omega);refine⟨y.doOK (pf:=pf) (by rw[z]; exact hf2),?_⟩;rw[z,c2'];exact(z5 k hk').1
  ·intro k hk
   obtain⟨x,y,z,-⟩:=a3'.grantN b3' hf3 k (by omega);refine y.grantOK (pf:=pf) (by rw[z]; exact hf3) ?_;rw[List.drop_eq_getElem_cons hk];exact List.mem_append_right _ (List.mem_cons_self ..)
 ·unfold PBx.ansB RBx.ansB
  rw[a4'.lamps b4',a4'.moves b4' hf4,d4,z4,n3,d3];exact ans_nats _ _ _ _
theorem Sim.same {B:PBx} {C:RBx} (h:Sim B C) (hi:Inv C):Same B C:=by
 refine⟨?_,?_,?_,?_,?_⟩
 ·unfold PBx.locksT RBx.locksT
  rw[h.L];refine List.map_congr_left (fun s hs=>?_);rw[h.lockedBy hi]
 ·unfold PBx.phasesT RBx.phasesT
  apply List.ext_getElem
  ·simp only[List.length_map]; rw[h.rl,hi.ll]
  ·intro r h1 h2
   simp only[List.length_map] at h1 h2;rw[List.getElem_map,List.getElem_map];have hl:=(h.lr r (by rw[<-hi.ll]; exact h2)).ph;have e:B.route r=B.rts[r]:=z05 h1;have e':C.line r=C.lines[r]:=z05 h2;rw[e,e'] at hl;exact hl
 ·unfold PBx.switchesT RBx.switchesT
  rw[h.sl];refine flatMap_cg (fun s hs=>?_);unfold PBx.swT RBx.swT;rw[h.L];by_cases e:C.L.sw.getD s false=true
  ·rw[if_pos e,if_pos e]
   obtain⟨w1,w2,-⟩:=h.sw s hs e;show [(B.sw s).tell]=_;unfold PSw.tell;rw[w1,w2]
  ·rw[if_neg e,if_neg e]
 ·unfold PBx.stateT RBx.stateT
  rw[h.sta]
 ·unfold RBx.queueT
  rw[h.waits,ordStr_nats]
theorem Sim.psm {B:PBx} {C:RBx} (h:Sim B C) (hi:Inv C):PSm B:=by
 have h1:=hi.lay.sw;have h2:=hi.lay.rl;have h3:=hi.lay.good.tns;have h4:=hi.wq;have h5:=hi.lay.Q;have hp:=h.pgd hi;refine⟨by rw[h.L]; omega,by rw[h.rl]; omega,fun x hx=>(hp.ok x hx).freed,by rw[h.sl]; omega,by rw[h.sta,hi.st]; omega,fun t ht=>?_,by rw[h.waits]; omega,fun t ht=>?_⟩
 ·rw[h.sta] at ht
  have:=hi.sta8 t ht;omega
 ·rw[h.waits] at ht
  have:=(hi.wt t ht).1;omega
theorem getD_repq {α:Type} (n i:Nat) (x d:α) (h:i < n):(List.replicate n x).getD i d=x:=by
 rw[List.getD_eq_getElem?_getD,List.getElem?_replicate,if_pos h]; rfl
theorem init_inv {L:Lay} (h:LayOK L):Inv (RBx.init L):=by
 have hT:=h.T;have hl:∀r,(RBx.init L).line r=RLn0:=fun r=>z0z _ _ _ _ rfl;refine⟨h,by simp[RBx.init],by simp[RBx.init],by simp[RBx.init],by simp[RBx.init],by simp[RBx.init],fun t=>?_,fun s=>?_,fun r hr=>?_,fun r hr hp=>?_,fun r r' hr hr' hp=>?_,Nat.zero_le _,List.nodup_nil,fun t ht=>?_⟩
 ·show (List.replicate L.tns.length 0).getD t 0<=_
  rw[z0z _ _ _ _ rfl]; exact Nat.zero_le _
 ·show (List.replicate L.sw.length 0).getD s 0 < L.T
  rw[z0z _ _ _ _ rfl]; omega
 ·rw[hl]; exact⟨fun _=>rfl,fun hh=>by simp[RLn0] at hh,Nat.zero_le _⟩
 ·rw[hl] at hp; exact absurd rfl hp
 ·rw[hl] at hp; exact absurd rfl hp
 ·exact absurd (show t∈([]:List Nat) from ht) (by simp)
theorem init_sim {L:Lay}:Sim (PBx.init L) (RBx.init L):=by
 refine⟨rfl,by show (L.rts.map PRt.new).length=L.rts.length; simp,fun r hr=>?_,by show (List.replicate L.sw.length PSw.new).length=L.sw.length; simp,fun s hs hs2=>?_,fun s=>?_,rfl,rfl⟩
 ·have hr':r < L.rts.length:=hr
  have e:(PBx.init L).route r=PRt.new (L.rt r):=by
   show (L.rts.map PRt.new).getD r _=_;rw[z05 (by simpa using hr'),List.getElem_map];unfold Lay.rt;rw[z05 hr']
  have e2:(RBx.init L).line r=RLn0:=z0z _ _ _ _ rfl;rw[e,e2];exact⟨rfl,rfl,fun hh=>absurd rfl hh,fun hh=>absurd rfl hh,fun hh=>absurd rfl hh,fun hh=>absurd rfl hh,fun hh=>by simp[RLn0] at hh,fun hh=>by simp[RLn0] at hh,Nat.zero_le _,Nat.zero_le _,Nat.zero_le _⟩
 ·have e:(PBx.init L).sw s=PSw.new:=z0z _ _ _ _ rfl
  have hs':s < L.sw.length:=hs;have hs2':L.sw.getD s false=true:=hs2;rw[e];refine⟨?_,?_,?_⟩
  ·show 43=(L.sw.map (fun b=>if b then 43 else 0)).getD s 0
   rw[z05 (by simpa using hs'),List.getElem_map];rw[z05 hs'] at hs2';rw[hs2']; rfl
  ·show false=(List.replicate L.sw.length false).getD s false
   rw[z0z _ _ _ _ rfl]
  ·show 0=(List.replicate L.sw.length 0).getD s 0
   rw[z0z _ _ _ _ rfl]
 ·have e:(PBx.init L).sw s=PSw.new:=z0z _ _ _ _ rfl
  rw[e]; exact Nat.zero_le _
def toldO (a0 a1 a2 a3 a4:ByteArray):Obj:=.cells #[.string a0,.string a1,.string a2,.string a3,.string a4] 38 (0,0)
theorem z1p {w:World} {g:Nat} {a0 a1 a2 a3 a4:ByteArray} (h:w.heap[g]?=some (toldO a0 a1 a2 a3 a4)) :
  (w.cell? ⟨g,0,none⟩=some (.string a0)/\w.cell? ⟨g,1,none⟩=some (.string a1)/\w.cell? ⟨g,2,none⟩=some (.string a2)/\w.cell? ⟨g,3,none⟩=some (.string a3)/\w.cell? ⟨g,4,none⟩=some (.string a4)) ∧
  (w.frozen? ⟨g,0,none⟩=false/\w.frozen? ⟨g,1,none⟩=false/\w.frozen? ⟨g,2,none⟩=false/\w.frozen? ⟨g,3,none⟩=false/\w.frozen? ⟨g,4,none⟩=false)/\g < w.heap.size:=
 ⟨⟨z07 h 0,z07 h 1,z07 h 2,z07 h 3,z07 h 4⟩,⟨z0c h 0,z0c h 1,z0c h 2,z0c h 3,z0c h 4⟩,z0g h⟩
structure AskOK (L:Lay) (a0 a1 a2 a3 a4:ByteArray):Prop where
 s0:a0.size=L.sw.length
 s1:a1.size=L.rts.length
 s2:a2.size=cntT L.sw
 s3:a3.size=L.tns.length
 s4:a4.size<=1000
 b3:∀k,k < a3.size->48<=pk a3 k/\pk a3 k<=48+(L.tn k).jny.length
 b4:∀k,k < a4.size->49<=pk a4 k/\pk a4 k < 49+L.tns.length
 sw:L.sw.length<=100
 rt:L.rts.length<=100
 tn:L.tns.length<=100
 jn:∀t,t∈L.tns->t.jny.length<=1000
def AskP (w w':World) (e:Ending) (a0 a1 a2 a3 a4:ByteArray):Prop:=∃gt,e=.returned (.tuple #[.pointer (some ⟨gt,0,none⟩),.bool true])/\w.heap.size<=gt/\w'.heap[gt]?=some (toldO a0 a1 a2 a3 a4)/\Below w.heap.size w w'
set_option maxRecDepth 100000 in
set_option maxHeartbeats 8000000 in
theorem kask_of (g gb:Nat) (L:Lay) (a0 a1 a2 a3 a4:ByteArray) (w:World) (h:KPl w g L)
  (q0:∀wz,Below w.heap.size w wz->Calls Tryz.prog 41 #[.pointer (some ⟨gb,0,none⟩)] wz fun e w'=>e=.returned (.string a0)/\Below wz.heap.size wz w')
  (q1:∀wz,Below w.heap.size w wz->Calls Tryz.prog 42 #[.pointer (some ⟨gb,0,none⟩)] wz fun e w'=>e=.returned (.string a1)/\Below wz.heap.size wz w')
  (q2:∀wz,Below w.heap.size w wz->Calls Tryz.prog 43 #[.pointer (some ⟨gb,0,none⟩)] wz fun e w'=>e=.returned (.string a2)/\Below wz.heap.size wz w')
  (q3:∀wz,Below w.heap.size w wz->Calls Tryz.prog 44 #[.pointer (some ⟨gb,0,none⟩)] wz fun e w'=>e=.returned (.string a3)/\w'=wz)
  (q4:∀wz,Below w.heap.size w wz->Calls Tryz.prog 45 #[.pointer (some ⟨gb,0,none⟩)] wz fun e w'=>e=.returned (.string a4)/\w'=wz)
  (hO:AskOK L a0 a1 a2 a3 a4) :
  Calls Tryz.prog 13 #[.pointer (some ⟨g,0,none⟩),.pointer (some ⟨gb,0,none⟩)] w fun e w'=>AskP w w' e a0 a1 a2 a3 a4:=by
 obtain⟨vh,vp,vf,va,vk,vw,vs,vj,e,x1,x2,x3,x4,x5,x6,x7,x8⟩:=h;have HKO:=zh e;have HJ:=zh x8;obtain⟨ah,ch,rfl,-⟩:=SlAt.open x1;obtain⟨af,cf,rfl,-⟩:=SlAt.open x3;obtain⟨ap,cp,rfl,-⟩:=SlAt.open x2;obtain⟨ass,css,rfl,-⟩:=SlAt.open x7;obtain⟨aj,cj,rfl,-,hjm,-⟩:=SlAt.open x8;rw[List.length_map] at HKO;rw[List.length_map] at HKO;rw[List.length_map] at HKO HJ;rw[z44] at HKO;have Q0:=zh q0;have Q1:=zh q1;have Q2:=zh q2;have Q3:=zh q3;have Q4:=zh q4;have HO:=zh hO;clear e x1 x2 x3 x4 x5 x6 x7 x8 q0 q1 q2 q3 q4 hO;have HBa:=zh (show ∀o:Obj,Below w.heap.size w (w.alloc o) from fun o=>z01 w o);go_enter Tryz.func13,Tryz.ntmps13
 go_wp2_with fail
 refine(uh Q0 _ (uh HBa _)).mono ?_;rintro e w1 ⟨rfl,hb1⟩;obtain⟨gt,hgt⟩:∃gt,gt=w.heap.size:=⟨_,rfl⟩
 have hz1:w.heap.size+1<=w1.heap.size:=by have:=hb1.size; simpa using this
 have ho1:w1.heap[gt]?=some (toldO ByteArray.empty ByteArray.empty ByteArray.empty ByteArray.empty ByteArray.empty):=by
  rw[hgt,hb1.block w.heap.size (by simp)];exact heap_alloc_new _ _
 have HB1:=zh ((uh HBa _).trans (hb1.mono (by simp)));have HG:=zh hgt;rw[<-hgt];clear hgt;obtain⟨⟨y0,-⟩,⟨f0,-⟩,hg1⟩:=z1p ho1;have HO1:=zh ho1;clear ho1 hb1;go_wp2_with fail
 have hb1':Below w.heap.size w (w1.setCell ⟨gt,0,none⟩ (.string a0)):=(uh HB1).setCell (p:=⟨gt,0,none⟩) (by rw[<-uh HG]; exact Nat.le_refl _) _;have ho1':(w1.setCell ⟨gt,0,none⟩ (.string a0)).heap[gt]?=some (toldO a0 ByteArray.empty ByteArray.empty ByteArray.empty ByteArray.empty):=z0b _ (uh HO1);clear y0 f0;generalize w1.setCell ⟨gt,0,none⟩ (.string a0)=W1 at *;refine(uh Q1 _ hb1').mono ?_;rintro e w2 ⟨rfl,hb2⟩;have ho2:=(hb2.block gt (z0g ho1')).trans ho1';have HB2:=zh (hb1'.trans (hb2.mono hb1'.size));obtain⟨⟨-,y1,-⟩,⟨-,f1,-⟩,hg2⟩:=z1p ho2;have HO2:=zh ho2;clear ho2 hb2 ho1' hb1' HO1 HB1;go_wp2_with fail
 have hb2':Below w.heap.size w (w2.setCell ⟨gt,1,none⟩ (.string a1)):=(uh HB2).setCell (p:=⟨gt,1,none⟩) (by rw[<-uh HG]; exact Nat.le_refl _) _;have ho2':(w2.setCell ⟨gt,1,none⟩ (.string a1)).heap[gt]?=some (toldO a0 a1 ByteArray.empty ByteArray.empty ByteArray.empty):=z0b _ (uh HO2);clear y1 f1;generalize w2.setCell ⟨gt,1,none⟩ (.string a1)=W2 at *;refine(uh Q2 _ hb2').mono ?_;rintro e w3 ⟨rfl,hb3⟩;have ho3:=(hb3.block gt (z0g ho2')).trans ho2';have HB3:=zh (hb2'.trans (hb3.mono hb2'.size));obtain⟨⟨-,-,y2,-⟩,⟨-,-,f2,-⟩,hg3⟩:=z1p ho3;have HO3:=zh ho3;clear ho3 hb3 ho2' hb2' HO2 HB2;go_wp2_with fail
 have hb3':Below w.heap.size w (w3.setCell ⟨gt,2,none⟩ (.string a2)):=(uh HB3).setCell (p:=⟨gt,2,none⟩) (by rw[<-uh HG]; exact Nat.le_refl _) _;have ho3':(w3.setCell ⟨gt,2,none⟩ (.string a2)).heap[gt]?=some (toldO a0 a1 a2 ByteArray.empty ByteArray.empty):=z0b _ (uh HO3);clear y2 f2;generalize w3.setCell ⟨gt,2,none⟩ (.string a2)=W3 at *;refine(uh Q3 _ hb3').mono ?_;rintro e w4 ⟨rfl,rfl⟩;obtain⟨⟨-,-,-,y3,-⟩,⟨-,-,-,f3,-⟩,hg4⟩:=z1p ho3';have HB4:=zh hb3';have HO4:=zh ho3';clear ho3' hb3' HO3 HB3;go_wp2_with fail
 have hb4':Below w.heap.size w (w4.setCell ⟨gt,3,none⟩ (.string a3)):=(uh HB4).setCell (p:=⟨gt,3,none⟩) (by rw[<-uh HG]; exact Nat.le_refl _) _;have ho4':(w4.setCell ⟨gt,3,none⟩ (.string a3)).heap[gt]?=some (toldO a0 a1 a2 a3 ByteArray.empty):=z0b _ (uh HO4);clear y3 f3;generalize w4.setCell ⟨gt,3,none⟩ (.string a3)=W4 at *;refine(uh Q4 _ hb4').mono ?_;rintro e w5 ⟨rfl,rfl⟩;obtain⟨⟨-,-,-,-,y4⟩,⟨-,-,-,-,f4⟩,hg5⟩:=z1p ho4';have HB5:=zh hb4';have HO5:=zh ho4';clear ho4' hb4' HO4 HB4;go_upto_region 7 with fail
 have hb5':Below w.heap.size w (w5.setCell ⟨gt,4,none⟩ (.string a4)):=(uh HB5).setCell (p:=⟨gt,4,none⟩) (by rw[<-uh HG]; exact Nat.le_refl _) _;have ho5':(w5.setCell ⟨gt,4,none⟩ (.string a4)).heap[gt]?=some (toldO a0 a1 a2 a3 a4):=z0b _ (uh HO5);clear y4 f4;generalize w5.setCell ⟨gt,4,none⟩ (.string a4)=W5 at *;have hk5:=(hb5'.block g (z0g (uh HKO))).trans (uh HKO);obtain⟨⟨-,-,-,c3,c4,c5,-,-,-,c9,c10⟩,hgg⟩:=z0k hk5;obtain⟨⟨y0,y1,y2,y3,y4⟩,-,hg6⟩:=z1p ho5';have HJ5:=zh ((uh HJ).below hb5');have HB6:=zh hb5';have HO6:=zh ho5';obtain⟨s0,s1,s2,s3,s4,b3,b4,hsw,hrt,htn,hjn⟩:=uh HO;rw[<-s0] at c3;rw[<-s1] at c5;rw[<-s2] at c4;rw[<-s3] at c9 c10;have z0:a0.size<=100:=by omega
 have z1:a1.size<=100:=by omega
 have z2:a2.size<=100:=by rw[s2]; have:cntT L.sw<=L.sw.length:=by { unfold cntT; exact List.length_filter_le _ _ }; omega
 have z3:a3.size<=100:=by omega
 have HS3:=zh s3;have HB3':=zh b3;have HB4':=zh b4;have HJN:=zh hjn;clear hk5 ho5' hb5' HO5 HB5 s0 s1 s2 s3 b3 b4 hjn Q0 Q1 Q2 Q3 Q4 HBa;go_quiet (fail)
 go_wp2
 obtain⟨aj',cj',hje,-,hjm',hjr⟩:=SlAt.open (uh HJ5);rw[List.length_map,<-uh HS3] at hje;simp only[Value.slice.injEq] at hje;obtain⟨rfl,-,rfl⟩:=hje;have HJR:=zh hjr;clear hjr hjm';go_loop [7] (fun i=>∃k:Nat,k<=a3.size/\i=.int .i64 k) (fun i=>a3.size - (intOf i).toNat)
 case atStart=>exact⟨0,Nat.zero_le _,rfl⟩
 case round=>
  obtain⟨k,hk,rfl⟩:=hrel;by_cases hlt:k < a3.size
  ·obtain⟨z,hz⟩:∃z,a3[k].toNat=z:=⟨_,rfl⟩
   have hbz:=uh HB3' k hlt;rw[<-z18 a3 k hlt,hz] at hbz;have hkt:k < L.tns.length:=by rw[<-uh HS3]; exact hlt
   obtain⟨gj,oj,haj,hgj,cs,-,hC,hcc⟩:=uh HJR k (by simpa using hkt);obtain⟨u,rfl,hui⟩:=hC;have hcell:=hcc 0 (by omega);simp at hcell;obtain⟨ar,cr,rfl,-⟩:=SlAt.open hui;have hjl:((L.tns.map (fun t:Tn=>t.jny))[k]'(by simpa using hkt)).length=(L.tn k).jny.length:=by
    rw[List.getElem_map];unfold Lay.tn;rw[List.getD_eq_getElem?_getD,List.getElem?_eq_getElem hkt]; rfl
   have hjb:(L.tn k).jny.length<=1000:=uh HJN _ (by unfold Lay.tn; rw[List.getD_eq_getElem?_getD,List.getElem?_eq_getElem hkt]; exact List.getElem_mem hkt);rw[hjl] at hcell;generalize (L.tn k).jny.length=jl at *;subst haj;obtain⟨y,hy⟩:∃y,y=z - 48:=⟨_,rfl⟩
   have hzy:(z:Int) - 48=y:=by omega
   have l5:(k:Int) < a3.size:=by omega
   have l6:¬(y:Int) < 0:=by omega
   have l6b:decide ((y:Int) < 0)=false:=by simp
   have l7:¬(jl:Int) < y:=by omega
   have hyb:y<=300:=by have:=a3[k].toNat_lt; omega
   clear hcc hui hjl hy HJR;go_wp2
   exact⟨⟨k+1,by omega,by go_num⟩,by simp[intOf]; omega⟩
  ·have l5:¬(k:Int) < a3.size:=by omega
   go_wp2
   go_loop [9] (fun i=>∃k:Nat,k<=a4.size/\i=.int .i64 k) (fun i=>a4.size - (intOf i).toNat)
   case atStart=>exact⟨0,Nat.zero_le _,rfl⟩
   case round=>
    obtain⟨k,hk,rfl⟩:=hrel;by_cases hlt:k < a4.size
    ·obtain⟨z,hz⟩:∃z,a4[k].toNat=z:=⟨_,rfl⟩
     have hbz:=uh HB4' k hlt;rw[<-z18 a4 k hlt,hz,<-uh HS3] at hbz;obtain⟨y,hy⟩:∃y,y=z - 49:=⟨_,rfl⟩
     have hzy:(z:Int) - 49=y:=by omega
     have l6:(k:Int) < a4.size:=by omega
     have l7:¬(y:Int) < 0:=by omega
     have l7b:decide ((y:Int) < 0)=false:=by simp
     have l8:¬(a3.size:Int)<=y:=by omega
     have hyb:y<=300:=by have:=a4[k].toNat_lt; omega
     clear hy;go_wp2
     exact⟨⟨k+1,by omega,by go_num⟩,by simp[intOf]; omega⟩
    ·have l6:¬(k:Int) < a4.size:=by omega
     go_wp2
     go_ret2
     exact⟨gt,rfl,Nat.le_of_eq (uh HG).symm,uh HO6,below_drewN (uh HB6) _⟩
theorem CRtL.far {n:Nat} {w w':World} {r:Rt} {cs:List Value} (h:CRtL n w r cs) (hs:∀k,n<=k->k < w.heap.size->w'.heap[k]?=w.heap[k]?):CRt w' r cs:=by
 obtain⟨⟨vp,vf,rfl,a,b⟩,hl⟩:=h;exact⟨vp,vf,rfl,SlAt.far a (hl _ (by simp)) hs (fun _ _ h=>h),SlAt.far b (hl _ (by simp)) hs (fun _ _ h=>h)⟩
theorem CTnL.far {n:Nat} {w w':World} {r:Tn} {cs:List Value} (h:CTnL n w r cs) (hs:∀k,n<=k->k < w.heap.size->w'.heap[k]?=w.heap[k]?):CTn w' r cs:=by
 obtain⟨⟨vj,rfl,a⟩,hl⟩:=h;exact⟨vj,rfl,SlAt.far a (hl _ (by simp)) hs (fun _ _ h=>h)⟩
theorem LayIn.far {n:Nat} {w:World} {v:Value} {L:Lay} (h:CLayL n w v L):LayIn (fun k=>n<=k/\k < w.heap.size) w v L:=
 ⟨fun _ hk=>hk.2,fun w' hs=>by
  obtain⟨vs,vr,vt,e,a,b,c,l1,l2,l3⟩:=h;have hs':∀k,n<=k->k < w.heap.size->w'.heap[k]?=w.heap[k]?:=fun k h1 h2=>hs k ⟨h1,h2⟩;exact⟨vs,vr,vt,e,SlAt.far a l1 hs' (fun _ _ h=>h),SlAt.far b l2 hs' (fun _ _ h=>h.far hs'),SlAt.far c l3 hs' (fun _ _ h=>h.far hs')⟩⟩
theorem pnew_any (s:ByteArray) (w:World) :
  Calls Tryz.prog 28 #[.string s] w fun e w'=>
   (((errOf s.data.toList).1≠0/\e=.returned (.tuple #[.pointer none,.int .i64 (errOf s.data.toList).1])) ∨
    ((errOf s.data.toList).1=0/\∃g,e=.returned (.tuple #[.pointer (some ⟨g,0,none⟩),.int .i64 0])/\w.heap.size<=g/\PBoxIn w' (fun b=>w.heap.size<=b/\b < w'.heap.size) g (PBx.init (layOf s.data.toList))))/\Below w.heap.size w w':=by
 have hF:=(load_eq s).1;have H1:=pNew_of s (z55 s) (layL s).2.2 w.heap.size w (Nat.le_refl _) ((load_lo s w (read_paths s)).mono (fun e w' ⟨v,h1,h2,h3,h4⟩=>⟨v,h1,h2,fun h=>⟨_,LayIn.far (h3 h).1,fun _ hk=>hk.1⟩,h4⟩)) (fun h=>by
  rw[hF] at h;obtain⟨e1,e2⟩:=lay_same s h;rw[e1]; exact big_small e2)
 rw[hF] at H1;refine H1.mono ?_;rintro e w' ⟨hc,hb⟩;refine⟨?_,hb⟩;rcases hc with ⟨h1,h2⟩ | ⟨h1,g,h2,h3,h4⟩
 ·exact .inl ⟨h1,h2⟩
 ·refine .inr ⟨h1,g,h2,h3,?_⟩
  rw[<-(lay_same s h1).1];exact h4
def BoxC (w:World) (D:Nat->Prop) (g:Nat) (C:RBx):Prop:=∃B,PBoxIn w D g B/\Sim B C/\Inv C
theorem BoxC.inv {w:World} {D:Nat->Prop} {g:Nat} {C:RBx} (h:BoxC w D g C):Inv C:=by obtain⟨_,_,_,h⟩:=h; exact h
theorem BoxC.lt {w:World} {D:Nat->Prop} {g:Nat} {C:RBx} (h:BoxC w D g C):∀b,D b->b < w.heap.size:=by obtain⟨_,h,_⟩:=h; exact h.lt
theorem BoxC.only {w w':World} {D F:Nat->Prop} {g:Nat} {C:RBx} (h:BoxC w D g C) (ho:Only F w w') (hd:∀k,D k->¬F k):BoxC w' D g C:=by
 obtain⟨B,a,b⟩:=h;exact⟨B,a.only ho hd,b⟩
theorem BoxC.below {w w':World} {D:Nat->Prop} {g:Nat} {C:RBx} (h:BoxC w D g C) (hb:Below w.heap.size w w'):BoxC w' D g C:=h.only (F:=fun _=>False) (Only.of_below hb) (fun _ _ h=>h)
theorem kcycle_any (D:Nat->Prop) (g:Nat) (C:RBx) (s:ByteArray) (w:World) (h:BoxC w D g C) :
  Calls Tryz.prog 11 #[.pointer (some ⟨g,0,none⟩),.string s] w fun e w'=>e=.returned (.string (C.ans s))/\BoxC w' (grow D w w') g (C.cyc s)/\Only D w w':=by
 obtain⟨B,hP,hs,hi⟩:=h;obtain⟨k1,-,k3,k4,-,ka⟩:=hs.cyc hi s;refine(pCycle_any D g B s w hP k1).mono ?_;rintro e w' ⟨h1,h2,h3⟩;rw[ka] at h1;exact⟨h1,⟨_,h2,k3,k4⟩,h3⟩
def awakeS:ByteArray:=⟨#[49,49,49,47,46,46,47,97,62,98,47,97,65]⟩
def awakeL:Lay:=layOf awakeS.data.toList
theorem awake_err:(errOf awakeS.data.toList).1=0:=by decide +kernel
theorem awake1:(RBx.init awakeL).ans ⟨#[49,48,114,49]⟩=⟨#[61,114,47,47,113,47,49]⟩:=by decide +kernel
theorem awake2:((RBx.init awakeL).cyc ⟨#[49,48,114,49]⟩).ans ⟨#[49,48]⟩=⟨#[61,103,47,47,47]⟩:=by decide +kernel
theorem kawake_any (w:World):Calls Tryz.prog 30 #[] w fun e w'=>e=.returned (.bool true)/\Below w.heap.size w w':=by
 have H1:=zh (pnew_any awakeS w);have HI:=zh (init_inv (z4e awakeS awake_err).1);have HC1:=zh (fun (D:Nat->Prop) (g:Nat) (wz:World) (h:BoxC wz D g (RBx.init awakeL))=>kcycle_any D g (RBx.init awakeL) ⟨#[49,48,114,49]⟩ wz h);rw[awake1] at HC1;have HC2:=zh (fun (D:Nat->Prop) (g:Nat) (wz:World) (h:BoxC wz D g ((RBx.init awakeL).cyc ⟨#[49,48,114,49]⟩))=>kcycle_any D g ((RBx.init awakeL).cyc ⟨#[49,48,114,49]⟩) ⟨#[49,48]⟩ wz h);rw[awake2] at HC2;rw[awake_err] at H1;change Hid (Inv (RBx.init awakeL)) at HI;have e0:layOf awakeS.data.toList=awakeL:=rfl;rw[e0] at H1;unfold awakeS at H1;generalize awakeL=L at *;clear e0;generalize (RBx.init L).cyc ⟨#[49,48,114,49]⟩=C1 at *;generalize C1.cyc ⟨#[49,48]⟩=C2 at *;go_enter Tryz.func30,Tryz.ntmps30
 go_wp2_with fail
 refine(uh H1).mono ?_;rintro e w1 ⟨hcase,hb1⟩;have HB1:=zh hb1;clear hb1;rcases hcase with ⟨hx,-⟩ | ⟨-,g,rfl,hg,hP⟩
 ·exact absurd rfl hx
 have HP:=zh (show BoxC w1 (fun b=>w.heap.size<=b/\b < w1.heap.size) g (RBx.init L) from ⟨_,hP,init_sim,uh HI⟩);clear hP;go_wp2_with fail
 refine(uh HC1 _ _ _ (uh HP)).mono ?_;rintro e w2 ⟨rfl,hP2,ho2⟩;have HP2:=zh hP2;have HB2:=zh ((uh HB1).trans (ho2.belowK (fun b hb=>hb.1) (uh HB1).size));clear hP2 ho2;go_wp2_with fail
 refine(uh HC2 _ _ _ (uh HP2)).mono ?_;rintro e w3 ⟨rfl,-,ho3⟩;have HB3:=zh ((uh HB2).trans (ho3.belowK (fun b hb=>by
  rcases hb with hb | hb
  ·exact hb.1
  ·have:=(uh HB1).size; omega) (uh HB2).size))
 clear ho3;go_wp2
 go_ret
 exact⟨rfl,uh HB3⟩
def SgnOK (x:Nat×Nat):Prop:=x.2=0\/x.2=43\/x.2=45
theorem sgn_ok (c:Nat):sgn c=0\/sgn c=43\/sgn c=45:=by
 unfold sgn;by_cases h:c=43
 ·rw[if_pos h]; omega
 ·rw[if_neg h]
  by_cases h2:c=45
  ·rw[if_pos h2]; omega
  ·rw[if_neg h2]; omega
theorem pathL_signs (s:ByteArray):∀(f p:Nat) (x:Nat×Nat),x∈(pathL s f p).1->SgnOK x
 | 0,p,x,h=>by simp[pathL] at h
 | f+1,p,x,h=>by
  unfold pathL at h;split at h
  ·rcases List.mem_cons.1 h with rfl | h
   ·exact sgn_ok _
   ·exact pathL_signs s f _ x h
  ·simp at h
theorem flankL_signs (s:ByteArray):∀(f p:Nat) (x:Nat×Nat),x∈(z11 s f p).1->SgnOK x
 | 0,p,x,h=>by simp[z11] at h
 | f+1,p,x,h=>by
  unfold z11 at h;split at h
  ·split at h
   ·simp at h
   ·rcases List.mem_cons.1 h with rfl | h
    ·exact sgn_ok _
    ·exact flankL_signs s f (p+2) x h
  ·simp at h
theorem routeL_signs (s:ByteArray) (p:Nat) (x:Nat×Nat) (h:x∈(z15 s p).2.2.path\/x∈(z15 s p).2.2.flank):SgnOK x:=by
 unfold z15 at h;split at h
 ·simp[Rt0] at h
 split at h
 ·simp[Rt0] at h
 split at h
 ·simp[Rt0] at h
 split at h
 ·rcases h with h | h
  ·exact pathL_signs s _ _ x h
  ·simp at h
 ·rcases h with h | h
  ·exact pathL_signs s _ _ x h
  ·exact flankL_signs s _ _ x h
theorem rtsL_signs (s:ByteArray):∀(f p:Nat) (r:Rt),r∈(rtsL s f p).2.2->∀x,x∈r.path\/x∈r.flank->SgnOK x
 | 0,p,r,h=>by simp[rtsL] at h
 | f+1,p,r,h=>by
  unfold rtsL at h;split at h
  ·simp at h
  ·split at h
   ·rcases List.mem_cons.1 h with rfl | h
    ·exact fun x=>routeL_signs s p x
    ·exact rtsL_signs s f _ r h
   ·rcases List.mem_cons.1 h with rfl | h
    ·exact fun x=>routeL_signs s p x
    ·simp at h
def Lay.Signs (L:Lay):Prop:=∀r,r∈L.rts->∀x,x∈r.path\/x∈r.flank->SgnOK x
theorem layL_signs (s:ByteArray):(layL s).2.2.Signs:=by
 intro r h;unfold layL at h;split at h
 ·simp at h
 split at h
 ·simp at h
 split at h
 ·simp at h
 split at h
 ·simp at h
 split at h
 ·simp at h
 split at h
 ·simp at h
 ·exact rtsL_signs s _ _ r h
theorem z41 {l:List (Nat×Nat)} {s v:Nat} (h:z1l l s=some v):∃x,x∈l/\x.1=s/\x.2=v:=by
 unfold z1l at h;cases hf:l.find? (fun x=>x.1==s) with
 | none=>rw[hf] at h; cases h
 | some x=>
  rw[hf] at h;have hv:x.2=v:=by simpa using h
  have:=List.find?_some hf;exact⟨x,List.mem_of_find?_eq_some hf,by simpa using this,hv⟩
theorem wantsF_ok {L:Lay} (h:L.Signs) (r s:Nat):L.wantsF r s=0\/L.wantsF r s=43\/L.wantsF r s=45:=by
 by_cases hr:r < L.rts.length
 ·have hm:L.rt r∈L.rts:=by unfold Lay.rt; rw[z05 hr]; exact List.getElem_mem hr
  unfold Lay.wantsF;cases hp:z1l (L.rt r).path s with
  | some v=>
   obtain⟨x,h1,-,h3⟩:=z41 hp;have:=h _ hm x (.inl h1);unfold SgnOK at this;rw[h3] at this;exact this
  | none=>
   cases hq:z1l (L.rt r).flank s with
   | some v=>
    obtain⟨x,h1,-,h3⟩:=z41 hq;have:=h _ hm x (.inr h1);unfold SgnOK at this;rw[h3] at this
    simpa [hq] using this
   | none=>left; simp
 ·left
  have e:L.rt r=Rt0:=by unfold Lay.rt; rw[List.getD_eq_getElem?_getD,List.getElem?_eq_none (by omega)]; rfl
  unfold Lay.wantsF;rw[e];rfl
def WantOK (C:RBx):Prop:=∀s,C.L.sw.getD s false=true->C.wanted.getD s 0=43\/C.wanted.getD s 0=45
theorem WantOK.init (L:Lay):WantOK (RBx.init L):=by
 intro s hs;left;have hs':L.sw.getD s false=true:=hs;show (L.sw.map (fun b=>if b then 43 else 0)).getD s 0=43;have hl:s < L.sw.length:=by
  rcases Nat.lt_or_ge s L.sw.length with h | h
  ·exact h
  ·rw[List.getD_eq_getElem?_getD,List.getElem?_eq_none h] at hs'; cases hs'
 rw[z05 (by simpa using hl),List.getElem_map];rw[z05 hl] at hs';rw[hs']; rfl
theorem z0l (C:RBx) (f:Fr):∀k,(C.watchN f k).wanted=C.wanted/\(C.watchN f k).L=C.L/\(C.watchN f k).lines=C.lines/\(C.watchN f k).sta=C.sta/\(C.watchN f k).waits=C.waits
 | 0=>⟨rfl,rfl,rfl,rfl,rfl⟩
 | k+1=>by
  obtain⟨a,b,c,d,e⟩:=z0l C f k;show ((C.watchN f k).watch1 f k).wanted=_/\((C.watchN f k).watch1 f k).L=_/\((C.watchN f k).watch1 f k).lines=_/\((C.watchN f k).watch1 f k).sta=_/\((C.watchN f k).watch1 f k).waits=_;unfold RBx.watch1;split <;> exact⟨a,b,c,d,e⟩
theorem z5s (C:RBx) (f:Fr) (r:Nat):(C.step f r).wanted=C.wanted/\(C.step f r).L=C.L/\(C.step f r).failed=C.failed/\(C.step f r).late=C.late/\(C.step f r).waits=C.waits:=by
 unfold RBx.step RBx.passed
 repeat' split
 all_goals exact⟨rfl,rfl,rfl,rfl,rfl⟩
theorem z27 (C:RBx) (f:Fr):∀k,(C.stepN f k).wanted=C.wanted/\(C.stepN f k).L=C.L/\(C.stepN f k).failed=C.failed/\(C.stepN f k).late=C.late/\(C.stepN f k).waits=C.waits
 | 0=>⟨rfl,rfl,rfl,rfl,rfl⟩
 | k+1=>by
  obtain⟨a,b,c,d,e⟩:=z27 C f k;obtain⟨a',b',c',d',e'⟩:=z5s (C.stepN f k) f k;exact⟨a'.trans a,b'.trans b,c'.trans c,d'.trans d,e'.trans e⟩
theorem doC_keep (C:RBx) (f:Fr) (c x:Nat):(C.doC f c x).wanted=C.wanted/\(C.doC f c x).L=C.L/\(C.doC f c x).late=C.late/\(C.doC f c x).sta=C.sta:=by
 unfold RBx.doC RBx.ask RBx.cancel
 repeat' split
 all_goals exact⟨rfl,rfl,rfl,rfl⟩
theorem z56 (C:RBx) (f:Fr):∀k,(C.doN f k).wanted=C.wanted/\(C.doN f k).L=C.L/\(C.doN f k).late=C.late/\(C.doN f k).sta=C.sta
 | 0=>⟨rfl,rfl,rfl,rfl⟩
 | k+1=>by
  obtain⟨a,b,c,d⟩:=z56 C f k;obtain⟨a',b',c',d'⟩:=doC_keep (C.doN f k) f (pk f.cmds (2*k)) (pk f.cmds (2*k+1));exact⟨a'.trans a,b'.trans b,c'.trans c,d'.trans d⟩
theorem wantN_ok {C:RBx} (hS:C.L.Signs) (hW:WantOK C) (r:Nat):∀k,WantOK (C.wantN r k)/\(C.wantN r k).L=C.L
 | 0=>⟨hW,rfl⟩
 | k+1=>by
  obtain⟨a,b⟩:=wantN_ok hS hW r k;show WantOK ((C.wantN r k).wantK r k)/\((C.wantN r k).wantK r k).L=C.L;unfold RBx.wantK;by_cases h:(C.wantN r k).L.wantsF r k=0
  ·rw[if_pos h]; exact⟨a,b⟩
  ·rw[if_neg h]
   refine⟨?_,b⟩;intro s hs;show ((C.wantN r k).wanted.set k ((C.wantN r k).L.wantsF r k)).getD s 0=43\/_;have hv:=wantsF_ok (L:=(C.wantN r k).L) (by rw[b]; exact hS) r k;have ha:=a s hs;by_cases e:s=k
   ·subst e
    by_cases hl:s < (C.wantN r s).wanted.length
    ·rw[z0d _ _ _ _ _ hl,if_pos rfl]; omega
    ·have e2:(C.wantN r s).wanted.set s ((C.wantN r s).L.wantsF r s)=(C.wantN r s).wanted:=List.set_eq_of_length_le (by omega)
     rw[e2]; exact ha
   ·rw[z0h _ _ _ _ _ e]; exact ha
theorem grant_ok {C:RBx} (hS:C.L.Signs) (hW:WantOK C) (f:Fr) (t:Nat):WantOK (C.grant f t)/\(C.grant f t).L=C.L:=by
 unfold RBx.grant;split
 ·have h:=wantN_ok (C:={ C with sta:=C.more t }) hS hW (C.nxt t) C.L.sw.length
  exact⟨fun s hs=>h.1 s (by have hs':(C.given (C.nxt t) t).L.sw.getD s false=true:=hs; exact hs'),h.2⟩
 ·exact⟨hW,rfl⟩
theorem grantN_ok {C:RBx} (hS:C.L.Signs) (hW:WantOK C) (f:Fr):∀k,WantOK (C.grantN f k)/\(C.grantN f k).L=C.L
 | 0=>⟨hW,rfl⟩
 | k+1=>by
  obtain⟨a,b⟩:=grantN_ok hS hW f k;obtain⟨a',b'⟩:=grant_ok (C:=C.grantN f k) (by rw[b]; exact hS) a f (C.waits.getD k 0);exact⟨a',b'.trans b⟩
theorem WantOK.of {C C':RBx} (h:WantOK C) (hw:C'.wanted=C.wanted) (hL:C'.L=C.L):WantOK C':=by
 intro s hs;rw[hL] at hs;rw[hw];exact h s hs
theorem s3_keep (C:RBx) (f:Fr):(C.s3 f).wanted=C.wanted/\(C.s3 f).L=C.L:=by
 obtain⟨a1,b1,-⟩:=z0l C f C.L.sw.length;obtain⟨a2,b2,-⟩:=z27 (C.s1 f) f (C.s1 f).lines.length;obtain⟨a3,b3,-⟩:=z56 (C.s2 f) f (f.cmds.size / 2);exact⟨a3.trans (a2.trans a1),b3.trans (b2.trans b1)⟩
theorem s4_ok {C:RBx} (hS:C.L.Signs) (hW:WantOK C) (f:Fr):WantOK (C.s4 f)/\(C.s4 f).L=C.L:=by
 obtain⟨a,b⟩:=s3_keep C f;have h:=grantN_ok (C:=C.s3 f) (by rw[b]; exact hS) (hW.of a b) f (C.s3 f).waits.length;exact⟨h.1,h.2.trans b⟩
theorem cyc_ok {C:RBx} (hS:C.L.Signs) (hW:WantOK C) (s:ByteArray):WantOK (C.cyc s)/\(C.cyc s).L=C.L:=by
 unfold RBx.cyc;split
 ·exact s4_ok hS hW _
 ·exact⟨hW,rfl⟩
theorem z0s (l:List Nat):(z0i l).size=l.length:=by
 show (l.map UInt8.ofNat).toArray.size=_;simp
theorem z2j {l:List Nat} (h:∀x,x∈l->x < 256) (i:Nat):pk (z0i l) i=l.getD i 0:=by
 unfold pk z0i;show ((l.map UInt8.ofNat).toArray.toList.getD i 0).toNat=_;rw[List.toList_toArray];rcases Nat.lt_or_ge i l.length with hi | hi
 ·rw[z05 (by simpa using hi),z05 hi,List.getElem_map,UInt8.toNat_ofNat']
  have:=h l[i] (List.getElem_mem hi);omega
 ·rw[List.getD_eq_getElem?_getD,List.getElem?_eq_none (by simpa using hi),List.getD_eq_getElem?_getD,List.getElem?_eq_none hi]; rfl
theorem flat_len (sw:List Bool) (F:Nat->List Nat) (h:∀s,s < sw.length->(F s).length=if sw.getD s false then 1 else 0):((List.range sw.length).flatMap F).length=cntT sw:=by
 have key:∀k,k<=sw.length->((List.range k).flatMap F).length=cntT (sw.take k):=by
  intro k
  induction k with
  | zero=>intro _; rfl
  | succ k ih=>
   intro hk;rw[List.range_succ,List.flatMap_append,List.length_append,ih (by omega)];have e:sw.take (k+1)=sw.take k++[sw[k]]:=List.take_succ_eq_append_getElem (by omega);rw[e];have e2:cntT (sw.take k++[sw[k]])=cntT (sw.take k)+cntT [sw[k]]:=by unfold cntT; rw[List.filter_append,List.length_append]
   rw[e2];simp only[List.flatMap_cons,List.flatMap_nil,List.append_nil];rw[h k (by omega),z05 (by omega)];cases sw[k] <;> rfl
 have:=key sw.length (Nat.le_refl _);rw[List.take_length] at this;exact this
theorem lock_256 (o:Option Nat) (h:∀r,o=some r->r<=100):lockC o < 256:=by
 cases o with
 | none=>decide
 | some r=>have:=h r rfl; show 65+r < 256; omega
def lkS (C:RBx):ByteArray:=z0i C.locksT
def phS (C:RBx):ByteArray:=z0i C.phasesT
def swS (C:RBx):ByteArray:=z0i C.switchesT
def atS (C:RBx):ByteArray:=z0i C.stateT
def quS (C:RBx):ByteArray:=z0i C.queueT
theorem Inv.askOK {C:RBx} (h:Inv C):AskOK C.L (lkS C) (phS C) (swS C) (atS C) (quS C):=by
 have h1:=h.lay.sw;have h2:=h.lay.rl;have h3:=h.lay.good.tns;have h4:=h.wq;have h5:=h.lay.Q;have hst:∀x,x∈C.stateT->x < 256:=by
  intro x hx;obtain⟨y,hy,rfl⟩:=List.mem_map.1 hx;have:=h.sta8 y hy;omega
 have hqt:∀x,x∈C.queueT->x < 256:=by
  intro x hx;obtain⟨y,hy,rfl⟩:=List.mem_map.1 hx;have:=(h.wt y hy).1;omega
 refine⟨?_,?_,?_,?_,?_,?_,?_,by omega,by omega,by omega,fun t ht=>by have:=h.lay.good.jl t ht; omega⟩
 ·unfold lkS; rw[z0s]; unfold RBx.locksT; simp
 ·unfold phS; rw[z0s]; unfold RBx.phasesT; rw[List.length_map]; exact h.ll
 ·unfold swS; rw[z0s]; unfold RBx.switchesT
  refine flat_len _ _ (fun s _=>?_);unfold RBx.swT;split <;> rfl
 ·unfold atS; rw[z0s]; unfold RBx.stateT; rw[List.length_map]; exact h.st
 ·unfold quS; rw[z0s]; unfold RBx.queueT; rw[List.length_map]; omega
 ·intro k hk
  unfold atS at hk ⊢;rw[z0s] at hk;rw[z2j hst];unfold RBx.stateT at hk ⊢;have hk':k < C.sta.length:=by simpa using hk
  rw[z05 hk,List.getElem_map];have:=h.sj k;rw[z05 hk'] at this;omega
 ·intro k hk
  unfold quS at hk ⊢;rw[z0s] at hk;rw[z2j hqt];unfold RBx.queueT at hk ⊢;have hk':k < C.waits.length:=by simpa using hk
  rw[z05 hk,List.getElem_map];have:=(h.wt C.waits[k] (List.getElem_mem hk')).1;omega
def laS (C:RBx) (s:ByteArray):ByteArray:=z0i (C.s4 (C.L.frOf s)).lampsT
def moS (C:RBx) (s:ByteArray):ByteArray:=z0i ((C.s4 (C.L.frOf s)).movesT (C.L.frOf s))
def anS (C:RBx) (s:ByteArray):ByteArray:=z0i ((C.s2 (C.L.frOf s)).doAs (C.L.frOf s) ((C.L.frOf s).cmds.size / 2))
def grS (C:RBx) (s:ByteArray):ByteArray:=z0i (((C.s3 (C.L.frOf s)).servN (C.L.frOf s) (C.s3 (C.L.frOf s)).waits.length).map (49+·))
theorem ans_hear (C:RBx) (s:ByteArray) (h:C.L.frameB s=true):C.ans s=hearS (laS C s) (moS C s) (anS C s) (grS C s):=by
 unfold RBx.ans;rw[if_pos h];unfold hearS tailS laS moS anS grS RBx.ansB ansL z0i;simp
theorem ans_none (C:RBx) (s:ByteArray) (h:C.L.frameB s=false):C.ans s=⟨#[33]⟩:=by
 unfold RBx.ans;rw[if_neg (by simp[h])]
theorem doA_ne (C:RBx) (c x:Nat):C.doA c x≠47/\C.doA c x < 256:=by
 unfold RBx.doA RBx.askA
 repeat' split
 all_goals omega
structure Stgs (C:RBx) (f:Fr):Prop where
 w:∀k,k<=C.L.sw.length->Inv (C.watchN f k)
 i1:Inv (C.s1 f)
 t:∀k,k<=C.L.rts.length->Inv ((C.s1 f).stepN f k)
 i2:Inv (C.s2 f)
 d:∀k,k<=f.cmds.size / 2->Inv ((C.s2 f).doN f k)
 i3:Inv (C.s3 f)
 g:∀k,k<=(C.s3 f).waits.length->Inv { (C.s3 f).grantN f k with waits:=(C.s3 f).leftN f k++(C.s3 f).waits.drop k }
 i4:Inv (C.s4 f)
 l1:(C.s1 f).L=C.L
 l2:(C.s2 f).L=C.L
 l3:(C.s3 f).L=C.L
 l4:(C.s4 f).L=C.L
 n2:C.s2 f=(C.s1 f).stepN f C.L.rts.length
 sv:∀t,t∈(C.s3 f).servN f (C.s3 f).waits.length->t∈(C.s3 f).waits
 ol:f.occ.length=C.L.sw.length
 pl:f.rep.length=C.L.sw.length
 cm:∀j,j < f.cmds.size / 2->C.L.cmdB (pk f.cmds (2*j)) (pk f.cmds (2*j+1))=true
theorem stages {B:PBx} {C:RBx} (h:Sim B C) (hi:Inv C) (s:ByteArray) (hfb:C.L.frameB s=true):Stgs C (C.L.frOf s):=by
 have hf:=frS_of C.L s;obtain⟨z1,z2,z3,z4,z5⟩:=z4r C.L s hfb;generalize C.L.pfrOf s=pf at *;generalize C.L.frOf s=f at *;obtain⟨a1,b1,c1⟩:=h.watchN hi hf C.L.sw.length (Nat.le_refl _);have a1':Sim (B.s1 pf) (C.s1 f):=by unfold PBx.s1 RBx.s1 RBx.watch; rw[h.sl]; exact a1
 have b1':Inv (C.s1 f):=b1;have c1':(C.s1 f).L=C.L:=c1;have hf1:FrS pf f (C.s1 f).L:=by rw[c1']; exact hf
 have hs2:=fun k hk=>a1'.stepN b1' hf1 k hk;obtain⟨a2,b2,c2⟩:=hs2 (C.s1 f).L.rts.length (Nat.le_refl _);have a2':Sim (B.s2 pf) (C.s2 f):=by unfold PBx.s2 RBx.s2; rw[a1'.rl,b1'.ll]; exact a2
 have b2':Inv (C.s2 f):=by unfold RBx.s2; rw[b1'.ll]; exact b2
 have c2':(C.s2 f).L=C.L:=by unfold RBx.s2; rw[b1'.ll]; exact c2.trans c1'
 have hf2:FrS pf f (C.s2 f).L:=by rw[c2']; exact hf
 have n3:f.cmds.size / 2=(s.size - C.L.bgn) / 2:=by rw[z3]
 have hs3:=a2'.doN b2' hf2 ((s.size - C.L.bgn) / 2) (by rw[c2']; exact z5);obtain⟨a3,b3,c3,d3⟩:=hs3 ((s.size - C.L.bgn) / 2) (Nat.le_refl _);have a3':Sim (B.s3 pf) (C.s3 f):=by unfold PBx.s3 RBx.s3; rw[z4,n3]; exact a3
 have b3':Inv (C.s3 f):=by unfold RBx.s3; rw[n3]; exact b3
 have c3':(C.s3 f).L=C.L:=by unfold RBx.s3; rw[n3]; exact c3.trans c2'
 have hf3:FrS pf f (C.s3 f).L:=by rw[c3']; exact hf
 obtain⟨a4,b4,c4,d4,e4,g4⟩:=a3'.grants b3' hf3;exact⟨fun k hk=>(h.watchN hi hf k hk).2.1,b1',fun k hk=>(hs2 k (by rw[c1']; exact hk)).2.1,b2',fun k hk=>(hs3 k (by omega)).2.1,b3',fun k hk=>(a3'.grantN b3' hf3 k hk).2.1,b4,c1',c2',c3',c4.trans c3',by unfold RBx.s2; rw[b1'.ll,c1'],e4,hf.ol,hf.pl,fun j hj=>(z5 j (by omega)).1⟩
theorem hearOK {B:PBx} {C:RBx} (hs:Sim B C) (h:Inv C) (hS:C.L.Signs) (hW:WantOK C) (s:ByteArray) (hf:C.L.frameB s=true):HearOK C.L s (laS C s) (moS C s) (anS C s) (grS C s):=by
 obtain⟨-,-,-,k4,k5,-⟩:=hs.cyc h s;have e4:C.cyc s=C.s4 (C.L.frOf s):=by unfold RBx.cyc; rw[if_pos hf]
 rw[e4] at k4 k5;have hW4:=(s4_ok hS hW (C.L.frOf s)).1;have h1:=h.lay.sw;have h2:=h.lay.rl;have h3:=h.lay.good.tns;have hcm:(C.L.frOf s).cmds.size=s.size - C.L.bgn:=z2v s C.L.bgn;have S:=stages hs h s hf;have hq3:∀t,t∈(C.s3 (C.L.frOf s)).servN (C.L.frOf s) (C.s3 (C.L.frOf s)).waits.length->t < C.L.tns.length:=by
  intro t ht;have:=(S.i3.wt t (S.sv t ht)).1;rw[S.l3] at this;exact this
 have hla:∀x,x∈(C.s4 (C.L.frOf s)).lampsT->x=103\/x=114:=by
  intro x hx;obtain⟨y,-,rfl⟩:=List.mem_map.1 hx;unfold rlampC;split <;> omega
 have hmo:∀x,x∈(C.s4 (C.L.frOf s)).movesT (C.L.frOf s)->x=43\/x=45\/x=46:=by
  intro x hx;unfold RBx.movesT at hx;obtain⟨q,-,hq⟩:=List.mem_flatMap.1 hx;unfold RBx.moveT at hq;split at hq
  ·rename_i hsw
   rw[List.mem_singleton.1 hq];unfold RBx.moveF;split
   ·have:=hW4 q hsw; omega
   ·omega
  ·simp at hq
 have hansw:∀x,x∈(C.s2 (C.L.frOf s)).doAs (C.L.frOf s) ((C.L.frOf s).cmds.size / 2)->x≠47/\x < 256:=by
  intro x hx;unfold RBx.doAs at hx;obtain⟨j,-,rfl⟩:=List.mem_map.1 hx;exact doA_ne _ _ _
 have hgr:∀x,x∈((C.s3 (C.L.frOf s)).servN (C.L.frOf s) (C.s3 (C.L.frOf s)).waits.length).map (49+·)->49<=x/\x < 49+C.L.tns.length:=by
  intro x hx;obtain⟨t,ht,rfl⟩:=List.mem_map.1 hx;have:=hq3 t ht;omega
 have hat:∀{l:List Nat} {i:Nat},i < l.length->l.getD i 0∈l:=fun {l i} hi=>by rw[z05 hi]; exact List.getElem_mem hi
 refine⟨?_,?_,?_,?_,?_,?_,?_,?_,by omega,by omega,by omega⟩
 ·unfold laS; rw[z0s]; unfold RBx.lampsT; rw[List.length_map,k4.ll,k5]
 ·unfold moS; rw[z0s]; unfold RBx.movesT
  rw[k5];refine flat_len _ _ (fun q _=>?_);unfold RBx.moveT;rw[k5];split <;> rfl
 ·unfold anS; rw[z0s]; unfold RBx.doAs; rw[List.length_map,List.length_range,hcm]
 ·unfold grS
  rw[z0s,List.length_map];have key:∀k,((C.s3 (C.L.frOf s)).servN (C.L.frOf s) k).length<=k:=by
   intro k
   induction k with
   | zero=>exact Nat.le_refl _
   | succ k ih=>
    show (if _ then _ else _:List Nat).length<=k+1;split
    ·rw[List.length_append]; simp; exact ih
    ·omega
  have hw9:(C.s3 (C.L.frOf s)).waits.length<=1000:=by
   have h4:=S.i3.wq;have h5:=S.i3.lay.Q;omega
  have:=key (C.s3 (C.L.frOf s)).waits.length;omega
 ·intro i hi
  unfold laS at hi ⊢;rw[z0s] at hi;rw[z2j (fun x hx=>by have:=hla x hx; omega)];exact hla _ (hat hi)
 ·intro i hi
  unfold moS at hi ⊢;rw[z0s] at hi;rw[z2j (fun x hx=>by have:=hmo x hx; omega)];exact hmo _ (hat hi)
 ·intro i hi
  unfold anS at hi ⊢;rw[z0s] at hi;rw[z2j (fun x hx=>(hansw x hx).2)];exact(hansw _ (hat hi)).1
 ·intro i hi
  unfold grS at hi ⊢;rw[z0s] at hi;rw[z2j (fun x hx=>by have:=hgr x hx; omega)];exact hgr _ (hat hi)
end Go.Proofs.YtkbpocecbcaiiabGreatDoor
