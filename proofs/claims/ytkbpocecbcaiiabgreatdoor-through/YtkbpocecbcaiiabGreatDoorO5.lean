import Derived.Test.YtkbpocecbcaiiabGreatDoorO4
import Derived.Laws.BytesArg
import Derived.Deep.AppendLies
namespace Go.Proofs.YtkbpocecbcaiiabGreatDoor
structure KP where
 has:List Bool
 pts:List Nat
 foot:List Nat
 path:List (List Nat)
 flank:List (List Nat)
 want:List (List Nat)
 stand:List Nat
 jny:List (List Nat)
def KP0:KP:=⟨[],[],[],[],[],[],[],[]⟩
def z0w {α:Type} (l:List α) (x:α):List α:=l.set (l.length - 1) x
def z0e (l:List (List Nat)):List Nat:=l.getD (l.length - 1) []
theorem z3q {α:Type} (l:List α) (x y:α):z0w (l++[x]) y=l++[y]:=by
 unfold z0w;simp only[List.length_append,List.length_cons,List.length_nil,Nat.zero_add,Nat.add_sub_cancel];rw[List.set_append_right _ _ (Nat.le_refl _)];simp
theorem z3r (l:List (List Nat)) (x:List Nat):z0e (l++[x])=x:=by
 unfold z0e;simp only[List.length_append,List.length_cons,List.length_nil,Nat.zero_add,Nat.add_sub_cancel];rw[List.getD_eq_getElem?_getD,List.getElem?_append_right (Nat.le_refl _)];simp
def KP.sec (k:KP) (c:Nat):KP:={ k with pts:=if c=121 then k.pts++[k.has.length] else k.pts,has:=k.has++[c==121] }
def KP.opn (k:KP) (ft:Nat) (P F W:List Nat):KP:={ k with foot:=k.foot++[ft],path:=k.path++[P],flank:=k.flank++[F],want:=k.want++[W] }
def KP.route (k:KP) (c b:Nat) (fresh beside:Bool):KP:=
 if fresh=true then k.opn (c - 97) [] [] (List.replicate k.has.length 0)
 else if c=43\/c=45 then { k with want:=z0w k.want ((z0e k.want).set (b - 97) c) }
 else if inB 97 112 c=true then
  if beside=true then { k with flank:=z0w k.flank (z0e k.flank++[c - 97]) } else { k with path:=z0w k.path (z0e k.path++[c - 97]) }
 else k
def KP.train (k:KP) (c:Nat) (fresh:Bool):KP:=
 if fresh=true then { k with stand:=k.stand++[c - 97],jny:=k.jny++[[]] } else { k with jny:=z0w k.jny (z0e k.jny++[c - 65]) }
structure KS where
 k:KP
 part:Nat
 bes:Bool
def z48 (s:ByteArray) (p:Nat):Bool:=pk s (p - 1)==47||pk s (p - 1)==44
def KS.step (x:KS) (s:ByteArray) (p:Nat):KS:=
 if pk s p=47 then ⟨x.k,x.part+1,false⟩
 else if pk s p=44 then ⟨x.k,x.part,false⟩
 else if pk s p=33 then ⟨x.k,x.part,true⟩
 else if x.part=1 then ⟨x.k.sec (pk s p),x.part,x.bes⟩
 else if x.part=2 then ⟨x.k.route (pk s p) (pk s (p - 1)) (z48 s p) x.bes,x.part,x.bes⟩
 else if x.part=3 then ⟨x.k.train (pk s p) (z48 s p),x.part,x.bes⟩
 else x
def kst (s:ByteArray):Nat->KS
 | 0=>⟨KP0,0,false⟩
 | i+1=>(kst s i).step s (3+i)
structure KOK (x:KS) (s:ByteArray) (p:Nat):Prop where
 rt:x.part=2->pk s p≠47->pk s p≠44->pk s p≠33->(z48 s p=true->97<=pk s p)/\(z48 s p=false->0 < x.k.foot.length/\(pk s p=43\/pk s p=45->97<=pk s (p - 1)/\pk s (p - 1) - 97 < x.k.has.length))
 tn:x.part=3->pk s p≠47->pk s p≠44->pk s p≠33->(z48 s p=true->97<=pk s p)/\(z48 s p=false->0 < x.k.jny.length/\65<=pk s p)
def Runs (s:ByteArray) (p q:Nat) (X Y:KS):Prop:=3<=p/\p<=q/\(kst s (p - 3)=X->kst s (q - 3)=Y/\∀i,p<=i->i < q->KOK (kst s (i - 3)) s i)
theorem Runs.refl (s:ByteArray) (p:Nat) (X:KS) (h:3<=p):Runs s p p X X:=⟨h,Nat.le_refl _,fun e=>⟨e,fun i h1 h2=>by omega⟩⟩
theorem Runs.trans {s:ByteArray} {p q r:Nat} {X Y Z:KS} (a:Runs s p q X Y) (b:Runs s q r Y Z):Runs s p r X Z:=by
 refine⟨a.1,Nat.le_trans a.2.1 b.2.1,fun e=>?_⟩;obtain⟨e1,h1⟩:=a.2.2 e;obtain⟨e2,h2⟩:=b.2.2 e1;refine⟨e2,fun i hi1 hi2=>?_⟩;by_cases h:i < q
 ·exact h1 i hi1 h
 ·exact h2 i (by omega) hi2
theorem Runs.one {s:ByteArray} {p:Nat} {X Y:KS} (h:3<=p) (hk:KOK X s p) (hY:X.step s p=Y):Runs s p (p+1) X Y:=by
 refine⟨h,by omega,fun e=>?_⟩;have e1:p+1 - 3=(p - 3)+1:=by omega
 have e2:3+(p - 3)=p:=by omega
 refine⟨?_,fun i h1 h2=>?_⟩
 ·rw[e1]
  show (kst s (p - 3)).step s (3+(p - 3))=Y;rw[e2,e,hY]
 ·obtain rfl:i=p:=by omega
  rw[e]; exact hk
theorem KOK.any {x:KS} {s:ByteArray} {p:Nat} (h2:x.part≠2) (h3:x.part≠3):KOK x s p:=⟨fun h=>absurd h h2,fun h=>absurd h h3⟩
theorem KOK.sep {x:KS} {s:ByteArray} {p:Nat} (h:pk s p=47\/pk s p=44\/pk s p=33):KOK x s p:=
 ⟨fun _ a b c=>by omega,fun _ a b c=>by omega⟩
def z03:Nat->List Bool->List Nat
 | _,[]=>[]
 | n,b :: l=>if b=true then n :: z03 (n+1) l else z03 (n+1) l
def KP.putS (k:KP) (l:List Bool):KP:={ k with has:=k.has++l,pts:=k.pts++z03 k.has.length l }
theorem secs_cons (k:KP) (c:Nat) (l:List Bool):(k.sec c).putS l=k.putS ((c==121) :: l):=by
 unfold KP.putS KP.sec;by_cases h:c=121
 ·simp[h,z03]
 ·simp[h,z03]
theorem secs_nil (k:KP):k.putS []=k:=by unfold KP.putS; simp[z03]
theorem sec_runs (s:ByteArray):∀(f p:Nat) (k:KP) (b:Bool),3<=p->Runs s p (secL s f p).2 ⟨k,1,b⟩ ⟨k.putS (secL s f p).1,1,b⟩
 | 0,p,k,b,h=>by
  show Runs s p p ⟨k,1,b⟩ ⟨k.putS [],1,b⟩;rw[secs_nil];exact Runs.refl s p _ h
 | f+1,p,k,b,h=>by
  unfold secL;by_cases hc:pk s p=46\/pk s p=121
  ·simp only[if_pos hc]
   have ih:=sec_runs s f (p+1) (k.sec (pk s p)) b (by omega);rw[secs_cons] at ih;refine Runs.trans (Runs.one h (KOK.any (by simp) (by simp)) ?_) ih;unfold KS.step;rw[if_neg (by omega),if_neg (by omega),if_neg (by omega),if_pos rfl]
  ·simp only[if_neg hc]
   rw[secs_nil];exact Runs.refl s p _ h
def z2a (W:List Nat) (l:List (Nat×Nat)):List Nat:=l.foldl (fun W x=>if x.2=0 then W else W.set x.1 x.2) W
theorem sgn_of {c:Nat} (h:sgn c≠0):(c=43\/c=45)/\sgn c=c:=by
 unfold sgn at h ⊢;by_cases h1:c=43
 ·rw[if_pos h1]; omega
 ·by_cases h2:c=45
  ·rw[if_neg h1,if_pos h2]; omega
  ·rw[if_neg h1,if_neg h2] at h; exact absurd rfl h
theorem inB_of {a b c:Nat} (h:inB a b c=true):a<=c/\c<=b:=by unfold inB at h; simpa using h
theorem opn_foot (k:KP) (ft:Nat) (P F W:List Nat):0 < (k.opn ft P F W).foot.length:=by unfold KP.opn; simp
theorem freshB_no {s:ByteArray} {p:Nat} (h1:pk s (p - 1)≠47) (h2:pk s (p - 1)≠44):z48 s p=false:=by unfold z48; simp[h1,h2]
theorem letter_step (s:ByteArray) (p:Nat) (k:KP) (ft:Nat) (P F W:List Nat) (bs:Bool) (h3:3<=p) (hc:inB 97 112 (pk s p)=true) (n1:pk s (p - 1)≠47) (n2:pk s (p - 1)≠44) :
  Runs s p (p+1) ⟨k.opn ft P F W,2,bs⟩ ⟨k.opn ft (if bs then P else P++[pk s p - 97]) (if bs then F++[pk s p - 97] else F) W,2,bs⟩:=by
 obtain⟨hc1,hc2⟩:=inB_of hc;have hf:=freshB_no n1 n2;refine Runs.one h3 ⟨fun _ _ _ _=>⟨fun _=>hc1,fun _=>⟨opn_foot ..,fun h=>by omega⟩⟩,fun h=>by simp at h⟩ ?_;unfold KS.step;rw[if_neg (by omega),if_neg (by omega),if_neg (by omega),if_neg (by simp),if_pos rfl];unfold KP.route;rw[hf,if_neg (by simp),if_neg (by omega),if_pos hc];cases bs
 ·simp only[Bool.false_eq_true,if_false]
  unfold KP.opn;simp only[z3r,z3q]
 ·simp only[if_true]
  unfold KP.opn;simp only[z3r,z3q]
theorem sign_step (s:ByteArray) (p:Nat) (k:KP) (ft:Nat) (P F W:List Nat) (bs:Bool) (h3:3<=p) (hc:inB 97 112 (pk s p)=true) (hn:pk s p - 97 < k.has.length) (hs:sgn (pk s (p+1))≠0) :
  Runs s (p+1) (p+2) ⟨k.opn ft P F W,2,bs⟩ ⟨k.opn ft P F (W.set (pk s p - 97) (sgn (pk s (p+1)))),2,bs⟩:=by
 obtain⟨hc1,hc2⟩:=inB_of hc;obtain⟨hs1,hs2⟩:=sgn_of hs;have ep:p+1 - 1=p:=by omega
 have hf:z48 s (p+1)=false:=freshB_no (by rw[ep]; omega) (by rw[ep]; omega);refine Runs.one (by omega) ⟨fun _ _ _ _=>⟨fun h=>absurd (hf.symm.trans h) (by simp),fun _=>⟨opn_foot ..,fun _=>by rw[ep]; exact⟨hc1,hn⟩⟩⟩,fun h=>by simp at h⟩ ?_;unfold KS.step;rw[if_neg (by omega),if_neg (by omega),if_neg (by omega),if_neg (by simp),if_pos rfl];unfold KP.route;rw[hf,if_neg (by simp),if_pos hs1,hs2,ep];unfold KP.opn;simp only[z3r,z3q]
theorem path_runs (s:ByteArray) (k:KP) (ft:Nat) (F:List Nat):∀(f p:Nat) (P W:List Nat),3<=p->pk s (p - 1)≠47->pk s (p - 1)≠44->(∀x,x∈(pathL s f p).1->x.1 < k.has.length) →
  Runs s p (pathL s f p).2 ⟨k.opn ft P F W,2,false⟩ ⟨k.opn ft (P++secs (pathL s f p).1) F (z2a W (pathL s f p).1),2,false⟩
 | 0,p,P,W,h,_,_,_=>by
  show Runs s p p _ ⟨k.opn ft (P++secs []) F (z2a W []),2,false⟩;simp only[secs,List.map_nil,List.append_nil,z2a,List.foldl_nil];exact Runs.refl s p _ h
 | f+1,p,P,W,h,n1,n2,hx=>by
  unfold pathL at hx ⊢;by_cases hc:inB 97 112 (pk s p)=true
  ·simp only[if_pos hc] at hx ⊢
   obtain⟨hc1,hc2⟩:=inB_of hc;have hn:pk s p - 97 < k.has.length:=hx _ (List.mem_cons_self ..);have hl:=letter_step s p k ft P F W false h hc n1 n2;simp only[Bool.false_eq_true,if_false] at hl;by_cases hs:sgn (pk s (p+1))=0
   ·have ea:adv (sgn (pk s (p+1)) != 0) (p+1)=p+1:=by unfold adv; rw[if_neg (by simp[hs])]
    rw[ea] at hx ⊢;have ih:=path_runs s k ft F f (p+1) (P++[pk s p - 97]) W (by omega) (by show pk s p≠47; omega) (by show pk s p≠44; omega) (fun x hx'=>hx x (List.mem_cons_of_mem _ hx'));have e1:P++secs ((pk s p - 97,sgn (pk s (p+1))) :: (pathL s f (p+1)).1)=P++[pk s p - 97]++secs (pathL s f (p+1)).1:=by simp[secs]
    have e2:z2a W ((pk s p - 97,sgn (pk s (p+1))) :: (pathL s f (p+1)).1)=z2a W (pathL s f (p+1)).1:=by
     unfold z2a; simp only[List.foldl_cons,if_pos hs]
    rw[e1,e2];exact hl.trans ih
   ·have ea:adv (sgn (pk s (p+1)) != 0) (p+1)=p+2:=by unfold adv; rw[if_pos (by simp[hs])]
    rw[ea] at hx ⊢;have hs1:=(sgn_of hs).1;have hg:=sign_step s p k ft (P++[pk s p - 97]) F W false h hc hn hs;have ih:=path_runs s k ft F f (p+2) (P++[pk s p - 97]) (W.set (pk s p - 97) (sgn (pk s (p+1)))) (by omega) (by show pk s (p+1)≠47; omega) (by show pk s (p+1)≠44; omega) (fun x hx'=>hx x (List.mem_cons_of_mem _ hx'));have e1:P++secs ((pk s p - 97,sgn (pk s (p+1))) :: (pathL s f (p+2)).1)=P++[pk s p - 97]++secs (pathL s f (p+2)).1:=by simp[secs]
    have e2:z2a W ((pk s p - 97,sgn (pk s (p+1))) :: (pathL s f (p+2)).1)=z2a (W.set (pk s p - 97) (sgn (pk s (p+1)))) (pathL s f (p+2)).1:=by
     unfold z2a; simp only[List.foldl_cons,if_neg hs]
    rw[e1,e2];exact(hl.trans hg).trans ih
  ·simp only[if_neg hc]
   simp only[secs,List.map_nil,List.append_nil,z2a,List.foldl_nil];exact Runs.refl s p _ h
theorem flank_runs (s:ByteArray) (k:KP) (ft:Nat) (P:List Nat):∀(f p:Nat) (F W:List Nat),3<=p->pk s (p - 1)≠47->pk s (p - 1)≠44->(z11 s f p).2.2=true->(∀x,x∈(z11 s f p).1->x.1 < k.has.length) →
  Runs s p (z11 s f p).2.1 ⟨k.opn ft P F W,2,true⟩ ⟨k.opn ft P (F++secs (z11 s f p).1) (z2a W (z11 s f p).1),2,true⟩
 | 0,p,F,W,h,_,_,_,_=>by
  show Runs s p p _ ⟨k.opn ft P (F++secs []) (z2a W []),2,true⟩;simp only[secs,List.map_nil,List.append_nil,z2a,List.foldl_nil];exact Runs.refl s p _ h
 | f+1,p,F,W,h,n1,n2,ho,hx=>by
  unfold z11 at ho hx ⊢;by_cases hc:inB 97 112 (pk s p)=true
  ·simp only[if_pos hc] at ho hx ⊢
   obtain⟨hc1,hc2⟩:=inB_of hc;by_cases hs:sgn (pk s (p+1))=0
   ·simp only[if_pos hs] at ho
    cases ho
   ·simp only[if_neg hs] at ho hx ⊢
    have hn:pk s p - 97 < k.has.length:=hx _ (List.mem_cons_self ..);have hl:=letter_step s p k ft P F W true h hc n1 n2;simp only[if_true] at hl;have hs1:=(sgn_of hs).1;have hg:=sign_step s p k ft P (F++[pk s p - 97]) W true h hc hn hs;have ih:=flank_runs s k ft P f (p+2) (F++[pk s p - 97]) (W.set (pk s p - 97) (sgn (pk s (p+1)))) (by omega) (by show pk s (p+1)≠47; omega) (by show pk s (p+1)≠44; omega) ho (fun x hx'=>hx x (List.mem_cons_of_mem _ hx'));have e1:F++secs ((pk s p - 97,sgn (pk s (p+1))) :: (z11 s f (p+2)).1)=F++[pk s p - 97]++secs (z11 s f (p+2)).1:=by simp[secs]
    have e2:z2a W ((pk s p - 97,sgn (pk s (p+1))) :: (z11 s f (p+2)).1)=z2a (W.set (pk s p - 97) (sgn (pk s (p+1)))) (z11 s f (p+2)).1:=by
     unfold z2a; simp only[List.foldl_cons,if_neg hs]
    rw[e1,e2];exact(hl.trans hg).trans ih
  ·simp only[if_neg hc]
   simp only[secs,List.map_nil,List.append_nil,z2a,List.foldl_nil];exact Runs.refl s p _ h
def z31 (n:Nat) (r:Rt):List Nat:=z2a (z2a (List.replicate n 0) r.path) r.flank
def KP.add (k:KP) (r:Rt):KP:=k.opn r.foot (secs r.path) (secs r.flank) (z31 k.has.length r)
theorem route_runs (s:ByteArray) (k:KP) (p:Nat) (h3:4<=p) (hf:pk s (p - 1)=47\/pk s (p - 1)=44) (ho:(z15 s p).1=true) (hx:∀x,x∈(z15 s p).2.2.path\/x∈(z15 s p).2.2.flank->x.1 < k.has.length) :
  ∃b,Runs s p (z15 s p).2.1 ⟨k,2,false⟩ ⟨k.add (z15 s p).2.2,2,b⟩:=by
 unfold z15 at ho hx ⊢;by_cases h1:inB 97 112 (pk s p)=false
 ·simp only[if_pos h1] at ho; cases ho
 simp only[if_neg h1] at ho hx ⊢;have hc:inB 97 112 (pk s p)=true:=by simpa using h1
 obtain⟨hc1,hc2⟩:=inB_of hc;by_cases h2:(pk s (p+1)==62)=false
 ·simp only[if_pos h2] at ho; cases ho
 simp only[if_neg h2] at ho hx ⊢;have h62:pk s (p+1)=62:=by simpa using h2
 by_cases h4:(pathL s 300 (p+2)).1.length=0
 ·simp only[if_pos h4] at ho; cases ho
 simp only[if_neg h4] at ho hx ⊢;have hfr:z48 s p=true:=by unfold z48; rcases hf with e | e <;> simp[e]
 have r1:Runs s p (p+1) ⟨k,2,false⟩ ⟨k.opn (pk s p - 97) [] [] (List.replicate k.has.length 0),2,false⟩:=by
  refine Runs.one (by omega) ⟨fun _ _ _ _=>⟨fun _=>hc1,fun h=>absurd (hfr.symm.trans h) (by simp)⟩,fun h=>by simp at h⟩ ?_;unfold KS.step;rw[if_neg (by omega),if_neg (by omega),if_neg (by omega),if_neg (by simp),if_pos rfl];unfold KP.route;rw[if_pos hfr]
 have r2:Runs s (p+1) (p+2) ⟨k.opn (pk s p - 97) [] [] (List.replicate k.has.length 0),2,false⟩ ⟨k.opn (pk s p - 97) [] [] (List.replicate k.has.length 0),2,false⟩:=by
  have hf2:z48 s (p+1)=false:=freshB_no (by show pk s p≠47; omega) (by show pk s p≠44; omega);refine Runs.one (by omega) ⟨fun _ _ _ _=>⟨fun h=>absurd (hf2.symm.trans h) (by simp),fun _=>⟨opn_foot ..,fun h=>by omega⟩⟩,fun h=>by simp at h⟩ ?_;unfold KS.step;rw[if_neg (by omega),if_neg (by omega),if_neg (by omega),if_neg (by simp),if_pos rfl];unfold KP.route;rw[hf2,h62,if_neg (by simp),if_neg (by omega),if_neg (by decide)]
 have hpx:∀x,x∈(pathL s 300 (p+2)).1->x.1 < k.has.length:=by
  intro x hx';by_cases h5:(pk s (pathL s 300 (p+2)).2==33)=false
  ·simp only[if_pos h5] at hx; exact hx x (Or.inl hx')
  ·simp only[if_neg h5] at hx; exact hx x (Or.inl hx')
 have r3:=path_runs s k (pk s p - 97) [] 300 (p+2) [] (List.replicate k.has.length 0) (by omega) (by show pk s (p+1)≠47; omega) (by show pk s (p+1)≠44; omega) hpx;have r4:=(r1.trans r2).trans r3;rw[List.nil_append] at r4;by_cases h5:(pk s (pathL s 300 (p+2)).2==33)=false
 ·simp only[if_pos h5]
  exact⟨false,r4⟩
 ·simp only[if_neg h5] at ho hx ⊢
  simp only[Bool.and_eq_true] at ho;have h33:pk s (pathL s 300 (p+2)).2=33:=by simpa using h5
  have r5:Runs s (pathL s 300 (p+2)).2 ((pathL s 300 (p+2)).2+1) ⟨k.opn (pk s p - 97) (secs (pathL s 300 (p+2)).1) [] (z2a (List.replicate k.has.length 0) (pathL s 300 (p+2)).1),2,false⟩ ⟨k.opn (pk s p - 97) (secs (pathL s 300 (p+2)).1) [] (z2a (List.replicate k.has.length 0) (pathL s 300 (p+2)).1),2,true⟩:=by
   refine Runs.one (Nat.le_trans r4.1 r4.2.1) (KOK.sep (.inr (.inr h33))) ?_;unfold KS.step;rw[if_neg (by omega),if_neg (by omega),if_pos h33]
  have r6:=flank_runs s k (pk s p - 97) (secs (pathL s 300 (p+2)).1) 300 ((pathL s 300 (p+2)).2+1) [] (z2a (List.replicate k.has.length 0) (pathL s 300 (p+2)).1) (by have:=r5.1; omega) (by show pk s (pathL s 300 (p+2)).2≠47; omega) (by show pk s (pathL s 300 (p+2)).2≠44; omega) ho.1 (fun x hx'=>hx x (Or.inr hx'));rw[List.nil_append] at r6;exact⟨true,(r4.trans r5).trans r6⟩
def KP.adds (k:KP) (l:List Rt):KP:=l.foldl KP.add k
theorem rts_runs (s:ByteArray):∀(f p:Nat) (k:KP),4<=p->(pk s (p - 1)=47\/pk s (p - 1)=44)->(rtsL s f p).1=true->(∀r,r∈(rtsL s f p).2.2->∀x,x∈r.path\/x∈r.flank->x.1 < k.has.length) →
  ∃b,Runs s p (rtsL s f p).2.1 ⟨k,2,false⟩ ⟨k.adds (rtsL s f p).2.2,2,b⟩
 | 0,p,k,_,_,ho,_=>by simp[rtsL] at ho
 | f+1,p,k,h4,hf,ho,hx=>by
  unfold rtsL at ho hx ⊢;by_cases h1:(z15 s p).1=false
  ·simp only[if_pos h1] at ho; cases ho
  simp only[if_neg h1] at ho hx ⊢;have ho1:(z15 s p).1=true:=by simpa using h1
  by_cases h2:(pk s (z15 s p).2.1==44)=true
  ·simp only[if_pos h2] at ho hx ⊢
   have h44:pk s (z15 s p).2.1=44:=by simpa using h2
   obtain⟨b,r1⟩:=route_runs s k p h4 hf ho1 (hx _ (List.mem_cons_self ..));have r2:Runs s (z15 s p).2.1 ((z15 s p).2.1+1) ⟨k.add (z15 s p).2.2,2,b⟩ ⟨k.add (z15 s p).2.2,2,false⟩:=by
    refine Runs.one (Nat.le_trans r1.1 r1.2.1) (KOK.sep (.inr (.inl h44))) ?_;unfold KS.step;rw[if_neg (by omega),if_pos h44]
   obtain⟨b',r3⟩:=rts_runs s f ((z15 s p).2.1+1) (k.add (z15 s p).2.2) (by have:=r1.2.1; omega) (Or.inr h44) ho (fun r hr=>hx r (List.mem_cons_of_mem _ hr));exact⟨b',(r1.trans r2).trans r3⟩
  ·simp only[if_neg h2] at hx ⊢
   exact route_runs s k p h4 hf ho1 (hx _ (List.mem_cons_self ..))
def KP.opnT (k:KP) (st:Nat) (J:List Nat):KP:={ k with stand:=k.stand++[st],jny:=k.jny++[J] }
theorem caps_runs (s:ByteArray) (k:KP) (st:Nat) (b:Bool):∀(f p:Nat) (J:List Nat),3<=p->pk s (p - 1)≠47->pk s (p - 1)≠44 →
  Runs s p (capsL s f p).2 ⟨k.opnT st J,3,b⟩ ⟨k.opnT st (J++(capsL s f p).1),3,b⟩
 | 0,p,J,h,_,_=>by
  show Runs s p p _ ⟨k.opnT st (J++[]),3,b⟩;rw[List.append_nil];exact Runs.refl s p _ h
 | f+1,p,J,h,n1,n2=>by
  unfold capsL;by_cases hc:inB 65 76 (pk s p)=true
  ·simp only[if_pos hc]
   obtain⟨hc1,hc2⟩:=inB_of hc;have hf:=freshB_no n1 n2;have r1:Runs s p (p+1) ⟨k.opnT st J,3,b⟩ ⟨k.opnT st (J++[pk s p - 65]),3,b⟩:=by
    refine Runs.one h ⟨fun h=>by simp at h,fun _ _ _ _=>⟨fun h=>absurd (hf.symm.trans h) (by simp),fun _=>⟨by unfold KP.opnT; simp,hc1⟩⟩⟩ ?_;unfold KS.step;rw[if_neg (by omega),if_neg (by omega),if_neg (by omega),if_neg (by simp),if_neg (by simp),if_pos rfl];unfold KP.train;rw[hf,if_neg (by simp)];unfold KP.opnT;simp only[z3r,z3q]
   have ih:=caps_runs s k st b f (p+1) (J++[pk s p - 65]) (by omega) (by show pk s p≠47; omega) (by show pk s p≠44; omega);rw[List.append_assoc] at ih;exact r1.trans ih
  ·simp only[if_neg hc,List.append_nil]
   exact Runs.refl s p _ h
def KP.addT (k:KP) (t:Tn):KP:=k.opnT t.start t.jny
theorem train_runs (s:ByteArray) (k:KP) (p:Nat) (h4:4<=p) (hf:pk s (p - 1)=47\/pk s (p - 1)=44) (ho:(z1c s p).1=true) :
  Runs s p (z1c s p).2.1 ⟨k,3,false⟩ ⟨k.addT (z1c s p).2.2,3,false⟩:=by
 unfold z1c at ho ⊢;by_cases h1:inB 97 112 (pk s p)=false
 ·simp only[if_pos h1] at ho; cases ho
 simp only[if_neg h1];have hc:inB 97 112 (pk s p)=true:=by simpa using h1
 obtain⟨hc1,hc2⟩:=inB_of hc;have hfr:z48 s p=true:=by unfold z48; rcases hf with e | e <;> simp[e]
 have r1:Runs s p (p+1) ⟨k,3,false⟩ ⟨k.opnT (pk s p - 97) [],3,false⟩:=by
  refine Runs.one (by omega) ⟨fun h=>by simp at h,fun _ _ _ _=>⟨fun _=>hc1,fun h=>absurd (hfr.symm.trans h) (by simp)⟩⟩ ?_;unfold KS.step;rw[if_neg (by omega),if_neg (by omega),if_neg (by omega),if_neg (by simp),if_neg (by simp),if_pos rfl];unfold KP.train;rw[if_pos hfr];rfl
 have r2:=caps_runs s k (pk s p - 97) false 300 (p+1) [] (by omega) (by show pk s p≠47; omega) (by show pk s p≠44; omega);exact r1.trans r2
def KP.addsT (k:KP) (l:List Tn):KP:=l.foldl KP.addT k
theorem tns_runs (s:ByteArray):∀(f p:Nat) (k:KP),4<=p->(pk s (p - 1)=47\/pk s (p - 1)=44)->(tnsL s f p).1=true →
  Runs s p (tnsL s f p).2.1 ⟨k,3,false⟩ ⟨k.addsT (tnsL s f p).2.2,3,false⟩
 | 0,p,k,_,_,ho=>by simp[tnsL] at ho
 | f+1,p,k,h4,hf,ho=>by
  unfold tnsL at ho ⊢;by_cases h1:(z1c s p).1=false
  ·simp only[if_pos h1] at ho; cases ho
  simp only[if_neg h1] at ho ⊢;have ho1:(z1c s p).1=true:=by simpa using h1
  have r1:=train_runs s k p h4 hf ho1;by_cases h2:(pk s (z1c s p).2.1==44)=true
  ·simp only[if_pos h2] at ho ⊢
   have h44:pk s (z1c s p).2.1=44:=by simpa using h2
   have r2:Runs s (z1c s p).2.1 ((z1c s p).2.1+1) ⟨k.addT (z1c s p).2.2,3,false⟩ ⟨k.addT (z1c s p).2.2,3,false⟩:=by
    refine Runs.one (Nat.le_trans r1.1 r1.2.1) (KOK.sep (.inr (.inl h44))) ?_;unfold KS.step;rw[if_neg (by omega),if_pos h44]
   have r3:=tns_runs s f ((z1c s p).2.1+1) (k.addT (z1c s p).2.2) (by have:=r1.2.1; omega) (Or.inr h44) ho;exact(r1.trans r2).trans r3
  ·simp only[if_neg h2]
   exact r1
def KP.of (L:Lay):KP:=⟨L.sw,z03 0 L.sw,L.rts.map (·.foot),L.rts.map (fun r=>secs r.path),L.rts.map (fun r=>secs r.flank),L.rts.map (z31 L.sw.length),L.tns.map (·.start),L.tns.map (·.jny)⟩
theorem adds_eq (l:List Rt):∀k:KP,k.adds l={ k with foot:=k.foot++l.map (·.foot),path:=k.path++l.map (fun r=>secs r.path),flank:=k.flank++l.map (fun r=>secs r.flank),want:=k.want++l.map (z31 k.has.length) }:=by
 induction l with
 | nil=>intro k; simp[KP.adds]
 | cons r l ih=>
  intro k;show (k.add r).adds l=_;rw[ih];simp[KP.add,KP.opn]
theorem addsT_eq (l:List Tn):∀k:KP,k.addsT l={ k with stand:=k.stand++l.map (·.start),jny:=k.jny++l.map (·.jny) }:=by
 induction l with
 | nil=>intro k; simp[KP.addsT]
 | cons r l ih=>
  intro k;show (k.addT r).addsT l=_;rw[ih];simp[KP.addT,KP.opnT]
theorem kread_all (s:ByteArray) (h1:(layL s).1=true) (h2:(layL s).2.1=s.size) (hx:∀r,r∈(layL s).2.2.rts->∀x,x∈r.path\/x∈r.flank->x.1 < (layL s).2.2.sw.length) :
  3<=s.size/\(kst s (s.size - 3)).k=KP.of (layL s).2.2/\(∀i,3<=i->i < s.size->KOK (kst s (i - 3)) s i)/\(layL s).2.2.T=pk s 0 - 48/\(layL s).2.2.D=pk s 1 - 48/\(layL s).2.2.Q=pk s 2 - 48:=by
 unfold layL at h1 h2 hx ⊢;by_cases c1:z2z s 0≠3
 ·simp only[if_pos c1] at h1; cases h1
 simp only[if_neg c1] at h1 h2 hx ⊢;by_cases c2:(pk s 3==47)=false
 ·simp only[if_pos c2] at h1; cases h1
 simp only[if_neg c2] at h1 h2 hx ⊢;have p3:pk s 3=47:=by simpa using c2
 by_cases c3:(secL s 300 4).1.length=0
 ·simp only[if_pos c3] at h1; cases h1
 simp only[if_neg c3] at h1 h2 hx ⊢;by_cases c4:(pk s (secL s 300 4).2==47)=false
 ·simp only[if_pos c4] at h1; cases h1
 simp only[if_neg c4] at h1 h2 hx ⊢;have p4:pk s (secL s 300 4).2=47:=by simpa using c4
 by_cases c5:(rtsL s 300 ((secL s 300 4).2+1)).1=false
 ·simp only[if_pos c5] at h1; cases h1
 simp only[if_neg c5] at h1 h2 hx ⊢;have p5:(rtsL s 300 ((secL s 300 4).2+1)).1=true:=by simpa using c5
 by_cases c6:(pk s (rtsL s 300 ((secL s 300 4).2+1)).2.1==47)=false
 ·simp only[if_pos c6] at h1; cases h1
 simp only[if_neg c6] at h1 h2 hx ⊢;have p6:pk s (rtsL s 300 ((secL s 300 4).2+1)).2.1=47:=by simpa using c6
 obtain⟨sw,hsw⟩:∃l,l=(secL s 300 4).1:=⟨_,rfl⟩
 obtain⟨q1,hq1⟩:∃l,l=(secL s 300 4).2:=⟨_,rfl⟩
 rw[<-hsw] at hx ⊢;rw[<-hq1] at p4 p5 p6 h1 h2 hx ⊢;obtain⟨rt,hrt⟩:∃l,l=(rtsL s 300 (q1+1)).2.2:=⟨_,rfl⟩
 obtain⟨q2,hq2⟩:∃l,l=(rtsL s 300 (q1+1)).2.1:=⟨_,rfl⟩
 rw[<-hrt] at hx ⊢;rw[<-hq2] at p6 h1 h2 ⊢;have r0:Runs s 3 4 ⟨KP0,0,false⟩ ⟨KP0,1,false⟩:=by
  refine Runs.one (by omega) (KOK.sep (.inl p3)) ?_;unfold KS.step;rw[if_pos p3]
 have r1:=sec_runs s 300 4 KP0 false (by omega);rw[<-hsw,<-hq1] at r1;have r2:Runs s q1 (q1+1) ⟨KP0.putS sw,1,false⟩ ⟨KP0.putS sw,2,false⟩:=by
  refine Runs.one (by have:=r1.2.1; omega) (KOK.sep (.inl p4)) ?_;unfold KS.step;rw[if_pos p4]
 obtain⟨b,r3⟩:=rts_runs s 300 (q1+1) (KP0.putS sw) (by have:=r1.2.1; omega) (Or.inl p4) p5 (by rw[<-hrt]; exact hx);rw[<-hrt,<-hq2] at r3;have r4:Runs s q2 (q2+1) ⟨(KP0.putS sw).adds rt,2,b⟩ ⟨(KP0.putS sw).adds rt,3,false⟩:=by
  refine Runs.one (by have:=r1.2.1; have:=r3.2.1; omega) (KOK.sep (.inl p6)) ?_;unfold KS.step;rw[if_pos p6]
 have r5:=tns_runs s 300 (q2+1) ((KP0.putS sw).adds rt) (by have:=r1.2.1; have:=r3.2.1; omega) (Or.inl p6) h1;rw[h2] at r5;have r6:=((((r0.trans r1).trans r2).trans r3).trans r4).trans r5;obtain⟨e,hk⟩:=r6.2.2 rfl;refine⟨r6.2.1,?_,hk,trivial,trivial,trivial⟩;rw[e];show (KP.addsT _ _)=_;rw[addsT_eq,adds_eq];simp[KP.putS,KP0,KP.of]
end Go.Proofs.YtkbpocecbcaiiabGreatDoor
namespace Go.Proofs.YtkbpocecbcaiiabGreatDoor
open Go.RowKit
structure RLn where
 ph:Nat
 train:Nat
 been:Bool
 marks:List Bool
 gone:Nat
 count:Nat
structure RBx where
 L:Lay
 lines:List RLn
 wanted:List Nat
 failed:List Bool
 late:List Nat
 sta:List Nat
 waits:List Nat
def RLn0:RLn:=⟨46,0,false,[],0,0⟩
def z0i (l:List Nat):ByteArray:=⟨(l.map UInt8.ofNat).toArray⟩
theorem z3s (l:List Nat):(z0i l).size=l.length:=by simp[z0i,ByteArray.size]
theorem z1v (l:List Nat) (x:Nat):z0i (l++[x])=z0i l++⟨#[UInt8.ofNat x]⟩:=by
 apply ByteArray.ext;simp[z0i]
def RBx.line (B:RBx) (r:Nat):RLn:=B.lines.getD r RLn0
def RBx.lockB (B:RBx) (s r:Nat):Bool:=(B.line r).ph != 46&&((secs (B.L.rt r).path).drop (B.line r).gone).contains s
def RBx.lockedBy (B:RBx) (s:Nat):Option Nat:=(List.range B.lines.length).find? (B.lockB s)
def optI:Option Nat->Int
 | none=>-1
 | some r=>r
def lockC:Option Nat->Nat
 | none=>46
 | some r=>65+r
def RBx.locksT (B:RBx):List Nat:=(List.range B.L.sw.length).map (fun s=>lockC (B.lockedBy s))
def RBx.phasesT (B:RBx):List Nat:=B.lines.map (·.ph)
def RBx.swT (B:RBx) (s:Nat):List Nat:=if B.L.sw.getD s false then [if B.failed.getD s false then 120 else B.wanted.getD s 0] else []
def RBx.switchesT (B:RBx):List Nat:=(List.range B.L.sw.length).flatMap B.swT
def RBx.stateT (B:RBx):List Nat:=B.sta.map (48+·)
def RBx.queueT (B:RBx):List Nat:=B.waits.map (49+·)
theorem one_str (P:Program) (S T e:TypeId) (hs:P.underlying S=some (.slice e)) (he:P.underlying e=some (.int .u8)) (hd:P.underlying T=some .string) (w:World) (t:TypeId) (x:Int) :
  (convert S T (.slice (some ⟨w.heap.size,0,none⟩) 1 1)).run P (w.alloc (.cells #[.int .u8 x] t))=.ok (.string ⟨#[UInt8.ofNat x.toNat]⟩) (w.alloc (.cells #[.int .u8 x] t)):=by
 have:=run_convert_bytes_arg (P:=P) (w.alloc (.cells #[.int .u8 x] t)) S e hs he w.heap.size 0 1 1 [x] rfl (fun i hi=>by
  obtain rfl:i=0:=by omega
  have:=z1j (heap_alloc_new w (.cells #[.int .u8 x] t)) 0;simp) T hd
 rw[this];simp[strOfNums]
theorem Tryz.oneStr (w:World) (t:TypeId) (x:Int) :
  (convert 74 9 (.slice (some ⟨w.heap.size,0,none⟩) 1 1)).run Tryz.prog (w.alloc (.cells #[.int .u8 x] t))=.ok (.string ⟨#[UInt8.ofNat x.toNat]⟩) (w.alloc (.cells #[.int .u8 x] t)):=
 one_str _ _ _ 5 Tryz.underlying74 Tryz.underlying5 Tryz.underlying9 w t x
theorem z4c {α:Type} (f:α->Nat) (l:List α) (k:Nat) (h:k < l.length):(l.take (k+1)).map f=(l.take k).map f++[f l[k]]:=by
 rw[List.take_succ_eq_append_getElem h,List.map_append]; rfl
theorem wrap8 (x:Int) (h0:0<=x) (h:x < 256):IntKind.u8.wrap x=x:=Go.IntWalk.u8_in _ (by omega)
def SameOn (R:Nat->Prop) (w w':World):Prop:=∀k,R k->w'.heap[k]?=w.heap[k]?
theorem SameOn.trans {R:Nat->Prop} {a b c:World} (h:SameOn R a b) (k:SameOn R b c):SameOn R a c:=fun i hi=>(k i hi).trans (h i hi)
structure Only (F:Nat->Prop) (w w':World):Prop where
 os:w'.os=w.os
 tape:w'.tape=w.tape
 output:w'.output=w.output
 size:w.heap.size<=w'.heap.size
 block:∀k,k < w.heap.size->¬F k->w'.heap[k]?=w.heap[k]?
theorem Only.refl (F:Nat->Prop) (w:World):Only F w w:=⟨rfl,rfl,rfl,Nat.le_refl _,fun _ _ _=>rfl⟩
theorem Only.trans {F:Nat->Prop} {a b c:World} (h:Only F a b) (k:Only F b c):Only F a c:=
 ⟨k.os.trans h.os,k.tape.trans h.tape,k.output.trans h.output,Nat.le_trans h.size k.size,fun i hi hf=>(k.block i (Nat.lt_of_lt_of_le hi h.size) hf).trans (h.block i hi hf)⟩
theorem Only.mono {F G:Nat->Prop} {w w':World} (h:Only F w w') (hFG:∀k,F k->G k):Only G w w':=⟨h.os,h.tape,h.output,h.size,fun k hk hg=>h.block k hk (fun hf=>hg (hFG k hf))⟩
theorem Only.of_below {F:Nat->Prop} {w w':World} (h:Below w.heap.size w w'):Only F w w':=⟨h.os,h.tape,h.output,h.size,fun k hk _=>h.block k hk⟩
theorem Only.setCell {F:Nat->Prop} {w:World} {a:Addr} (h:F a.block) (u:Value):Only F w (w.setCell a u):=
 ⟨rfl,rfl,rfl,by simp[World.setCell],fun k _ hf=>Below.heap_setCell _ _ _ _ (fun e=>hf (e ▸ h))⟩
theorem z16 {R:Nat->Prop} {w:World} {b j:Nat} {u:Value} (h:¬R b):SameOn R w (w.setCell ⟨b,j,none⟩ u):=fun k hk=>Below.heap_setCell _ _ _ _ (fun e=>h (by have e':k=b:=e; rw[e'] at hk; exact hk))
theorem z2k {w:World} {b:Nat} {e:TypeId} {sz:Nat} {v:Value} {n:Nat} {xs:List Value} (h:w.ownsRow b e sz v n xs) {a:Addr} (ha:v.ownBlock≠some a.block) (u:Value):(w.setCell a u).ownsRow b e sz v n xs:=by
 refine⟨h.1,?_⟩;rcases h.2 with h2 | ⟨g,cap,cur,hv,hg,hh,r⟩
 ·exact .inl h2
 ·refine .inr ⟨g,cap,cur,hv,hg,?_,r⟩
  rw[Below.heap_setCell _ _ _ _ (fun e=>ha (by rw[hv]; simp[Value.ownBlock,e]))]; exact hh
theorem z3t {w w':World} {b:Nat} {e:TypeId} {sz:Nat} {v:Value} {n:Nat} {xs:List Value} (h:w.ownsRow b e sz v n xs) (hb:Below w.heap.size w w'):w'.ownsRow b e sz v n xs:=z0j h hb
theorem z2f {w:World} {b:Nat} {e:TypeId} {sz:Nat} {v:Value} {n:Nat} {xs:List Value} (h:w.ownsRow b e sz v n xs) {k:Nat} (hk:v.ownBlock=some k):Typed w k e:=by
 rcases h.2 with ⟨rfl,-⟩ | ⟨g,cap,cur,rfl,hg,hh,r⟩
 ·cases hk
 ·simp only[Value.ownBlock,Option.some.injEq] at hk
  subst hk;exact⟨_,_,hh⟩
theorem intsV_set (l:List Nat) (i x:Nat):(intsV l).set i (.int .i64 x)=intsV (l.set i x):=by simp[intsV,List.map_set]
theorem bytsV_set (l:List Nat) (i x:Nat):(bytsV l).set i (.int .u8 x)=bytsV (l.set i x):=by simp[bytsV,List.map_set]
theorem boolsV_set (l:List Bool) (i:Nat) (x:Bool):(z17 l).set i (.bool x)=z17 (l.set i x):=by simp[z17,List.map_set]
theorem Tryz.infoInts:(Tryz.prog.info? 49).map (fun i=>(i.zero,i.size,i.bytes))=some (some (.slice none 0 0),1,24):=by kernel_rfl
theorem Tryz.infoByts:(Tryz.prog.info? 74).map (fun i=>(i.zero,i.size,i.bytes))=some (some (.slice none 0 0),1,24):=by kernel_rfl
theorem own_onlyK {w w':World} {F:Nat->Prop} {b:Nat} {e:TypeId} {sz:Nat} {v:Value} {n:Nat} {xs:List Value} (h:w.ownsRow b e sz v n xs) (ho:Only F w w') (hn:∀k,v.ownBlock=some k->¬F k):w'.ownsRow b e sz v n xs:=by
 refine⟨h.1,?_⟩;rcases h.2 with h2 | ⟨g,cap,cur,hv,hg,hh,r⟩
 ·exact .inl h2
 ·refine .inr ⟨g,cap,cur,hv,hg,?_,r⟩
  rw[ho.block g (z0g hh) (hn g (by rw[hv]; rfl))]; exact hh
theorem z19 {w w1:World} {o:Obj} {row:Option Nat} (h:(w.alloc o).grownBy w1 row):Only (fun b=>row=some b) w w1:=
 ⟨h.os,h.tape,h.output,by have:=h.size; simp at this; omega,fun k hk hf=>by
  rw[h.block k (by simp; omega) (fun e=>hf e.symm)];exact Below.heap_alloc _ _ _ hk⟩
def ktyp (i:Nat):TypeId:=if i=3 then 4 else if i=18 then 5 else if i=8 then 74 else if i=6\/i=7\/i=10 then 49 else 3
def kcont (k:KP) (V:Nat->Nat->Value) (i r:Nat):List Value:=
 if i=3 then z17 k.has else if i=4 then intsV k.pts else if i=5 then intsV k.foot
 else if i=6 then (List.range k.path.length).map (V 16) else if i=7 then (List.range k.flank.length).map (V 17) else if i=8 then (List.range k.want.length).map (V 18)
 else if i=9 then intsV k.stand else if i=10 then (List.range k.jny.length).map (V 20)
 else if i=16 then intsV (k.path.getD r []) else if i=17 then intsV (k.flank.getD r []) else if i=18 then bytsV (k.want.getD r []) else intsV (k.jny.getD r [])
def KKey (k:KP) (i r:Nat):Prop:=(3<=i/\i<=10/\r=0)\/(i=16/\r < k.path.length)\/(i=17/\r < k.flank.length)\/(i=18/\r < k.want.length)\/(i=20/\r < k.jny.length)
def kbox (T D Q:Nat) (V:Nat->Nat->Value):Obj:=.cells #[.int .i64 T,.int .i64 D,.int .i64 Q,V 3 0,V 4 0,V 5 0,V 6 0,V 7 0,V 8 0,V 9 0,V 10 0] 53 (0,0)
structure KM (n:Nat) (w:World) (g T D Q:Nat) (k:KP) (V:Nat->Nat->Value):Prop where
 cell:w.heap[g]?=some (kbox T D Q V)
 ng:n<=g
 own:∀i r,KKey k i r->w.ownsRow n (ktyp i) 1 (V i r) (kcont k V i r).length (kcont k V i r)
 ap:∀i r j q,KKey k i r->KKey k j q->(i,r)≠(j,q)->∀b,(V i r).ownBlock=some b->(V j q).ownBlock≠some b
theorem ktyp_ne (i:Nat):ktyp i≠53:=by
 unfold ktyp;split
 ·decide
 split
 ·decide
 split
 ·decide
 split <;> decide
theorem KM.far {n:Nat} {w:World} {g T D Q:Nat} {k:KP} {V:Nat->Nat->Value} (h:KM n w g T D Q k V) {i r:Nat} (hk:KKey k i r):(V i r).ownBlock≠some g:=by
 intro e;obtain⟨c,f,hh⟩:=z2f (h.own i r hk) e;have:=h.cell.symm.trans hh;unfold kbox at this;simp only[Option.some.injEq,Obj.cells.injEq] at this;exact ktyp_ne i this.2.1.symm
theorem KM.lt {n:Nat} {w:World} {g T D Q:Nat} {k:KP} {V:Nat->Nat->Value} (h:KM n w g T D Q k V) {i r:Nat} (hk:KKey k i r) {b:Nat} (hb:(V i r).ownBlock=some b):n<=b/\b < w.heap.size:=(h.own i r hk).lt b hb
theorem KM.below {n:Nat} {w w':World} {g T D Q:Nat} {k:KP} {V:Nat->Nat->Value} (h:KM n w g T D Q k V) (hb:Below w.heap.size w w'):KM n w' g T D Q k V:=
 ⟨(hb.block g (z0g h.cell)).trans h.cell,h.ng,fun i r hk=>z0j (h.own i r hk) hb,h.ap⟩
theorem KM.turn {n:Nat} {w w':World} {g T D Q:Nat} {k k':KP} {V V':Nat->Nat->Value} (h:KM n w g T D Q k V) (ch:List (Nat×Nat)) (F:Nat->Prop)
  (hcell:w'.heap[g]?=some (kbox T D Q V')) (ho:Only F w w')
  (hF:∀b,F b->b=g\/∃i r,(i,r)∈ch/\KKey k i r/\(V i r).ownBlock=some b)
  (hsame:∀i r,KKey k' i r->(i,r) ∉ ch->KKey k i r/\V' i r=V i r/\kcont k' V' i r=kcont k V i r)
  (hown:∀i r,KKey k' i r->(i,r)∈ch->w'.ownsRow n (ktyp i) 1 (V' i r) (kcont k' V' i r).length (kcont k' V' i r))
  (hblk:∀i r,KKey k' i r->(i,r)∈ch->∀b,(V' i r).ownBlock=some b->(KKey k i r/\(V i r).ownBlock=some b)\/w.heap.size<=b)
  (hnew:∀i r j q,KKey k' i r->KKey k' j q->(i,r)∈ch->(j,q)∈ch->(i,r)≠(j,q)->∀b,(V' i r).ownBlock=some b->(V' j q).ownBlock≠some b):KM n w' g T D Q k' V':=by
 refine⟨hcell,h.ng,fun i r hk=>?_,fun i r j q hi hj hne b hb hc=>?_⟩
 ·by_cases hc:(i,r)∈ch
  ·exact hown i r hk hc
  ·obtain⟨a,b,c⟩:=hsame i r hk hc
   rw[b,c];refine own_onlyK (h.own i r a) ho (fun b hb hf=>?_);rcases hF b hf with rfl | ⟨j,q,h1,h2,h3⟩
   ·exact h.far a hb
   ·exact h.ap i r j q a h2 (fun e=>hc (e ▸ h1)) b hb h3
 ·by_cases c1:(i,r)∈ch <;> by_cases c2:(j,q)∈ch
  ·exact hnew i r j q hi hj c1 c2 hne b hb hc
  ·obtain⟨a2,b2,-⟩:=hsame j q hj c2
   rw[b2] at hc;rcases hblk i r hi c1 b hb with ⟨a1,b1⟩ | hz
   ·exact h.ap i r j q a1 a2 hne b b1 hc
   ·have:=(h.lt a2 hc).2; omega
  ·obtain⟨a1,b1,-⟩:=hsame i r hi c1
   rw[b1] at hb;rcases hblk j q hj c2 b hc with ⟨a2,b2⟩ | hz
   ·exact h.ap i r j q a1 a2 hne b hb b2
   ·have:=(h.lt a1 hb).2; omega
  ·obtain⟨a1,b1,-⟩:=hsame i r hi c1
   obtain⟨a2,b2,-⟩:=hsame j q hj c2;rw[b1] at hb;rw[b2] at hc;exact h.ap i r j q a1 a2 hne b hb hc
def updV (V:Nat->Nat->Value) (i r:Nat) (v:Value):Nat->Nat->Value:=fun j q=>if j=i/\q=r then v else V j q
theorem z43 (V:Nat->Nat->Value) (i r:Nat) (v:Value):updV V i r v i r=v:=if_pos ⟨rfl,rfl⟩
theorem z32 {V:Nat->Nat->Value} {i r j q:Nat} (v:Value) (h:(j,q)≠(i,r)):updV V i r v j q=V j q:=if_neg (fun e=>h (by rw[e.1,e.2]))
theorem updV_kind {V:Nat->Nat->Value} {i r j:Nat} (v:Value) (h:j≠i):updV V i r v j=V j:=by funext q; exact if_neg (fun e=>h e.1)
theorem kcont_V {k:KP} {V V':Nat->Nat->Value} {i r:Nat} (h:∀j,(i=6/\j=16)\/(i=7/\j=17)\/(i=8/\j=18)\/(i=10/\j=20)->V j=V' j):kcont k V i r=kcont k V' i r:=by
 unfold kcont;by_cases h3:i=3
 ·rw[if_pos h3,if_pos h3]
 rw[if_neg h3,if_neg h3];by_cases h4:i=4
 ·rw[if_pos h4,if_pos h4]
 rw[if_neg h4,if_neg h4];by_cases h5:i=5
 ·rw[if_pos h5,if_pos h5]
 rw[if_neg h5,if_neg h5];by_cases h6:i=6
 ·rw[if_pos h6,if_pos h6,h 16 (.inl ⟨h6,rfl⟩)]
 rw[if_neg h6,if_neg h6];by_cases h7:i=7
 ·rw[if_pos h7,if_pos h7,h 17 (.inr (.inl ⟨h7,rfl⟩))]
 rw[if_neg h7,if_neg h7];by_cases h8:i=8
 ·rw[if_pos h8,if_pos h8,h 18 (.inr (.inr (.inl ⟨h8,rfl⟩)))]
 rw[if_neg h8,if_neg h8];by_cases h9:i=9
 ·rw[if_pos h9,if_pos h9]
 rw[if_neg h9,if_neg h9];by_cases h10:i=10
 ·rw[if_pos h10,if_pos h10,h 20 (.inr (.inr (.inr ⟨h10,rfl⟩)))]
 rw[if_neg h10,if_neg h10]
theorem kbox_set {w:World} {g T D Q:Nat} {V:Nat->Nat->Value} (h:w.heap[g]?=some (kbox T D Q V)) (i:Nat) (hi:3<=i/\i<=10) (v:Value):(w.setCell ⟨g,i,none⟩ v).heap[g]?=some (kbox T D Q (updV V i 0 v)):=by
 rw[z0b v h];obtain⟨h1,h2⟩:=hi;have:i=3\/i=4\/i=5\/i=6\/i=7\/i=8\/i=9\/i=10:=by omega
 rcases this with rfl | rfl | rfl | rfl | rfl | rfl | rfl | rfl <;> rfl
theorem KM.app {n:Nat} {w w2:World} {g T D Q:Nat} {k k':KP} {V:Nat->Nat->Value} (h:KM n w g T D Q k V) (i:Nat) (hi:i=3\/i=4\/i=5\/i=9) {o:Obj} {g4 c4 m:Nat} {x:Value}
  (hm:m=(kcont k V i 0).length) (hown:w2.ownsRow n (ktyp i) 1 (.slice (some ⟨g4,0,none⟩) (m+1) c4) (m+1) (kcont k V i 0++[x])) (hg:(w.alloc o).grownBy w2 (V i 0).ownBlock) (hat:(V i 0).ownBlock=some g4\/w.heap.size<=g4)
  (hk:∀j q,KKey k' j q↔KKey k j q) (hc:∀V j q,(j,q)≠(i,0)->KKey k j q->kcont k' V j q=kcont k V j q) (hx:∀V,kcont k' V i 0=kcont k V i 0++[x]) :
  KM n (w2.setCell ⟨g,i,none⟩ (.slice (some ⟨g4,0,none⟩) (m+1) c4)) g T D Q k' (updV V i 0 (.slice (some ⟨g4,0,none⟩) (m+1) c4)):=by
 have hi2:3<=i/\i<=10:=by omega
 have hki:KKey k i 0:=.inl ⟨hi2.1,hi2.2,rfl⟩;have ho:=z19 hg;have ho2:Only (fun b=>(V i 0).ownBlock=some b\/b=g) w (w2.setCell ⟨g,i,none⟩ (.slice (some ⟨g4,0,none⟩) (m+1) c4)):=(ho.mono (fun _ h=>.inl h)).trans (Only.setCell (a:=⟨g,i,none⟩) (.inr rfl) _);have hcell:w2.heap[g]?=some (kbox T D Q V):=(ho.block g (z0g h.cell) (fun e=>h.far hki e)).trans h.cell;have hV:∀V':Nat->Nat->Value,kcont k V' i 0=kcont k V i 0:=fun V'=>kcont_V (fun j hj=>by omega);have g4g:g4≠g:=by
  rcases hat with e | e
  ·intro e2; exact h.far hki (e2 ▸ e)
  ·have:=z0g h.cell; omega
 refine h.turn [(i,0)] (fun b=>(V i 0).ownBlock=some b\/b=g) (kbox_set hcell i hi2 _) ho2 ?_ ?_ ?_ ?_ ?_
 ·intro b hb
  rcases hb with hb | hb
  ·exact .inr ⟨i,0,List.mem_singleton.2 rfl,hki,hb⟩
  ·exact .inl hb
 ·intro j q hj hn
  have hne:(j,q)≠(i,0):=fun e=>hn (List.mem_singleton.2 e);have hj':=(hk j q).1 hj;refine⟨hj',z32 _ hne,?_⟩;rw[hc _ j q hne hj'];exact kcont_V (fun a ha=>updV_kind _ (by omega))
 ·intro j q hj hm'
  obtain⟨rfl,rfl⟩:=Prod.mk.inj (List.mem_singleton.1 hm');rw[z43,hx,hV];have e:(kcont k V j 0++[x]).length=m+1:=by rw[List.length_append,hm]; rfl
  rw[e];exact z2k hown (by simp[Value.ownBlock]; exact g4g) _
 ·intro j q hj hm' b hb
  obtain⟨rfl,rfl⟩:=Prod.mk.inj (List.mem_singleton.1 hm');rw[z43] at hb;simp only[Value.ownBlock,Option.some.injEq] at hb;subst hb;rcases hat with e | e
  ·exact .inl ⟨hki,e⟩
  ·exact .inr e
 ·intro a r j q _ _ h1 h2 hne
  exact absurd ((List.mem_singleton.1 h1).trans (List.mem_singleton.1 h2).symm) hne
theorem KM.appR {n:Nat} {w w2:World} {g T D Q:Nat} {k k':KP} {V:Nat->Nat->Value} (h:KM n w g T D Q k V) (i:Nat) (hi:i=6\/i=7\/i=8\/i=10) {g4 c4 m:Nat} {x:Value}
  (hm:m=(kcont k V i 0).length) (hown:w2.ownsRow n (ktyp i) 1 (.slice (some ⟨g4,0,none⟩) (m+1) c4) (m+1) (kcont k V i 0++[x])) (ho:Only (fun b=>(V i 0).ownBlock=some b) w w2) (hat:(V i 0).ownBlock=some g4\/w.heap.size<=g4)
  (hk:∀j q,KKey k' j q↔(KKey k j q\/(j=i+10/\q=m))) (hc:∀V j q,(j,q)≠(i,0)->KKey k j q->kcont k' V j q=kcont k V j q) (hx:∀V',(∀q,q < m->V' (i+10) q=V (i+10) q)->V' (i+10) m=x->kcont k' V' i 0=kcont k V i 0++[x])
  (hnk:¬KKey k (i+10) m) (hxo:w2.ownsRow n (ktyp (i+10)) 1 x (kcont k' V (i+10) m).length (kcont k' V (i+10) m)) (hxb:∀b,x.ownBlock=some b->w.heap.size<=b/\b≠g4) :
  KM n (w2.setCell ⟨g,i,none⟩ (.slice (some ⟨g4,0,none⟩) (m+1) c4)) g T D Q k' (updV (updV V (i+10) m x) i 0 (.slice (some ⟨g4,0,none⟩) (m+1) c4)):=by
 have hi2:3<=i/\i<=10:=by omega
 have hki:KKey k i 0:=.inl ⟨hi2.1,hi2.2,rfl⟩;have ho2:Only (fun b=>(V i 0).ownBlock=some b\/b=g) w (w2.setCell ⟨g,i,none⟩ (.slice (some ⟨g4,0,none⟩) (m+1) c4)):=(ho.mono (fun _ h=>.inl h)).trans (Only.setCell (a:=⟨g,i,none⟩) (.inr rfl) _);have hcell:w2.heap[g]?=some (kbox T D Q V):=(ho.block g (z0g h.cell) (fun e=>h.far hki e)).trans h.cell;have hcell2:w2.heap[g]?=some (kbox T D Q (updV V (i+10) m x)):=by
  rw[hcell];unfold kbox;have e:∀a,3<=a->a<=10->updV V (i+10) m x a 0=V a 0:=fun a h1 h2=>z32 _ (fun e=>by have:=(Prod.mk.inj e).1; omega);rw[e 3 (by omega) (by omega),e 4 (by omega) (by omega),e 5 (by omega) (by omega),e 6 (by omega) (by omega),e 7 (by omega) (by omega),e 8 (by omega) (by omega),e 9 (by omega) (by omega),e 10 (by omega) (by omega)]
 have g4g:g4≠g:=by
  rcases hat with e | e
  ·intro e2; exact h.far hki (e2 ▸ e)
  ·have:=z0g h.cell; omega
 have hzg:=z0g h.cell;have hu1:∀v:Value,updV (updV V (i+10) m x) i 0 v (i+10) m=x:=fun v=>by
  rw[z32 _ (fun e=>by have:=(Prod.mk.inj e).1; omega),z43]
 refine h.turn [(i,0),(i+10,m)] (fun b=>(V i 0).ownBlock=some b\/b=g) (kbox_set hcell2 i hi2 _) ho2 ?_ ?_ ?_ ?_ ?_
 ·intro b hb
  rcases hb with hb | hb
  ·exact .inr ⟨i,0,List.mem_cons_self ..,hki,hb⟩
  ·exact .inl hb
 ·intro j q hj hn
  simp only[List.mem_cons,List.not_mem_nil,or_false,not_or] at hn;obtain⟨n1,n2⟩:=hn;have hj':KKey k j q:=by
   rcases (hk j q).1 hj with a | ⟨rfl,rfl⟩
   ·exact a
   ·exact absurd rfl n2
  refine⟨hj',by rw[z32 _ n1,z32 _ n2],?_⟩;rw[hc _ j q n1 hj'];refine kcont_V (fun a ha=>?_);have hji:j≠i:=by
   intro e;subst e;rcases hj' with ⟨-,-,e⟩ | e | e | e | e
   ·exact n1 (by rw[e])
   all_goals omega
  rw[updV_kind _ (by omega),updV_kind _ (by omega)]
 ·intro j q hj hm'
  simp only[List.mem_cons,List.not_mem_nil,or_false] at hm';rcases hm' with hm' | hm'
  ·obtain⟨rfl,rfl⟩:=Prod.mk.inj hm'
   rw[z43,hx _ (fun q hq=>by rw[z32 _ (fun e=>by have:=(Prod.mk.inj e).1; omega),z32 _ (fun e=>by have:=(Prod.mk.inj e).2; omega)]) (hu1 _)];have e:(kcont k V j 0++[x]).length=m+1:=by rw[List.length_append,hm]; rfl
   rw[e];exact z2k hown (by simp[Value.ownBlock]; exact g4g) _
  ·obtain⟨rfl,rfl⟩:=Prod.mk.inj hm'
   rw[hu1];have e:kcont k' (updV (updV V (i+10) q x) i 0 (.slice (some ⟨g4,0,none⟩) (q+1) c4)) (i+10) q=kcont k' V (i+10) q:=kcont_V (fun j hj=>by omega);rw[e];exact z2k hxo (fun e=>by have:=(hxb _ e).1; have e':w.heap.size<=g:=this; omega) _
 ·intro j q hj hm' b hb
  simp only[List.mem_cons,List.not_mem_nil,or_false] at hm';rcases hm' with hm' | hm'
  ·obtain⟨rfl,rfl⟩:=Prod.mk.inj hm'
   rw[z43] at hb;simp only[Value.ownBlock,Option.some.injEq] at hb;subst hb;rcases hat with e | e
   ·exact .inl ⟨hki,e⟩
   ·exact .inr e
  ·obtain⟨rfl,rfl⟩:=Prod.mk.inj hm'
   rw[hu1] at hb;exact .inr (hxb b hb).1
 ·intro a r j q _ _ h1 h2 hne b hb hcc
  simp only[List.mem_cons,List.not_mem_nil,or_false] at h1 h2;rcases h1 with h1 | h1 <;> rcases h2 with h2 | h2
  ·exact hne (h1.trans h2.symm)
  ·obtain⟨rfl,rfl⟩:=Prod.mk.inj h1
   obtain⟨rfl,rfl⟩:=Prod.mk.inj h2;rw[z43] at hb;rw[hu1] at hcc;simp only[Value.ownBlock,Option.some.injEq] at hb;exact(hxb b hcc).2 hb.symm
  ·obtain⟨rfl,rfl⟩:=Prod.mk.inj h1
   obtain⟨rfl,rfl⟩:=Prod.mk.inj h2;rw[z43] at hcc;rw[hu1] at hb;simp only[Value.ownBlock,Option.some.injEq] at hcc;exact(hxb b hb).2 hcc.symm
  ·exact hne (h1.trans h2.symm)
theorem range_set (V V':Nat->Value) (m r:Nat) (hr:∀q,q≠r->V' q=V q) (hrm:r < m):(List.range m).map V'=((List.range m).map V).set r (V' r):=by
 apply List.ext_getElem
 ·simp
 ·intro i h1 h2
  simp only[List.length_map,List.length_range] at h1;by_cases e:i=r
  ·subst e
   rw[List.getElem_set_self,List.getElem_map,List.getElem_range]
  ·rw[List.getElem_set_ne (fun x=>e x.symm),List.getElem_map,List.getElem_map,List.getElem_range,hr i e]
theorem KM.leaf {n:Nat} {w w2:World} {g T D Q:Nat} {k k':KP} {V:Nat->Nat->Value} (h:KM n w g T D Q k V) (i:Nat) (hi:i=6\/i=7\/i=10) {o:Obj} {gp cp mp r g4 c4 m:Nat} {x:Value}
  (hp:V i 0=.slice (some ⟨gp,0,none⟩) mp cp) (hmp:(kcont k V i 0).length=mp) (hkr:KKey k (i+10) r) (hrm:r < mp)
  (hcp:∀V',kcont k V' i 0=(List.range mp).map (V' (i+10)))
  (hm:m=(kcont k V (i+10) r).length) (hown:w2.ownsRow n (ktyp (i+10)) 1 (.slice (some ⟨g4,0,none⟩) (m+1) c4) (m+1) (kcont k V (i+10) r++[x])) (hg:(w.alloc o).grownBy w2 (V (i+10) r).ownBlock) (hat:(V (i+10) r).ownBlock=some g4\/w.heap.size<=g4)
  (hk:∀j q,KKey k' j q↔KKey k j q) (hc:∀V j q,(j,q)≠(i+10,r)->KKey k j q->kcont k' V j q=kcont k V j q) (hx:∀V,kcont k' V (i+10) r=kcont k V (i+10) r++[x]) :
  KM n (w2.setCell ⟨gp,r,none⟩ (.slice (some ⟨g4,0,none⟩) (m+1) c4)) g T D Q k' (updV V (i+10) r (.slice (some ⟨g4,0,none⟩) (m+1) c4)):=by
 have hi2:3<=i/\i<=10:=by omega
 have hki:KKey k i 0:=.inl ⟨hi2.1,hi2.2,rfl⟩;have hpb:(V i 0).ownBlock=some gp:=by rw[hp]; rfl
 have hzp:=(h.lt hki hpb).2;have hzg:=z0g h.cell;have ho:=z19 hg;have hne:(i+10,r)≠(i,0):=fun e=>by have:=(Prod.mk.inj e).1; omega
 have ho2:Only (fun b=>(V (i+10) r).ownBlock=some b\/b=gp) w (w2.setCell ⟨gp,r,none⟩ (.slice (some ⟨g4,0,none⟩) (m+1) c4)):=(ho.mono (fun _ h=>.inl h)).trans (Only.setCell (a:=⟨gp,r,none⟩) (.inr rfl) _);have g4p:g4≠gp:=by
  rcases hat with e | e
  ·intro e2; exact h.ap _ _ _ _ hkr hki hne g4 e (by rw[e2]; exact hpb)
  ·omega
 have gpg:gp≠g:=fun e=>h.far hki (by rw[hpb,e]);have hpo:w2.ownsRow n (ktyp i) 1 (V i 0) mp (kcont k V i 0):=by
  have:=own_onlyK (h.own i 0 hki) ho (fun b hb hf=>h.ap _ _ _ _ hkr hki hne b hf hb);rw[hmp] at this;exact this
 refine h.turn [(i+10,r),(i,0)] (fun b=>(V (i+10) r).ownBlock=some b\/b=gp) ?_ ho2 ?_ ?_ ?_ ?_ ?_
 ·rw[Below.heap_setCell _ _ _ _ (fun e=>gpg (show gp=g from e.symm)),ho.block g hzg (fun e=>h.far hkr e),h.cell]
  unfold kbox;have e:∀a,3<=a->a<=10->updV V (i+10) r (.slice (some ⟨g4,0,none⟩) (m+1) c4) a 0=V a 0:=fun a h1 h2=>z32 _ (fun e=>by have:=(Prod.mk.inj e).1; omega);rw[e 3 (by omega) (by omega),e 4 (by omega) (by omega),e 5 (by omega) (by omega),e 6 (by omega) (by omega),e 7 (by omega) (by omega),e 8 (by omega) (by omega),e 9 (by omega) (by omega),e 10 (by omega) (by omega)]
 ·intro b hb
  rcases hb with hb | hb
  ·exact .inr ⟨i+10,r,List.mem_cons_self ..,hkr,hb⟩
  ·exact .inr ⟨i,0,by simp,hki,by rw[hpb,hb]⟩
 ·intro j q hj hn
  simp only[List.mem_cons,List.not_mem_nil,or_false,not_or] at hn;obtain⟨n1,n2⟩:=hn;have hj':=(hk j q).1 hj;refine⟨hj',z32 _ n1,?_⟩;rw[hc _ j q n1 hj'];refine kcont_V (fun a ha=>updV_kind _ ?_);intro e;have hji:j=i:=by omega
  subst hji;rcases hj' with ⟨-,-,e'⟩ | e' | e' | e' | e'
  ·exact n2 (by rw[e'])
  all_goals omega
 ·intro j q hj hm'
  simp only[List.mem_cons,List.not_mem_nil,or_false] at hm';rcases hm' with hm' | hm'
  ·obtain⟨rfl,rfl⟩:=Prod.mk.inj hm'
   rw[z43,hx];have e0:kcont k (updV V (i+10) q (.slice (some ⟨g4,0,none⟩) (m+1) c4)) (i+10) q=kcont k V (i+10) q:=kcont_V (fun j hj=>by omega);have e:(kcont k V (i+10) q++[x]).length=m+1:=by rw[List.length_append,hm]; rfl
   rw[e0,e];exact z2k hown (by simp[Value.ownBlock]; exact g4p) _
  ·obtain⟨rfl,rfl⟩:=Prod.mk.inj hm'
   rw[z32 _ (fun e=>hne e.symm),hc _ j 0 (fun e=>hne e.symm) hki,hcp];have e:(List.range mp).map (updV V (j+10) r (.slice (some ⟨g4,0,none⟩) (m+1) c4) (j+10))=((List.range mp).map (V (j+10))).set r (.slice (some ⟨g4,0,none⟩) (m+1) c4):=by
    have:=range_set (V (j+10)) (updV V (j+10) r (.slice (some ⟨g4,0,none⟩) (m+1) c4) (j+10)) mp r (fun q hq=>z32 _ (fun e=>hq (Prod.mk.inj e).2)) hrm;rw[z43] at this;exact this
   rw[e];rw[hp,hcp] at hpo;have:=(hpo.stored r (.slice (some ⟨g4,0,none⟩) (m+1) c4)).1;rw[hp]
   simpa using this
 ·intro j q hj hm' b hb
  simp only[List.mem_cons,List.not_mem_nil,or_false] at hm';rcases hm' with hm' | hm'
  ·obtain⟨rfl,rfl⟩:=Prod.mk.inj hm'
   rw[z43] at hb;simp only[Value.ownBlock,Option.some.injEq] at hb;subst hb;rcases hat with e | e
   ·exact .inl ⟨hkr,e⟩
   ·exact .inr e
  ·obtain⟨rfl,rfl⟩:=Prod.mk.inj hm'
   rw[z32 _ (fun e=>hne e.symm)] at hb;exact .inl ⟨hki,hb⟩
 ·intro a q j s _ _ h1 h2 hne' b hb hcc
  simp only[List.mem_cons,List.not_mem_nil,or_false] at h1 h2;rcases h1 with h1 | h1 <;> rcases h2 with h2 | h2
  ·exact hne' (h1.trans h2.symm)
  ·obtain⟨rfl,rfl⟩:=Prod.mk.inj h1
   obtain⟨rfl,rfl⟩:=Prod.mk.inj h2;rw[z43] at hb;rw[z32 _ (fun e=>hne e.symm),hpb] at hcc;simp only[Value.ownBlock,Option.some.injEq] at hb hcc;exact g4p (hb.trans hcc.symm)
  ·obtain⟨rfl,rfl⟩:=Prod.mk.inj h1
   obtain⟨rfl,rfl⟩:=Prod.mk.inj h2;rw[z43] at hcc;rw[z32 _ (fun e=>hne e.symm),hpb] at hb;simp only[Value.ownBlock,Option.some.injEq] at hb hcc;exact g4p (hcc.trans hb.symm)
  ·exact hne' (h1.trans h2.symm)
theorem KM.sign {n:Nat} {w:World} {g T D Q:Nat} {k:KP} {V:Nat->Nat->Value} (h:KM n w g T D Q k V) {r gp mp cp:Nat} (hr:r < k.want.length) (hp:V 18 r=.slice (some ⟨gp,0,none⟩) mp cp) (s c:Nat) :
  KM n (w.setCell ⟨gp,s,none⟩ (.int .u8 c)) g T D Q { k with want:=k.want.set r ((k.want.getD r []).set s c) } V:=by
 have hkr:KKey k 18 r:=.inr (.inr (.inr (.inl ⟨rfl,hr⟩)));have hpb:(V 18 r).ownBlock=some gp:=by rw[hp]; rfl
 have gpg:gp≠g:=fun e=>h.far hkr (by rw[hpb,e]);have hk:∀j q,KKey { k with want:=k.want.set r ((k.want.getD r []).set s c) } j q↔KKey k j q:=by
  intro j q;unfold KKey;simp only[List.length_set]
 refine h.turn [(18,r)] (fun b=>b=gp) ?_ (Only.setCell (F:=fun b=>b=gp) (a:=⟨gp,s,none⟩) rfl _) ?_ ?_ ?_ ?_ ?_
 ·rw[Below.heap_setCell _ _ _ _ (fun e=>gpg (show gp=g from e.symm))]
  exact h.cell
 ·intro b hb
  exact .inr ⟨18,r,List.mem_singleton.2 rfl,hkr,by rw[hpb,hb]⟩
 ·intro j q hj hn
  have hne:(j,q)≠(18,r):=fun e=>hn (List.mem_singleton.2 e);refine⟨(hk j q).1 hj,rfl,?_⟩;unfold kcont;simp only[List.length_set];by_cases e:j=18
  ·subst e
   have hq:r≠q:=fun e=>hne (by rw[e]);simp only[List.getD_eq_getElem?_getD];rw[List.getElem?_set_ne hq]
  ·simp only[if_neg e]
 ·intro j q hj hm'
  obtain⟨rfl,rfl⟩:=Prod.mk.inj (List.mem_singleton.1 hm');have ho:=h.own 18 q hkr;have e1:kcont k V 18 q=bytsV (k.want.getD q []):=rfl;have e2:kcont { k with want:=k.want.set q ((k.want.getD q []).set s c) } V 18 q=bytsV ((k.want.getD q []).set s c):=by
   show bytsV ((k.want.set q ((k.want.getD q []).set s c)).getD q [])=_;rw[List.getD_eq_getElem?_getD,List.getElem?_set_self hr];rfl
  rw[e1] at ho;rw[e2];have hl:mp=(bytsV (k.want.getD q [])).length:=by
   obtain⟨a,b,e⟩:=z02 ho;rw[hp] at e;simp only[Value.slice.injEq] at e;exact e.2.1
  rw[hp,hl] at ho;have:=(ho.stored s (.int .u8 c)).1;rw[bytsV_set] at this;rw[hp,hl];have el:(bytsV ((k.want.getD q []).set s c)).length=(bytsV (k.want.getD q [])).length:=by simp[bytsV]
  rw[el];exact this
 ·intro j q hj hm' b hb
  obtain⟨rfl,rfl⟩:=Prod.mk.inj (List.mem_singleton.1 hm');exact .inl ⟨hkr,hb⟩
 ·intro a q j s _ _ h1 h2 hne
  exact absurd ((List.mem_singleton.1 h1).trans (List.mem_singleton.1 h2).symm) hne
end Go.Proofs.YtkbpocecbcaiiabGreatDoor
