import Derived.Test.YtkbpocecbcaiiabGreatDoorO47
import Derived.Test.YtkbpocecbcaiiabGreatDoorO42
namespace Go.Proofs.YtkbpocecbcaiiabGreatDoor
theorem dup_iff (l:List Nat):(∀i,i < l.length->(l.filter (·==l.getD i 0)).length<=1)↔(∀i,i < l.length->(l.take i).contains (l.getD i 0)=false):=by
 constructor
 ·intro h i hi
  have h1:=h i hi;cases hc:(l.take i).contains (l.getD i 0) with
  | false=>rfl
  | true=>
   exfalso;have hx:l.getD i 0=l[i]:=by simp[List.getD_eq_getElem?_getD,List.getElem?_eq_getElem hi]
   rw[hx] at h1 hc;have hsp:l=l.take i++l[i] :: l.drop (i+1):=by
    rw[<-List.drop_eq_getElem_cons hi,List.take_append_drop]
   obtain⟨y,hy⟩:∃y,y=l[i]:=⟨_,rfl⟩
   rw[<-hy] at h1 hc hsp;have hpos:0 < ((l.take i).filter (·==y)).length:=by
    apply List.length_pos_iff.2;intro hn;rw[List.filter_eq_nil_iff] at hn;exact hn y (by simpa using hc) (by simp)
   have h2:(l.filter (·==y)).length=((l.take i).filter (·==y)).length+(1+((l.drop (i+1)).filter (·==y)).length):=by
    conv=>lhs; rw[hsp]
    rw[List.filter_append,List.length_append,List.filter_cons];simp[Nat.add_comm]
   omega
 ·intro h i hi
  generalize l.getD i 0=x;have key:∀k,k<=l.length->((l.take k).filter (·==x)).length<=1:=by
   intro k
   induction k with
   | zero=>intro _; simp
   | succ k ih=>
    intro hk;have hk':k < l.length:=by omega
    rw[<-List.take_append_getElem hk',List.filter_append,List.length_append];have:=ih (by omega);by_cases hx:l[k]=x
    ·have hc:=h k hk'
     rw[show l.getD k 0=l[k] by simp[List.getD_eq_getElem?_getD,List.getElem?_eq_getElem hk'],hx] at hc;have hn:(l.take k).filter (·==x)=[]:=by
      rw[List.filter_eq_nil_iff];intro a ha e;have:a=x:=by simpa using e
      subst this;rw[List.contains_iff_mem.2 ha] at hc;cases hc
     rw[hn];simp only[List.length_nil,Nat.zero_add];exact List.length_filter_le _ _
    ·have:[l[k]].filter (·==x)=[]:=by simp[hx]
     rw[this]; simpa using ih (by omega)
  have:=key l.length (Nat.le_refl _)
  rwa [List.take_length] at this
theorem secs_getD (p:List (Nat×Nat)) (i:Nat):(secs p).getD i 0=(p.getD i (0,0)).1:=by
 simp only[secs,List.getD_eq_getElem?_getD,List.getElem?_map];cases p[i]? <;> rfl
theorem secs_take (p:List (Nat×Nat)) (i:Nat):secs (p.take i)=(secs p).take i:=by simp[secs]
theorem z0o (p:List (Nat×Nat)):(secs p).length=p.length:=by simp[secs]
theorem dup_p (p:List (Nat×Nat)):(∀i,i < p.length->¬1 < ((secs p).filter (·==(p.getD i (0,0)).1)).length)↔(∀i,i < p.length->has (p.take i) (p.getD i (0,0)).1=false):=by
 have h:=dup_iff (secs p);rw[z0o] at h;simp only[secs_getD] at h;unfold has;simp only[secs_take];rw[<-h];exact⟨fun a i hi=>by have:=a i hi; omega,fun a i hi=>by have:=a i hi; omega⟩
theorem route_eq (L:Lay) (r:Rt):L.routeOK r=!L.crooked r:=by
 rw[Bool.eq_iff_iff];unfold Lay.routeOK Lay.crooked;simp only[Bool.and_eq_true,decide_eq_true_eq,Bool.not_eq_true',Bool.or_eq_false_iff,decide_eq_false_iff_not,List.all_eq_true,List.any_eq_false,List.mem_range,Nat.not_le];unfold Lay.pOK Lay.fOK Lay.badPath Lay.badFlank Lay.itemOK;simp only[Bool.and_eq_true,decide_eq_true_eq,Bool.not_eq_true',Bool.or_eq_true,beq_iff_eq,not_or,Nat.not_le,bne_iff_ne,ne_eq,Decidable.not_not];have d1:=dup_p r.path;have d2:=dup_p r.flank;have hsw:∀x,L.sw.getD x false=true->x < L.sw.length:=by
  intro x hx;rcases Nat.lt_or_ge x L.sw.length with h | h
  ·exact h
  ·rw[List.getD_eq_getElem?_getD,List.getElem?_eq_none h] at hx
   cases hx
 constructor
 ·rintro⟨⟨h1,h2⟩,h3⟩
  have g1:=d1.2 (fun i hi=>(h2 i hi).2);have g2:=d2.2 (fun i hi=>(h3 i hi).1.2);refine⟨⟨h1,fun i hi=>?_⟩,fun i hi=>?_⟩
  ·obtain⟨⟨⟨a,b⟩,c⟩,d⟩:=h2 i hi
   exact⟨⟨⟨a,g1 i hi⟩,by simpa using c⟩,b⟩
  ·obtain⟨⟨a,b⟩,c,d⟩:=h3 i hi
   exact⟨⟨⟨⟨hsw _ c,g2 i hi⟩,by rw[a]; simp⟩,by rw[d]; simp⟩,by rw[c]; simp⟩
 ·rintro⟨⟨h1,h2⟩,h3⟩
  have g1:=d1.1 (fun i hi=>(h2 i hi).1.1.2);have g2:=d2.1 (fun i hi=>(h3 i hi).1.1.1.2);refine⟨⟨h1,fun i hi=>?_⟩,fun i hi=>?_⟩
  ·obtain⟨⟨⟨a,b⟩,c⟩,d⟩:=h2 i hi
   exact⟨⟨⟨a,d⟩,by simpa using c⟩,g1 i hi⟩
  ·obtain⟨⟨⟨⟨a,b⟩,c⟩,d⟩,e⟩:=h3 i hi
   exact⟨⟨by simpa using c,g2 i hi⟩,by simpa using e,by simpa using d⟩
theorem train_eq (L:Lay) (k:Nat) (hk:k < L.tns.length):L.trainOK (L.tn k) (L.tns.take k)=!L.stray k:=by
 have ha:(L.tns.take k).any (fun o=>o.start==(L.tn k).start)=(List.range k).any (fun i=>(L.tn i).start==(L.tn k).start):=by
  rw[Bool.eq_iff_iff];simp only[List.any_eq_true,List.mem_range];constructor
  ·rintro⟨o,ho,e⟩
   obtain⟨j,hj,rfl⟩:=List.getElem_of_mem ho;have hj':j < k:=by simp at hj; omega
   refine⟨j,hj',?_⟩;rw[List.getElem_take] at e
   simpa [Lay.tn,List.getD_eq_getElem?_getD,List.getElem?_eq_getElem (show j < L.tns.length by omega)] using e
  ·rintro⟨j,hj,e⟩
   refine⟨L.tns[j]'(by omega),?_,?_⟩
   ·rw[List.mem_take_iff_getElem]
    exact⟨j,by omega,rfl⟩
   ·simpa [Lay.tn,List.getD_eq_getElem?_getD,List.getElem?_eq_getElem (show j < L.tns.length by omega)] using e
 unfold Lay.trainOK Lay.stray;rw[ha];simp only[Bool.not_or,Bool.not_not];rw[show (!decide (L.sw.length<=(L.tn k).start))=decide ((L.tn k).start < L.sw.length) by rw[<-decide_not]; simp]
theorem z5q {p q:Nat->Bool}:∀(l:List Nat),(∀x,x∈l->p x=q x)->l.find? p=l.find? q
 | [],_=>rfl
 | a :: l,h=>by
  rw[List.find?_cons,List.find?_cons,h a (by simp),z5q l (fun x hx=>h x (List.mem_cons_of_mem _ hx))]
theorem check_eq (L:Lay):L.checkOf=if L.big then (3,0) else match (List.range L.rts.length).find? (fun i=>L.crooked (L.rt i)) with
  | some i=>(4,i)
  | none=>match (List.range L.tns.length).find? (fun i=>L.stray i) with
   | some i=>(5,i)
   | none=>(0,0):=by
 unfold Lay.checkOf;rw[z5q (p:=fun i=>!L.routeOK (L.rt i)) (q:=fun i=>L.crooked (L.rt i)) _ (fun x _=>by simp only[route_eq,Bool.not_not]),
  z5q (p:=fun i=>!L.trainOK (L.tn i) (L.tns.take i)) (q:=fun i=>L.stray i) (List.range L.tns.length) (fun x hx=>by simp only[train_eq L x (List.mem_range.1 hx),Bool.not_not])]
 rfl
end Go.Proofs.YtkbpocecbcaiiabGreatDoor
namespace Go.Proofs.YtkbpocecbcaiiabGreatDoor
theorem ne_none_find {p:Nat->Bool} {n i:Nat} (hi:i < n) (hp:p i=true):(List.range n).find? p≠none:=by
 intro h;rw[List.find?_eq_none] at h;exact h i (List.mem_range.2 hi) hp
def RelS (L:Lay) (at_:List Nat) (l:List St):Prop:=l.length=L.tns.length/\at_.length=L.tns.length/\∀i (h:i < l.length),
 (l[i].done=false->L.doneB at_ i=false/\l[i].holds=L.holdsAt (L.tn i) (at_.getD i 0)/\l[i].ahead=L.aheadAt ((L.tn i).jny.drop (at_.getD i 0))) 
theorem holds_some (L:Lay) (at_:List Nat) (i:Nat) (h:L.doneB at_ i=false):L.holds at_ i=some (L.holdsAt (L.tn i) (at_.getD i 0)):=by
 unfold Lay.holds Lay.holdsAt;rw[h];simp only[Bool.false_eq_true,if_false];split <;> rfl
theorem hits_iff (L:Lay) (js:List Nat) (h:Nat):(∀r,r∈js->hits (secs (L.rt r).path) (some h)=false)↔(L.aheadAt js).contains h=false:=by
 unfold Lay.aheadAt hits;simp only[List.contains_eq_mem,decide_eq_false_iff_not,List.mem_flatMap,not_exists,not_and]
theorem may_of_runs (L:Lay) (at_:List Nat) (l:List St) (hR:RelS L at_ l) (t:Nat) (ht:t < l.length) (hd:l[t].done=false) (hr:L.runsB at_ t=true):z2x l t=true:=by
 unfold z2x;rw[List.all_eq_true];intro i hi;have hi':=List.mem_range.1 hi;rw[stD l i hi',stD l t ht];cases hdi:l[i].done with
 | true=>simp
 | false=>
  by_cases hit:i=t
  ·simp[hit]
  ·obtain⟨a1,a2,a3⟩:=hR.2.2 i hi' hdi
   obtain⟨b1,b2,b3⟩:=hR.2.2 t ht hd;have:l[t].ahead.contains l[i].holds=false:=by
    rw[b3,a2,<-hits_iff];intro r hr';unfold Lay.runsB at hr;rw[List.all_eq_true] at hr;have h1:=hr r hr';rw[List.all_eq_true] at h1;have h2:=h1 i (List.mem_range.2 (by rw[hR.2.1,<-hR.1]; exact hi'));rw[holds_some L at_ i a1] at h2
    simpa [hit] using h2
   rw[this]; simp
theorem runs_of_may (L:Lay) (at_:List Nat) (l:List St) (hR:RelS L at_ l) (hx:∀i (h:i < l.length),l[i].done=true->L.doneB at_ i=true) (t:Nat) (ht:t < l.length) (hd:l[t].done=false) (hm:z2x l t=true):L.runsB at_ t=true:=by
 unfold Lay.runsB;rw[List.all_eq_true];intro r hr;rw[List.all_eq_true];intro i hi;have hi':i < l.length:=by rw[hR.1,<-hR.2.1]; exact List.mem_range.1 hi
 by_cases hit:i=t
 ·simp[hit]
 ·cases hdi:l[i].done with
  | true=>
   have:L.holds at_ i=none:=by unfold Lay.holds; rw[hx i hi' hdi]; rfl
   rw[this]; simp[hits]
  | false=>
   obtain⟨a1,a2,a3⟩:=hR.2.2 i hi' hdi;obtain⟨b1,b2,b3⟩:=hR.2.2 t ht hd;unfold z2x at hm;rw[List.all_eq_true] at hm;have h1:=hm i (List.mem_range.2 hi');rw[stD l i hi',stD l t ht,hdi] at h1;have h2:l[t].ahead.contains l[i].holds=false:=by simpa [hit] using h1
   rw[b3,a2,<-hits_iff] at h2;rw[holds_some L at_ i a1,h2 r hr]; simp
theorem z37 (L:Lay) (at_:List Nat) (t i:Nat):(L.withN at_ t).getD i 0=if i=t/\t < at_.length then (L.tn t).jny.length else at_.getD i 0:=by
 unfold Lay.withN;simp only[List.getD_eq_getElem?_getD,List.getElem?_set];by_cases h:t=i
 ·subst h
  by_cases h2:t < at_.length
  ·simp[h2]
  ·simp[h2]
 ·rw[if_neg h,if_neg (by omega)]
theorem withN_done (L:Lay) (at_:List Nat) (t:Nat) (ht:t < at_.length):L.doneB (L.withN at_ t) t=true:=by
 unfold Lay.doneB; rw[z37,if_pos ⟨rfl,ht⟩]; simp
theorem z4q (L:Lay) (at_:List Nat) (t:Nat):(L.withN at_ t).length=at_.length:=by simp[Lay.withN]
theorem sound_done (L:Lay):∀(f:Nat) (at_:List Nat) (E:List St),RelS L at_ E->z49 E=none->L.soundF f at_=true->E.all (·.done)=true:=by
 have hall:∀(at_:List Nat) (E:List St),RelS L at_ E->L.allDone at_=true->E.all (·.done)=true:=by
  intro at_ E hR h;rw[List.all_eq_true];intro x hx;obtain⟨i,hi,rfl⟩:=List.getElem_of_mem hx;cases hd:E[i].done with
  | true=>rfl
  | false=>
   have h1:=(hR.2.2 i hi hd).1;unfold Lay.allDone at h;rw[List.all_eq_true] at h;rw[h i (List.mem_range.2 (by rw[hR.2.1,<-hR.1]; exact hi))] at h1;cases h1
 intro f
 induction f with
 | zero=>intro at_ E hR _ h; exact hall at_ E hR h
 | succ f ih=>
  intro at_ E hR hf h;unfold Lay.soundF at h;rw[Bool.or_eq_true] at h;rcases h with h | h
  ·exact hall at_ E hR h
  ·rw[List.any_eq_true] at h
   obtain⟨t,ht,h⟩:=h;have ht0:=List.mem_range.1 ht;have ht':t < E.length:=by rw[hR.1,<-hR.2.1]; exact ht0
   simp only[Bool.and_eq_true,Bool.not_eq_true'] at h;obtain⟨⟨h1,h2⟩,h3⟩:=h;cases hd:E[t].done with
   | false=>
    exfalso;refine ne_none_find (p:=fun i=>!(E.getD i ⟨false,0,[]⟩).done&&z2x E i) ht' ?_ hf;simp only[stD E t ht',hd,may_of_runs L at_ E hR t ht' hd h2]; rfl
   | true=>
    refine ih (L.withN at_ t) E ⟨hR.1,by rw[z4q]; exact hR.2.1,fun i hi hdi=>?_⟩ hf h3;have hit:i≠t:=by intro e; subst e; rw[hd] at hdi; cases hdi
    obtain⟨a1,a2,a3⟩:=hR.2.2 i hi hdi;have e:(L.withN at_ t).getD i 0=at_.getD i 0:=by rw[z37,if_neg (by omega)]
    rw[e];exact⟨by unfold Lay.doneB at a1 ⊢; rw[e]; exact a1,a2,a3⟩
theorem markD_get (l:List St) (i j:Nat) (hi:i < l.length) (hj:j < l.length):(markD l i)[j]'(by rw[z2o]; exact hj)=if i=j then ⟨true,l[i].holds,l[i].ahead⟩ else l[j]:=by
 unfold markD;rw[List.getElem_set];split <;> rename_i h
 ·rw[stD l i hi]
 ·rfl
theorem orderL_end:∀(f:Nat) (l:List St),z4d l<=f->z49 (z1s f l).2=none/\(z1s f l).2.length=l.length/\∀(i:Nat) (x:St),(z1s f l).2[i]?=some x->x.done=false->l[i]?=some x:=by
 intro f
 induction f with
 | zero=>
  intro l hu;refine⟨?_,rfl,fun i x h _=>h⟩;cases hf:z49 l with
  | none=>exact hf
  | some i=>have:=z54 hf; omega
 | succ f ih=>
  intro l hu;cases hf:z49 l with
  | none=>
   rw[show z1s (f+1) l=([],l) by simp[z1s,hf]];exact⟨hf,rfl,fun i x h _=>h⟩
  | some k=>
   rw[show z1s (f+1) l=(k :: (z1s f (markD l k)).1,(z1s f (markD l k)).2) by simp[z1s,hf]];have hm:=z54 hf;obtain⟨hk,-,-⟩:=z3f hf;obtain⟨h1,h2,h3⟩:=ih (markD l k) (by omega);refine⟨h1,by rw[h2,z2o],fun i x h hd=>?_⟩;have e:=h3 i x h hd;unfold markD at e;rw[List.getElem?_set] at e;by_cases hki:k=i
   ·rw[if_pos hki,if_pos hk] at e
    simp only[Option.some.injEq] at e;rw[<-e] at hd;cases hd
   ·rw[if_neg hki] at e
    exact e
theorem done_sound (L:Lay):∀(f:Nat) (at_:List Nat) (l:List St),RelS L at_ l->(∀i (h:i < l.length),l[i].done=true->L.doneB at_ i=true)->(z1s f l).2.all (·.done)=true->L.soundF f at_=true:=by
 have hall:∀(at_:List Nat) (l:List St),RelS L at_ l->(∀i (h:i < l.length),l[i].done=true->L.doneB at_ i=true)->l.all (·.done)=true->L.allDone at_=true:=by
  intro at_ l hR hx h;unfold Lay.allDone;rw[List.all_eq_true];intro i hi;have hi':i < l.length:=by rw[hR.1,<-hR.2.1]; exact List.mem_range.1 hi
  rw[List.all_eq_true] at h;exact hx i hi' (h _ (List.getElem_mem hi'))
 intro f
 induction f with
 | zero=>intro at_ l hR hx h; exact hall at_ l hR hx h
 | succ f ih=>
  intro at_ l hR hx h;unfold z1s at h;unfold Lay.soundF;cases hf:z49 l with
  | none=>
   rw[hf] at h;rw[hall at_ l hR hx h]; rfl
  | some k=>
   rw[hf] at h;simp only at h;obtain⟨hk,hd,hm⟩:=z3f hf;have hk':k < at_.length:=by rw[hR.2.1,<-hR.1]; exact hk
   rw[Bool.or_eq_true];right;rw[List.any_eq_true];refine⟨k,List.mem_range.2 hk',?_⟩;have h1:=(hR.2.2 k hk hd).1;have h2:=runs_of_may L at_ l hR hx k hk hd hm;have h3:=ih (L.withN at_ k) (markD l k) ⟨by rw[z2o]; exact hR.1,by rw[z4q]; exact hR.2.1,fun i hi hdi=>?_⟩ (fun i hi hdi=>?_) h
   ·rw[h1,h2,h3]; rfl
   ·have hi':i < l.length:=by rw[z2o] at hi; exact hi
    rw[markD_get l k i hk hi'] at hdi ⊢;by_cases hki:k=i
    ·rw[if_pos hki] at hdi; cases hdi
    ·rw[if_neg hki] at hdi ⊢
     obtain⟨a1,a2,a3⟩:=hR.2.2 i hi' hdi;have e:(L.withN at_ k).getD i 0=at_.getD i 0:=by rw[z37,if_neg (by omega)]
     rw[e];exact⟨by unfold Lay.doneB at a1 ⊢; rw[e]; exact a1,a2,a3⟩
   ·have hi':i < l.length:=by rw[z2o] at hi; exact hi
    rw[markD_get l k i hk hi'] at hdi;by_cases hki:k=i
    ·subst hki; exact withN_done L at_ k hk'
    ·rw[if_neg hki] at hdi
     have:=hx i hi' hdi;have e:(L.withN at_ k).getD i 0=at_.getD i 0:=by rw[z37,if_neg (by omega)]
     unfold Lay.doneB at this ⊢; rw[e]; exact this
theorem sts_rel (L:Lay) (at_:List Nat) (hl:at_.length=L.tns.length):RelS L at_ (L.stsAt at_)/\∀i (h:i < (L.stsAt at_).length),(L.stsAt at_)[i].done=true->L.doneB at_ i=true:=by
 have hg:∀i (h:i < (L.stsAt at_).length),(L.stsAt at_)[i]=L.stAt (L.tn i) (at_.getD i 0):=by intro i h; simp[Lay.stsAt]
 refine⟨⟨by simp[Lay.stsAt],hl,fun i h hd=>?_⟩,fun i h hd=>?_⟩
 ·rw[hg i h] at hd ⊢
  unfold Lay.stAt at hd ⊢;simp only[decide_eq_false_iff_not] at hd;refine⟨by unfold Lay.doneB; simpa using hd,?_,rfl⟩;simp only;rw[Nat.min_eq_right (by omega)]
 ·rw[hg i h] at hd
  unfold Lay.stAt at hd;unfold Lay.doneB;exact hd
theorem ok_sound (L:Lay) (at_:List Nat) (hl:at_.length=L.tns.length):(z1s L.tns.length (L.stsAt at_)).2.all (·.done)=L.sound at_:=by
 obtain⟨hR,hx⟩:=sts_rel L at_ hl;have hu:z4d (L.stsAt at_)<=L.tns.length:=by have:=undoneS_le (L.stsAt at_); rw[hR.1] at this; exact this
 obtain⟨h1,h2,h3⟩:=orderL_end L.tns.length (L.stsAt at_) hu;rw[Bool.eq_iff_iff];unfold Lay.sound;rw[hl];constructor
 ·exact done_sound L L.tns.length at_ (L.stsAt at_) hR hx
 ·intro h
  refine sound_done L L.tns.length at_ _ ⟨by rw[h2]; exact hR.1,hl,fun i hi hd=>?_⟩ h1 h;have hi':i < (L.stsAt at_).length:=by rw[<-h2]; exact hi
  have e:=h3 i _ (List.getElem?_eq_getElem hi) hd;rw[List.getElem?_eq_getElem hi'] at e;simp only[Option.some.injEq] at e;rw[<-e] at hd ⊢;exact hR.2.2 i hi' hd
end Go.Proofs.YtkbpocecbcaiiabGreatDoor
namespace Go.Proofs.YtkbpocecbcaiiabGreatDoor
theorem okL_eq (L:Lay) (at_:List Nat) (hl:at_.length=L.tns.length):L.okL at_=L.sound at_:=ok_sound L at_ hl
theorem load_eq (s:ByteArray):(z55 s).1=(errOf s.data.toList).1/\((z55 s).2:Int)=(errOf s.data.toList).2:=by
 have hlen:s.data.toList.length=s.size:=by simp
 unfold z55 errOf;rw[hlen];by_cases hs:256 < s.size
 ·have hf:z2h s=(1,0):=by unfold z2h; rw[if_pos hs]
  rw[if_pos hs,hf];exact⟨rfl,rfl⟩
 ·rw[if_neg hs]
  rcases form_eq s (by omega) with ⟨f1,f2,f3,-⟩ | ⟨f1,f2,f3⟩
  ·have g1:¬(z2h s).1≠0:=by simpa using f1
   have g2:¬z1m 0 0 s.data.toList≠-1:=by simpa using f2
   rw[if_neg g1,if_neg g2,f3,check_eq];generalize (layL s).2.2=L;cases hb:L.big with
   | true=>exact⟨rfl,rfl⟩
   | false=>
    simp only[Bool.false_eq_true,if_false];cases h4:(List.range L.rts.length).find? (fun i=>L.crooked (L.rt i)) with
    | some i=>exact⟨rfl,rfl⟩
    | none=>
     simp only;cases h5:(List.range L.tns.length).find? (fun i=>L.stray i) with
     | some i=>exact⟨rfl,rfl⟩
     | none=>
      simp only;rw[okL_eq L _ (by simp)];cases L.sound (List.replicate L.tns.length 0) with
      | true=>exact⟨rfl,rfl⟩
      | false=>exact⟨rfl,rfl⟩
  ·have g1:(z2h s).1≠0:=by rw[f1]; decide
   rw[if_pos g1,if_pos f2];exact⟨f1,f3⟩
end Go.Proofs.YtkbpocecbcaiiabGreatDoor
namespace Go.Proofs.YtkbpocecbcaiiabGreatDoor
open Go.RowKit
theorem big_small {L:Lay} (h:L.big=false):L.sw.length<=16/\L.rts.length<=12/\L.tns.length<=5:=by
 unfold Lay.big at h;simp only[Bool.or_eq_false_iff,decide_eq_false_iff_not] at h;omega
theorem lay_same (s:ByteArray) (h:(errOf s.data.toList).1=0):(layL s).2.2=layOf s.data.toList/\(layOf s.data.toList).big=false:=by
 obtain⟨b1,b2,b3,-⟩:=err0 _ h;have hs:s.size<=256:=by simpa using b1
 rcases form_eq s hs with ⟨f1,f2,f3,-⟩ | ⟨f1,f2,f3⟩
 ·exact⟨f3.symm,b3⟩
 ·exact absurd b2 f2
theorem z0z {α:Type} (n i:Nat) (x d:α) (h:x=d):(List.replicate n x).getD i d=d:=by
 subst h;rw[List.getD_eq_getElem?_getD,List.getElem?_replicate];split <;> rfl
theorem flankL_sgn (s:ByteArray):∀(f p:Nat) (x:Nat×Nat),x∈(z11 s f p).1->x.2≠0
 | 0,p,x,h=>by simp[z11] at h
 | f+1,p,x,h=>by
  unfold z11 at h;split at h
  ·split at h
   ·simp at h
   ·rename_i h1 h2
    rcases List.mem_cons.1 h with rfl | h
    ·exact h2
    ·exact flankL_sgn s f (p+2) x h
  ·simp at h
theorem routeL_sgn (s:ByteArray) (p:Nat) (x:Nat×Nat) (h:x∈(z15 s p).2.2.flank):x.2≠0:=by
 unfold z15 at h;split at h
 ·simp[Rt0] at h
 split at h
 ·simp[Rt0] at h
 split at h
 ·simp[Rt0] at h
 split at h
 ·simp at h
 ·exact flankL_sgn s _ _ x h
theorem rtsL_sgn (s:ByteArray):∀(f p:Nat) (r:Rt),r∈(rtsL s f p).2.2->∀x,x∈r.flank->x.2≠0
 | 0,p,r,h=>by simp[rtsL] at h
 | f+1,p,r,h=>by
  unfold rtsL at h;split at h
  ·simp at h
  ·split at h
   ·rcases List.mem_cons.1 h with rfl | h
    ·exact fun x=>routeL_sgn s p x
    ·exact rtsL_sgn s f _ r h
   ·rcases List.mem_cons.1 h with rfl | h
    ·exact fun x=>routeL_sgn s p x
    ·simp at h
theorem layL_sgn (s:ByteArray) (r:Rt) (h:r∈(layL s).2.2.rts):∀x,x∈r.flank->x.2≠0:=by
 unfold layL at h;split at h
 ·simp at h
 split at h
 ·simp at h
 split at h
 ·simp at h
 split at h
 ·simp at h
 split at h
 ·simp at h
 split at h
 ·simp at h
 ·exact rtsL_sgn s _ _ r h
theorem layL_T (s:ByteArray) (h:(layL s).1=true):(1<=(layL s).2.2.T/\(layL s).2.2.T<=9)/\(1<=(layL s).2.2.D/\(layL s).2.2.D<=9)/\(1<=(layL s).2.2.Q/\(layL s).2.2.Q<=9):=by
 have ht:=(times_ok s).2;unfold layL at h ⊢;by_cases h1:z2z s 0=3
 ·have h2:¬z2z s 0≠3:=by simpa using h1
  rw[if_neg h2] at h ⊢;obtain⟨-,-,h3⟩:=ht h1;have a0:=h3 0 (by omega);have a1:=h3 1 (by omega);have a2:=h3 2 (by omega)
  repeat' split
  all_goals first
   | (exfalso; simp_all; done)
   | (show (1<=pk s 0 - 48/\pk s 0 - 48<=9)/\(1<=pk s 1 - 48/\pk s 1 - 48<=9)/\(1<=pk s 2 - 48/\pk s 2 - 48<=9); omega)
 ·rw[if_pos h1] at h
  simp at h
structure RtOK (L:Lay) (r:Rt):Prop where
 ne:r.path≠[]
 pl:r.path.length<=6
 fl:r.flank.length<=4
 foot:r.foot < L.sw.length
 pn:(secs r.path).Nodup
 ps:∀x,x∈r.path->x.1 < L.sw.length/\(L.sw.getD x.1 false=(x.2 != 0))
 fs:∀x,x∈r.flank->x.1 < L.sw.length/\L.sw.getD x.1 false=true/\has r.path x.1=false/\x.2≠0
 fn:(secs r.flank).Nodup
structure LayOK (L:Lay):Prop where
 good:L.Good
 T:1<=L.T/\L.T<=9
 D:1<=L.D/\L.D<=9
 Q:1<=L.Q/\L.Q<=9
 sw:L.sw.length<=16
 rl:L.rts.length<=12
 rts:∀r,r∈L.rts->RtOK L r
theorem nodup_of (l:List Nat) (h:∀i,i < l.length->(l.filter (·==l.getD i 0)).length<=1):l.Nodup:=by
 rw[List.nodup_iff_count];intro a;by_cases ha:a∈l
 ·obtain⟨i,hi,rfl⟩:=List.mem_iff_getElem.1 ha
  have:=h i hi;rw[List.getD_eq_getElem?_getD,List.getElem?_eq_getElem hi] at this;rw[List.count_eq_length_filter];exact this
 ·rw[List.count_eq_zero_of_not_mem ha]; omega
theorem mem_getD {l:List (Nat×Nat)} {x:Nat×Nat} (h:x∈l):∃i,i < l.length/\l.getD i (0,0)=x:=by
 obtain⟨i,hi,rfl⟩:=List.mem_iff_getElem.1 h;exact⟨i,hi,by rw[List.getD_eq_getElem?_getD,List.getElem?_eq_getElem hi]; rfl⟩
theorem rtOK_of (L:Lay) (r:Rt) (hne:r.path≠[]) (hp:r.path.length<=6) (hf:r.flank.length<=4) (hs:∀x,x∈r.flank->x.2≠0) (h:L.crooked r=false):RtOK L r:=by
 unfold Lay.crooked at h;simp only[Bool.or_eq_false_iff,decide_eq_false_iff_not,List.any_eq_false,List.mem_range] at h;obtain⟨⟨h1,h2⟩,h3⟩:=h;refine⟨hne,hp,hf,by omega,?_,?_,?_,?_⟩
 ·refine nodup_of _ (fun i hi=>?_)
  have:=h2 i (by rw[z0o] at hi; exact hi);unfold Lay.badPath at this;simp only[Bool.or_eq_true,not_or,decide_eq_true_eq] at this;rw[secs_getD];have:=this.1.1.2;omega
 ·intro x hx
  obtain⟨i,hi,rfl⟩:=mem_getD hx;have:=h2 i hi;unfold Lay.badPath at this;simp only[Bool.or_eq_true,not_or,decide_eq_true_eq] at this;refine⟨by have:=this.1.1.1; omega,?_⟩;have:=this.2
  simpa using this
 ·intro x hx
  obtain⟨i,hi,rfl⟩:=mem_getD hx;have:=h3 i hi;unfold Lay.badFlank at this;simp only[Bool.or_eq_true,not_or,decide_eq_true_eq] at this;refine⟨by have:=this.1.1.1.1; omega,by have:=this.2; simpa using this,by have:=this.1.1.2; simpa using this,hs _ hx⟩
 ·refine nodup_of _ (fun i hi=>?_)
  have:=h3 i (by rw[z0o] at hi; exact hi);unfold Lay.badFlank at this;simp only[Bool.or_eq_true,not_or,decide_eq_true_eq] at this;rw[secs_getD];have:=this.1.1.1.2;omega
theorem z4e (s:ByteArray) (h:(errOf s.data.toList).1=0):LayOK (layOf s.data.toList)/\(layL s).2.2=layOf s.data.toList:=by
 obtain⟨e0,hbig⟩:=lay_same s h;have hlen:s.data.toList.length=s.size:=by simp
 have hs:s.size<=256:=by
  unfold errOf at h;by_cases hh:256 < s.data.toList.length
  ·rw[if_pos hh] at h; simp at h
  ·omega
 rcases form_eq s hs with ⟨f1,f2,f3,f4⟩ | ⟨f1,f2,f3⟩
 case inr=>
  exfalso;unfold errOf at h;rw[if_neg (by omega),if_pos f2] at h;simp at h
 have hl1:(layL s).1=true:=by
  unfold z2h at f1;rw[if_neg (by omega)] at f1;by_cases hh:((layL s).1&&decide ((layL s).2.1=s.size))=false
  ·rw[if_pos hh] at f1; simp at f1
  ·simp at hh; exact hh.1
 have hT:=layL_T s hl1;have hsg:=layL_sgn s;rw[e0] at hT hsg f4;refine⟨?_,e0⟩;obtain⟨L,hL⟩:∃L,L=layOf s.data.toList:=⟨_,rfl⟩
 unfold errOf at h;rw[if_neg (by omega),if_neg (by simpa using f2),if_neg (by simp[hbig])] at h;rw[<-hL] at hT hsg f4 hbig h ⊢;obtain⟨b1,b2,b3⟩:=big_small hbig;have hbig':=hbig;unfold Lay.big at hbig';simp only[Bool.or_eq_false_iff,decide_eq_false_iff_not,List.any_eq_false,Bool.or_eq_true,not_or,decide_eq_true_eq] at hbig';obtain⟨⟨-,hb4⟩,hb5⟩:=hbig';have hcr:∀i,i < L.rts.length->L.crooked (L.rt i)=false:=by
  intro i hi;cases hc:L.crooked (L.rt i) with
  | false=>rfl
  | true=>
   exfalso;cases hf:(List.range L.rts.length).find? (fun i=>L.crooked (L.rt i)) with
   | none=>
    have:=List.find?_eq_none.1 hf i (List.mem_range.2 hi);simp[hc] at this
   | some j=>rw[hf] at h; simp at h
 have hst:∀i,i < L.tns.length->L.stray i=false:=by
  intro i hi;cases hc:L.stray i with
  | false=>rfl
  | true=>
   exfalso;cases hf:(List.range L.rts.length).find? (fun i=>L.crooked (L.rt i)) with
   | some j=>rw[hf] at h; simp at h
   | none=>
    rw[hf] at h;cases hf2:(List.range L.tns.length).find? (fun i=>L.stray i) with
    | none=>
     have:=List.find?_eq_none.1 hf2 i (List.mem_range.2 hi);simp[hc] at this
    | some j=>rw[hf2] at h; simp at h
 refine⟨⟨f4,?_,b3,fun t ht=>by have:=hb5 t ht; omega,fun r hr=>by have:=(hb4 r hr).1; omega⟩,hT.1,hT.2.1,hT.2.2,b1,b2,?_⟩
 ·intro t ht r hr
  obtain⟨i,hi,rfl⟩:=List.mem_iff_getElem.1 ht;have:=hst i hi;unfold Lay.stray at this;simp only[Bool.or_eq_false_iff,Bool.not_eq_false'] at this;have e:L.tn i=L.tns[i]:=by unfold Lay.tn; rw[List.getD_eq_getElem?_getD,List.getElem?_eq_getElem hi]; rfl
  rw[e] at this;exact joins_lt L _ _ this.2 r hr
 ·intro r hr
  obtain⟨i,hi,rfl⟩:=List.mem_iff_getElem.1 hr;have e:L.rt i=L.rts[i]:=by unfold Lay.rt; rw[List.getD_eq_getElem?_getD,List.getElem?_eq_getElem hi]; rfl
  have:=hcr i hi;rw[e] at this;exact rtOK_of L _ (f4 _ hr) (by have:=(hb4 _ hr).1; omega) (by have:=(hb4 _ hr).2; omega) (hsg _ hr) this
theorem mem_signOf:∀{l:List (Nat×Nat)},(secs l).Nodup->∀{x:Nat×Nat},x∈l->z1l l x.1=some x.2
 | [],_,x,h=>by simp at h
 | y :: l,hn,x,h=>by
  have hn':(y.1 :: secs l).Nodup:=hn;rw[List.nodup_cons] at hn';unfold z1l;rcases List.mem_cons.1 h with rfl | h
  ·simp
  ·have:y.1≠x.1:=by
    intro e;exact hn'.1 (e ▸ List.mem_map_of_mem h)
   have ih:=mem_signOf hn'.2 h;unfold z1l at ih;rw[List.find?_cons_of_neg (by simpa using this)];exact ih
theorem signOf_mem {l:List (Nat×Nat)} {s c:Nat} (h:z1l l s=some c):(s,c)∈l:=by
 unfold z1l at h;obtain⟨x,hx,rfl⟩:=Option.map_eq_some_iff.1 h;have h1:=List.mem_of_find?_eq_some hx;have h2:=List.find?_some hx;have h2':x.1=s:=by simpa using h2
 subst h2';exact h1
theorem signOf_no {l:List (Nat×Nat)} {s:Nat} (h:has l s=false):z1l l s=none:=by
 unfold z1l;have:l.find? (fun x=>x.1==s)=none:=by
  rw[List.find?_eq_none];intro x hx hh;have h2:x.1=s:=by simpa using hh
  subst h2;have:has l x.1=true:=by
   unfold has;exact List.contains_iff_mem.2 (List.mem_map_of_mem hx)
  rw[this] at h; simp at h
 rw[this]; rfl
theorem has_iff (l:List (Nat×Nat)) (s:Nat):has l s=true↔∃x,x∈l/\x.1=s:=by
 unfold has secs;rw[List.contains_iff_mem];simp only[List.mem_map]
theorem sws_iff {L:Lay} {r:Nat} (h:RtOK L (L.rt r)) (x:Nat×Nat):x∈swsOf (L.rt r)↔(x.2≠0/\L.wantsF r x.1=x.2):=by
 unfold swsOf;rw[List.mem_append,List.mem_filter];constructor
 ·rintro(⟨h1,h2⟩ | h1)
  ·refine⟨by simpa using h2,?_⟩
   unfold Lay.wantsF;rw[mem_signOf h.pn h1]
  ·obtain⟨-,-,a,b⟩:=h.fs x h1
   refine⟨b,?_⟩;unfold Lay.wantsF;rw[signOf_no a,mem_signOf h.fn h1];rfl
 ·rintro⟨h1,h2⟩
  unfold Lay.wantsF at h2;cases hp:z1l (L.rt r).path x.1 with
  | some c=>
   rw[hp] at h2;have h2':c=x.2:=h2;subst h2';exact Or.inl ⟨signOf_mem hp,by simpa using h1⟩
  | none=>
   rw[hp] at h2;cases hf:z1l (L.rt r).flank x.1 with
   | some c=>
    rw[hf] at h2;have h2':c=x.2:=h2;subst h2';exact Or.inr (signOf_mem hf)
   | none=>
    rw[hf] at h2;exact absurd h2.symm h1
theorem wants_sw {L:Lay} {r s:Nat} (h:RtOK L (L.rt r)) (hw:L.wantsF r s≠0):s < L.sw.length/\L.sw.getD s false=true:=by
 have hm:=(sws_iff h (s,L.wantsF r s)).2 ⟨hw,rfl⟩;unfold swsOf at hm;rw[List.mem_append,List.mem_filter] at hm;rcases hm with ⟨h1,-⟩ | h1
 ·obtain⟨a,b⟩:=h.ps _ h1
  exact⟨a,by rw[b]; simpa using hw⟩
 ·obtain⟨a,b,-⟩:=h.fs _ h1
  exact⟨a,b⟩
theorem has_sws {L:Lay} {r:Nat} (h:RtOK L (L.rt r)) (s:Nat):has (swsOf (L.rt r)) s=(L.wantsF r s != 0):=by
 rw[Bool.eq_iff_iff,has_iff];constructor
 ·rintro⟨x,hx,rfl⟩
  obtain⟨a,b⟩:=(sws_iff h x).1 hx;rw[b]; simpa using a
 ·intro hw
  exact⟨(s,L.wantsF r s),(sws_iff h _).2 ⟨by simpa using hw,rfl⟩,rfl⟩
theorem all_sws {L:Lay} {r:Nat} (h:RtOK L (L.rt r)) (g:Nat×Nat->Bool):(swsOf (L.rt r)).all g=(List.range L.sw.length).all (fun s=>L.wantsF r s==0||g (s,L.wantsF r s)):=by
 rw[Bool.eq_iff_iff,List.all_eq_true,List.all_eq_true];constructor
 ·intro ha s _
  by_cases hw:L.wantsF r s=0
  ·simp[hw]
  ·rw[ha _ ((sws_iff h (s,L.wantsF r s)).2 ⟨hw,rfl⟩)]; simp
 ·intro ha x hx
  obtain⟨a,b⟩:=(sws_iff h x).1 hx;have hs:=(wants_sw h (s:=x.1) (by rw[b]; exact a)).1;have:=ha x.1 (List.mem_range.2 hs);rw[b] at this
  simpa [a] using this
theorem any_sws {L:Lay} {r:Nat} (h:RtOK L (L.rt r)) (g:Nat×Nat->Bool):(swsOf (L.rt r)).any g=(List.range L.sw.length).any (fun s=>L.wantsF r s != 0&&g (s,L.wantsF r s)):=by
 have:=all_sws h (fun x=>!g x);rw[List.any_eq_not_all_not,List.any_eq_not_all_not,this]
 congr 1
 refine List.all_congr rfl ?_;intro s;simp[bne]
theorem all_path {L:Lay} {r:Nat} (h:RtOK L (L.rt r)) (g:Nat->Bool):(L.rt r).path.all (fun x=>g x.1)=(List.range L.sw.length).all (fun s=>!has (L.rt r).path s||g s):=by
 rw[Bool.eq_iff_iff,List.all_eq_true,List.all_eq_true];constructor
 ·intro ha s _
  cases hh:has (L.rt r).path s with
  | false=>rfl
  | true=>
   obtain⟨x,hx,rfl⟩:=(has_iff _ _).1 hh;rw[ha x hx]; rfl
 ·intro ha x hx
  have:=ha x.1 (List.mem_range.2 (h.ps x hx).1);rw[(has_iff _ _).2 ⟨x,hx,rfl⟩] at this
  simpa using this
theorem all_andq (l:List Nat) (p q:Nat->Bool):(l.all p&&l.all q)=l.all (fun s=>p s&&q s):=by
 rw[Bool.eq_iff_iff];simp only[Bool.and_eq_true,List.all_eq_true];exact⟨fun h s hs=>⟨h.1 s hs,h.2 s hs⟩,fun h=>⟨fun s hs=>(h s hs).1,fun s hs=>(h s hs).2⟩⟩
theorem all_cg {p q:Nat->Bool} {n:Nat} (h:∀s,s < n->p s=q s):(List.range n).all p=(List.range n).all q:=by
 rw[Bool.eq_iff_iff];simp only[List.all_eq_true,List.mem_range];exact⟨fun a s hs=>(h s hs) ▸ a s hs,fun a s hs=>(h s hs) ▸ a s hs⟩
theorem any_cg {p q:Nat->Bool} {n:Nat} (h:∀s,s < n->p s=q s):(List.range n).any p=(List.range n).any q:=by
 rw[Bool.eq_iff_iff];simp only[List.any_eq_true,List.mem_range];exact⟨fun ⟨s,hs,a⟩=>⟨s,hs,(h s hs) ▸ a⟩,fun ⟨s,hs,a⟩=>⟨s,hs,(h s hs) ▸ a⟩⟩
structure LR (L:Lay) (r:Nat) (y:PRt) (x:RLn):Prop where
 rt:y.rt=L.rt r
 ph:y.ph=x.ph
 tr:x.ph≠46->y.train=x.train
 be:x.ph≠46->y.been=x.been
 fr:x.ph≠46->y.freed=x.gone
 ml:x.ph≠46->y.marked.length=(L.rt r).path.length
 mks:x.ph=116->y.marked=x.marks
 ct:x.ph=100->y.count=x.count
 cb:y.count<=1000
 fb:y.freed<=1000
 mb:y.marked.length<=1000
structure LI (L:Lay) (r:Nat) (x:RLn):Prop where
 g0:x.ph≠116->x.gone=0
 ps:x.ph=116->x.marks.length=(L.rt r).path.length/\x.gone < (L.rt r).path.length
 ct:x.count<=1000
structure Sim (B:PBx) (C:RBx):Prop where
 L:B.L=C.L
 rl:B.rts.length=C.L.rts.length
 lr:∀r,r < C.L.rts.length->LR C.L r (B.route r) (C.line r)
 sl:B.sws.length=C.L.sw.length
 sw:∀s,s < C.L.sw.length->C.L.sw.getD s false=true->(B.sw s).wanted=C.wanted.getD s 0/\(B.sw s).failed=C.failed.getD s false/\(B.sw s).late=C.late.getD s 0
 lt:∀s,(B.sw s).late<=1000
 sta:B.sta=C.sta
 waits:B.waits=C.waits
structure Inv (C:RBx):Prop where
 lay:LayOK C.L
 ll:C.lines.length=C.L.rts.length
 wl:C.wanted.length=C.L.sw.length
 fl:C.failed.length=C.L.sw.length
 dl:C.late.length=C.L.sw.length
 st:C.sta.length=C.L.tns.length
 sj:∀t,C.sta.getD t 0<=(C.L.tn t).jny.length
 late:∀s,C.late.getD s 0 < C.L.T
 li:∀r,r < C.L.rts.length->LI C.L r (C.line r)
 tr:∀r,r < C.L.rts.length->(C.line r).ph≠46->(C.line r).train < C.L.tns.length/\1<=C.sta.getD (C.line r).train 0
 one:∀r r',r < C.L.rts.length->r' < C.L.rts.length->(C.line r).ph≠46->(C.line r').ph≠46->(C.line r).train=(C.line r').train->r=r'
 wq:C.waits.length<=C.L.Q
 wn:C.waits.Nodup
 wt:∀t,t∈C.waits->t < C.L.tns.length/\C.sta.getD t 0 < (C.L.tn t).jny.length
structure FrS (pf:PFr) (f:Fr) (L:Lay):Prop where
 occ:pf.occ=f.occ
 rep:pf.rep=f.rep
 ol:f.occ.length=L.sw.length
 pl:f.rep.length=L.sw.length
theorem Inv.rt {C:RBx} (h:Inv C) {r:Nat} (hr:r < C.L.rts.length):RtOK C.L (C.L.rt r):=by
 refine h.lay.rts _ ?_;unfold Lay.rt;rw[List.getD_eq_getElem?_getD,List.getElem?_eq_getElem hr];exact List.getElem_mem hr
theorem Sim.lockB {B:PBx} {C:RBx} (h:Sim B C) {r:Nat} (hr:r < C.L.rts.length) (s:Nat):B.lockB s r=C.lockB s r:=by
 have hl:=h.lr r hr;show (B.route r).lockB s=C.lockB s r;unfold PRt.lockB RBx.lockB;rw[hl.rt,hl.ph];by_cases hp:(C.line r).ph=46
 ·rw[hp]; rfl
 ·rw[hl.fr hp]
theorem Sim.lockedBy {B:PBx} {C:RBx} (h:Sim B C) (hi:Inv C) (s:Nat):B.lockedBy s=C.lockedBy s:=by
 unfold PBx.lockedBy RBx.lockedBy;rw[h.rl,hi.ll];exact z5q _ (fun r hr=>h.lockB (List.mem_range.1 hr) s)
theorem Sim.heldB {B:PBx} {C:RBx} (h:Sim B C) (hi:Inv C) (s:Nat):B.heldB s=C.heldB s:=by
 unfold PBx.heldB RBx.heldB;rw[h.lockedBy hi,h.rl,hi.ll,Bool.or_comm]
 congr 1
 refine any_cg (fun r hr=>?_);have hl:=h.lr r hr;unfold PBx.flankB RBx.flankB PRt.flankB;rw[hl.rt,hl.ph]
theorem Sim.setFor {B:PBx} {C:RBx} (h:Sim B C) (hi:Inv C) (t:Nat):B.setFor t=C.isSet t:=by
 unfold PBx.setFor RBx.isSet;rw[h.rl,hi.ll];refine any_cg (fun r hr=>?_);have hl:=h.lr r hr;unfold RBx.setB PRt.setB;rw[hl.ph];by_cases hp:(C.line r).ph=46
 ·rw[hp]; rfl
 ·rw[hl.tr hp]
theorem Sim.broken {B:PBx} {C:RBx} (h:Sim B C) (hi:Inv C) {r:Nat} (hr:r < C.L.rts.length):B.anyF (swsOf (C.L.rt r))=C.broken r:=by
 unfold PBx.anyF RBx.broken;rw[any_sws (hi.rt hr)];refine any_cg (fun s hs=>?_);unfold RBx.brokenB;by_cases hw:C.L.wantsF r s=0
 ·rw[hw]; rfl
 ·rw[(h.sw s hs (wants_sw (hi.rt hr) hw).2).2.1]
theorem right_eq {C:RBx} {pf:PFr} {f:Fr} (hf:FrS pf f C.L) (hi:Inv C) {r:Nat} (hr:r < C.L.rts.length):(swsOf (C.L.rt r)).all (fun i=>pf.repAs i.1 i.2)=C.right f r:=by
 unfold RBx.right;rw[all_sws (hi.rt hr)];refine all_cg (fun s hs=>?_);unfold RBx.rightB PFr.repAs;rw[hf.rep];have:decide (s < f.rep.length)=true:=by rw[hf.pl]; simpa using hs
 simp only[this,Bool.true_and]
theorem busy_eq {C:RBx} {pf:PFr} {f:Fr} (hf:FrS pf f C.L) (r:Nat):pf.freeB (C.L.rt r).path=!C.busy f r:=by
 unfold PFr.freeB RBx.busy busyF RBx.pth secs;rw[hf.occ,List.any_map,List.any_eq_not_all_not,Bool.not_not];rfl
theorem ready_eq {C:RBx} {pf:PFr} {f:Fr} {y:PRt} (hf:FrS pf f C.L) (hi:Inv C) {r:Nat} (hr:r < C.L.rts.length) (hy:y.rt=C.L.rt r):y.readyB pf=(C.right f r&&!C.busy f r):=by
 unfold PRt.readyB;rw[hy,right_eq hf hi hr,busy_eq hf]
theorem Sim.free {B:PBx} {C:RBx} {pf:PFr} {f:Fr} (h:Sim B C) (hi:Inv C) (hf:FrS pf f C.L) {r:Nat} (hr:r < C.L.rts.length) :
  ((B.lockOK (C.L.rt r).path&&pf.freeB (C.L.rt r).path)&&B.wantOK pf (swsOf (C.L.rt r)))=C.free f r:=by
 unfold PBx.wantOK;rw[h.broken hi hr];have e1:B.lockOK (C.L.rt r).path=(List.range C.L.sw.length).all (fun s=>!has (C.L.rt r).path s||!(B.lockedBy s).isSome):=all_path (hi.rt hr) (fun s=>!(B.lockedBy s).isSome);have e2:pf.freeB (C.L.rt r).path=(List.range C.L.sw.length).all (fun s=>!has (C.L.rt r).path s||!pf.occ.getD s false):=all_path (hi.rt hr) (fun s=>!pf.occ.getD s false);have e3:(!C.broken r)=(List.range C.L.sw.length).all (fun s=>!C.brokenB r s):=by
  unfold RBx.broken;rw[List.any_eq_not_all_not,Bool.not_not]
 rw[e1,e2,e3,all_sws (hi.rt hr),all_andq,all_andq,all_andq];unfold RBx.free;refine all_cg (fun s hs=>?_);unfold RBx.freeB RBx.brokenB PBx.wantOK1 PBx.wantedAs RBx.takenB;simp only;rw[h.lockedBy hi,h.heldB hi,hf.occ];have hsl:decide (s < B.sws.length)=true:=by rw[h.sl]; simpa using hs
 rw[hsl];have hh:C.heldB s=((C.lockedBy s).isSome||(List.range C.lines.length).any (C.flankB s)):=rfl;rw[hh];by_cases hw:C.L.wantsF r s=0
 ·rw[hw]
  cases has (C.L.rt r).path s <;> cases (C.lockedBy s).isSome <;> cases f.occ.getD s false <;> simp
 ·rw[(h.sw s hs (wants_sw (hi.rt hr) hw).2).1]
  have hw1:(C.L.wantsF r s==0)=false:=by simpa using hw
  have hw2:(C.L.wantsF r s != 0)=true:=by simpa using hw
  rw[hw1,hw2];rw[show (C.wanted.getD s 0 != C.L.wantsF r s)=!(C.wanted.getD s 0==C.L.wantsF r s) from rfl];generalize (C.wanted.getD s 0==C.L.wantsF r s)=q1;generalize has (C.L.rt r).path s=q2;generalize (C.lockedBy s).isSome=q3;generalize f.occ.getD s false=q4;generalize C.failed.getD s false=q5;generalize (List.range C.lines.length).any (C.flankB s)=q6
  revert q1 q2 q3 q4 q5 q6
  decide
theorem any_andc (n:Nat) (p:Nat->Bool) (c:Bool):(List.range n).any (fun r=>p r&&c)=((List.range n).any p&&c):=by
 cases c
 ·simp
 ·simp
theorem Sim.move {B:PBx} {C:RBx} {pf:PFr} {f:Fr} (h:Sim B C) (hi:Inv C) (hf:FrS pf f C.L) {s:Nat} (hs:s < C.L.sw.length) (hw:C.L.sw.getD s false=true):B.moveC pf s=C.moveF f s:=by
 unfold PBx.moveC RBx.moveF;obtain⟨e1,e2,-⟩:=h.sw s hs hw;have ea:B.awaitB s=(List.range C.lines.length).any (fun r=>(C.line r).ph==119&&C.L.wantsF r s != 0):=by
  unfold PBx.awaitB;rw[h.rl,hi.ll];refine any_cg (fun r hr=>?_);have hl:=h.lr r hr;unfold PRt.awaitB;rw[hl.rt,hl.ph,has_sws (hi.rt hr)]
 have eb:(List.range C.lines.length).any (C.moveB f s)=((List.range C.lines.length).any (fun r=>(C.line r).ph==119&&C.L.wantsF r s != 0)&&(!f.occ.getD s false&&!C.failed.getD s false&&f.rep.getD s 0 != C.wanted.getD s 0)):=by
  rw[<-any_andc];refine any_cg (fun r hr=>?_);unfold RBx.moveB;simp only[Bool.and_assoc]
 have er:pf.repAs s (C.wanted.getD s 0)=(f.rep.getD s 0==C.wanted.getD s 0):=by
  unfold PFr.repAs;rw[hf.rep];have:decide (s < f.rep.length)=true:=by rw[hf.pl]; simpa using hs
  rw[this,Bool.true_and]
 rw[e1,e2,ea,eb,hf.occ,er];simp only[bne,Bool.and_assoc]
end Go.Proofs.YtkbpocecbcaiiabGreatDoor
