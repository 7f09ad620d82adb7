import Derived.Test.YtkbpocecbcaiiabGreatDoorO48
namespace Go.Proofs.YtkbpocecbcaiiabGreatDoor
open Go.RowKit
theorem z0d {α:Type} (l:List α) (i j:Nat) (x d:α) (hi:i < l.length):(l.set i x).getD j d=if j=i then x else l.getD j d:=by
 simp only[List.getD_eq_getElem?_getD,List.getElem?_set];by_cases h:i=j
 ·subst h; simp[hi]
 ·rw[if_neg h,if_neg (by omega)]
theorem z0h {α:Type} (l:List α) (i j:Nat) (x d:α) (h:j≠i):(l.set i x).getD j d=l.getD j d:=by
 simp only[List.getD_eq_getElem?_getD,List.getElem?_set];rw[if_neg (by omega)]
theorem set_selfq {α:Type} (l:List α) (i:Nat) (d:α) (hi:i < l.length):l.set i (l.getD i d)=l:=by
 rw[List.getD_eq_getElem?_getD,List.getElem?_eq_getElem hi];exact List.set_getElem_self hi
theorem z13 (C:RBx) (r r':Nat) (x:RLn) (hr:r < C.lines.length):(C.put r x).line r'=if r'=r then x else C.line r':=z0d _ _ _ _ _ hr
theorem route_putq (B:PBx) (r r':Nat) (y:PRt) (hr:r < B.rts.length):(B.putR r y).route r'=if r'=r then y else B.route r':=z0d _ _ _ _ _ hr
theorem sw_putq (B:PBx) (s s':Nat) (y:PSw) (hs:s < B.sws.length):(B.putS s y).sw s'=if s'=s then y else B.sw s':=z0d _ _ _ _ _ hs
theorem put_selfq (C:RBx) (r:Nat) (hr:r < C.lines.length):C.put r (C.line r)=C:=by
 unfold RBx.put RBx.line;rw[set_selfq _ _ _ hr]
theorem Sim.put {B:PBx} {C:RBx} (h:Sim B C) (hi:Inv C) {r:Nat} (hr:r < C.L.rts.length) {y:PRt} {x:RLn} (hy:LR C.L r y x):Sim (B.putR r y) (C.put r x):=by
 refine⟨h.L,(by show (B.rts.set r y).length=_; rw[List.length_set]; exact h.rl),fun r' hr'=>?_,h.sl,h.sw,h.lt,h.sta,h.waits⟩;rw[z13 C r r' x (by rw[hi.ll]; exact hr),route_putq B r r' y (by rw[h.rl]; exact hr)];by_cases e:r'=r
 ·subst e; rw[if_pos rfl,if_pos rfl]; exact hy
 ·rw[if_neg e,if_neg e]; exact h.lr r' hr'
theorem Inv.put {C:RBx} (h:Inv C) {r:Nat} (hr:r < C.L.rts.length) {x:RLn} (hx:LI C.L r x) (ht:x.ph≠46->(C.line r).ph≠46/\x.train=(C.line r).train):Inv (C.put r x):=by
 have hl:=fun r'=>z13 C r r' x (by rw[h.ll]; exact hr);refine⟨h.lay,(by show (C.lines.set r x).length=_; rw[List.length_set]; exact h.ll),h.wl,h.fl,h.dl,h.st,h.sj,h.late,fun r' hr'=>?_,fun r' hr'=>?_,fun a b ha hb=>?_,h.wq,h.wn,h.wt⟩
 ·rw[hl]
  by_cases e:r'=r
  ·subst e; rw[if_pos rfl]; exact hx
  ·rw[if_neg e]; exact h.li r' hr'
 ·rw[hl]
  by_cases e:r'=r
  ·subst e; rw[if_pos rfl]
   intro hp;obtain⟨a,b⟩:=ht hp;rw[b];exact h.tr r' hr' a
  ·rw[if_neg e]; exact h.tr r' hr'
 ·rw[hl,hl]
  by_cases ea:a=r <;> by_cases eb:b=r
  ·intros; omega
  ·subst ea
   rw[if_pos rfl,if_neg eb];intro h1 h2 h3;obtain⟨p,q⟩:=ht h1;exact h.one a b ha hb p h2 (q ▸ h3)
  ·subst eb
   rw[if_neg ea,if_pos rfl];intro h1 h2 h3;obtain⟨p,q⟩:=ht h2;exact h.one a b ha hb h1 p (q ▸ h3)
  ·rw[if_neg ea,if_neg eb]; exact h.one a b ha hb
theorem entM_ov (m:List Bool) (n:Nat) (h:m.length=n):entM m m.length=z1x n:=by
 unfold entM z1x;apply List.ext_getElem
 ·simp[h]
 ·intro i h1 h2
  have h1':i < m.length:=by simpa using h1
  rw[List.getElem_map,List.getElem_range,if_pos h1',List.getElem_set];by_cases e:i=0
  ·subst e; simp
  ·have:¬0=i:=by omega
   rw[if_neg this,List.getElem_replicate]
   simpa using e
theorem markN_get (m:List Bool) (p:List Nat) (oc:List Bool) (i:Nat) (hi:i < m.length):∀k,(markN m p oc k).getD i false=(m.getD i false||(decide (i < k)&&oc.getD (p.getD i 0) false))
 | 0=>by simp[markN]
 | k+1=>by
  unfold markN;have ih:=markN_get m p oc i hi k;split
  ·rename_i ho
   by_cases e:i=k
   ·subst e
    rw[z0d _ _ _ _ _ (by rw[markN_len]; exact hi),if_pos rfl,ho];simp
   ·rw[z0h _ _ _ _ _ e,ih]
    have:(i < k+1)=(i < k):=by apply propext; omega
    simp only[this]
  ·rename_i ho
   rw[ih];by_cases e:i=k
   ·subst e
    simp only[Bool.not_eq_true] at ho;rw[ho]; simp
   ·have:(i < k+1)=(i < k):=by apply propext; omega
    simp only[this]
theorem secAt_nat {y:PRt} (i:Nat) (h:i < y.rt.path.length):y.secAt (i:Int)=(secs y.rt.path).getD i 0:=by
 unfold PRt.secAt;rw[if_pos ⟨by omega,by omega⟩,secs_getD,Int.toNat_natCast]
theorem secAt_foot {y:PRt}:y.secAt ((0:Nat) - 1:Int)=y.rt.foot:=by
 unfold PRt.secAt;rw[if_neg (by omega)]
theorem mark_eq {L:Lay} {r:Nat} {y:PRt} {x:RLn} {pf:PFr} {f:Fr} (h:LR L r y x) (hli:LI L r x) (hf:pf.occ=f.occ) (hp:x.ph=116) :
  (y.mark pf).marked=markN x.marks (secs (L.rt r).path) f.occ (secs (L.rt r).path).length:=by
 have hm:=h.mks hp;have hl:=(hli.ps hp).1;show y.mkN pf y.marked.length=_;unfold PRt.mkN;apply List.ext_getElem
 ·rw[markN_len,List.length_map,List.length_range,hm]
 ·intro i h1 h2
  have h1':i < y.marked.length:=by simpa using h1
  rw[List.getElem_map,List.getElem_range,if_pos h1'];have e:=markN_get x.marks (secs (L.rt r).path) f.occ i (by rw[<-hm]; exact h1') (secs (L.rt r).path).length;rw[List.getD_eq_getElem?_getD,List.getElem?_eq_getElem h2] at e;have e':(markN x.marks (secs (L.rt r).path) f.occ (secs (L.rt r).path).length)[i]=_:=e;rw[e'];have hil:i < (secs (L.rt r).path).length:=by rw[z0o,<-hl,<-hm]; exact h1'
  unfold PRt.mkB;rw[hm,hf,secAt_nat i (by rw[h.rt,<-z0o]; exact hil),h.rt,decide_eq_true hil,Bool.true_and]
theorem step_W {B:PBx} {C:RBx} {pf:PFr} {f:Fr} (h:Sim B C) (hi:Inv C) (hf:FrS pf f C.L) {k:Nat} (hk:k < C.L.rts.length) (hp:(C.line k).ph=119) :
  Sim (B.step1 pf k) (C.step f k)/\Inv (C.step f k):=by
 have hl:=h.lr k hk;have hli:=hi.li k hk;have hne:(C.line k).ph≠46:=by omega
 have hph:(B.route k).ph=119:=hl.ph.trans hp;have hg:(B.route k).gave pf=false:=by unfold PRt.gave; rw[if_neg (by omega)]
 have e1:B.step1 pf k=B.putR k ((B.route k).stepW pf (C.broken k)):=by
  unfold PBx.step1;rw[hg];simp only[Bool.false_eq_true,if_false];unfold PRt.step;rw[if_pos hph,hl.rt,h.broken hi hk]
 have e2:C.step f k=if C.broken k then C.put k ((C.line k).withP 102)
  else if C.right f k&&!C.busy f k then C.put k ⟨103,(C.line k).train,true,(C.line k).marks,(C.line k).gone,(C.line k).count⟩ else C:=by
  unfold RBx.step;rw[if_pos hp]
 rw[e1,e2];unfold PRt.stepW;rw[ready_eq hf hi hk hl.rt];have g0:=hli.g0 (by omega);by_cases hb:C.broken k=true
 ·rw[if_pos hb,if_pos hb]
  exact⟨h.put hi hk ⟨hl.rt,rfl,fun _=>hl.tr hne,fun _=>hl.be hne,fun _=>hl.fr hne,fun _=>hl.ml hne,fun hh=>by simp[RLn.withP] at hh,fun hh=>by simp[RLn.withP] at hh,hl.cb,hl.fb,hl.mb⟩,
   hi.put hk ⟨fun _=>g0,fun hh=>by simp[RLn.withP] at hh,hli.ct⟩ (fun _=>⟨hne,rfl⟩)⟩
 ·rw[if_neg hb,if_neg hb]
  by_cases hr:(C.right f k&&!C.busy f k)=true
  ·rw[if_pos hr,if_pos hr]
   exact⟨h.put hi hk ⟨hl.rt,rfl,fun _=>hl.tr hne,fun _=>rfl,fun _=>hl.fr hne,fun _=>hl.ml hne,fun hh=>by simp at hh,fun hh=>by simp at hh,hl.cb,hl.fb,hl.mb⟩,
    hi.put hk ⟨fun _=>g0,fun hh=>by simp at hh,hli.ct⟩ (fun _=>⟨hne,rfl⟩)⟩
  ·rw[if_neg hr,if_neg hr]
   have e:=put_selfq C k (by rw[hi.ll]; exact hk);exact⟨e ▸ h.put hi hk hl,hi⟩
theorem enter_ok {L:Lay} {k:Nat} {y:PRt} {x:RLn} (hl:LR L k y x) (hli:LI L k x) (hne:x.ph≠46) (h116:x.ph≠116) (ho:RtOK L (L.rt k)) :
  LR L k y.enter { x with marks:=z1x (L.rt k).path.length,ph:=116 }/\LI L k { x with marks:=z1x (L.rt k).path.length,ph:=116 }:=by
 have em:=entM_ov y.marked _ (hl.ml hne);have el:(z1x (L.rt k).path.length).length=(L.rt k).path.length:=by simp[z1x]
 have hpos:0 < (L.rt k).path.length:=List.length_pos_iff.2 ho.ne;have hp6:=ho.pl;refine⟨⟨hl.rt,rfl,fun _=>hl.tr hne,fun _=>hl.be hne,fun _=>hl.fr hne,fun _=>?_,fun _=>em,fun hh=>by simp at hh,hl.cb,hl.fb,?_⟩,⟨fun hh=>by simp at hh,fun _=>⟨el,?_⟩,hli.ct⟩⟩
 ·show (entM y.marked y.marked.length).length=_
  rw[em,el]
 ·show (entM y.marked y.marked.length).length<=_
  rw[em,el]; omega
 ·show x.gone < _
  rw[hli.g0 h116]; exact hpos
theorem in_eq {C:RBx} {pf:PFr} {f:Fr} {y:PRt} (hf:pf.occ=f.occ) {k:Nat} (hy:y.rt=C.L.rt k) (hne:(C.L.rt k).path≠[]):pf.occ.getD (y.secAt 0) false=C.inB f k:=by
 have hpos:0 < (C.L.rt k).path.length:=List.length_pos_iff.2 hne;have:=secAt_nat (y:=y) 0 (by rw[hy]; exact hpos);unfold RBx.inB RBx.pth;rw[hf,show ((0:Int))=((0:Nat):Int) from rfl,this,hy]
theorem step_G {B:PBx} {C:RBx} {pf:PFr} {f:Fr} (h:Sim B C) (hi:Inv C) (hf:FrS pf f C.L) {k:Nat} (hk:k < C.L.rts.length) (hp:(C.line k).ph=103) :
  Sim (B.step1 pf k) (C.step f k)/\Inv (C.step f k):=by
 have hl:=h.lr k hk;have hli:=hi.li k hk;have ho:=hi.rt hk;have hne:(C.line k).ph≠46:=by omega
 have hph:(B.route k).ph=103:=hl.ph.trans hp;have hg:(B.route k).gave pf=false:=by unfold PRt.gave; rw[if_neg (by omega)]
 have e1:B.step1 pf k=B.putR k ((B.route k).stepG pf (C.broken k)):=by
  unfold PBx.step1;rw[hg];simp only[Bool.false_eq_true,if_false];unfold PRt.step;rw[if_neg (by omega),if_pos hph,hl.rt,h.broken hi hk]
 have e2:C.step f k=if C.inB f k then C.overtaken k
  else if C.broken k then C.put k ((C.line k).withP 102)
  else if !C.right f k||C.busy f k then C.put k ((C.line k).withP 119) else C:=by
  unfold RBx.step;rw[if_neg (by omega),if_pos hp]
 rw[e1,e2];unfold PRt.stepG;rw[ready_eq hf hi hk hl.rt,in_eq hf.occ hl.rt ho.ne];have g0:=hli.g0 (by omega);by_cases hn:C.inB f k=true
 ·rw[if_pos hn,if_pos hn]
  obtain⟨a,b⟩:=enter_ok hl hli hne (by omega) ho;exact⟨h.put hi hk a,hi.put hk b (fun _=>⟨hne,rfl⟩)⟩
 rw[if_neg hn,if_neg hn];by_cases hb:C.broken k=true
 ·rw[if_pos hb,if_pos hb]
  exact⟨h.put hi hk ⟨hl.rt,rfl,fun _=>hl.tr hne,fun _=>hl.be hne,fun _=>hl.fr hne,fun _=>hl.ml hne,fun hh=>by simp[RLn.withP] at hh,fun hh=>by simp[RLn.withP] at hh,hl.cb,hl.fb,hl.mb⟩,
   hi.put hk ⟨fun _=>g0,fun hh=>by simp[RLn.withP] at hh,hli.ct⟩ (fun _=>⟨hne,rfl⟩)⟩
 ·rw[if_neg hb,if_neg hb]
  by_cases hr:(C.right f k&&!C.busy f k)=true
  ·rw[if_pos hr,if_neg (by simp at hr; simp[hr])]
   have e:=put_selfq C k (by rw[hi.ll]; exact hk);exact⟨e ▸ h.put hi hk hl,hi⟩
  ·have hr':(!C.right f k||C.busy f k)=true:=by revert hr; cases C.right f k <;> cases C.busy f k <;> decide
   rw[if_neg hr,if_pos hr'];exact⟨h.put hi hk ⟨hl.rt,rfl,fun _=>hl.tr hne,fun _=>hl.be hne,fun _=>hl.fr hne,fun _=>hl.ml hne,fun hh=>by simp[RLn.withP] at hh,fun hh=>by simp[RLn.withP] at hh,hl.cb,hl.fb,hl.mb⟩,
    hi.put hk ⟨fun _=>g0,fun hh=>by simp[RLn.withP] at hh,hli.ct⟩ (fun _=>⟨hne,rfl⟩)⟩
theorem step_P {B:PBx} {C:RBx} {pf:PFr} {f:Fr} (h:Sim B C) (hi:Inv C) (hf:FrS pf f C.L) {k:Nat} (hk:k < C.L.rts.length) (hp:(C.line k).ph=116) :
  Sim (B.step1 pf k) (C.step f k)/\Inv (C.step f k):=by
 have hl:=h.lr k hk;have hli:=hi.li k hk;have ho:=hi.rt hk;have hne:(C.line k).ph≠46:=by omega
 have hph:(B.route k).ph=116:=hl.ph.trans hp;have hg:(B.route k).gave pf=false:=by unfold PRt.gave; rw[if_neg (by omega)]
 have e1:B.step1 pf k=B.putR k ((B.route k).stepP pf):=by
  unfold PBx.step1;rw[hg];simp only[Bool.false_eq_true,if_false];unfold PRt.step;rw[if_neg (by omega),if_neg (by omega),if_pos hph]
 have e2:C.step f k=C.passed f k:=by
  unfold RBx.step;rw[if_neg (by omega),if_neg (by omega),if_pos hp]
 have hmk:=mark_eq hl hli hf.occ hp;obtain⟨hml,hgl⟩:=hli.ps hp;have hmk':((B.route k).mark pf).marked=(C.mkd f k).marks:=hmk;have hlen:(C.mkd f k).marks.length=(C.L.rt k).path.length:=by
  show (markN _ _ _ _).length=_;rw[markN_len]; exact hml
 have hp6:=ho.pl;have hfr:=hl.fr hne;have hLR:∀n,LR C.L k { (B.route k).mark pf with freed:=n } { C.mkd f k with gone:=n }\/1000 < n:=by
  intro n;by_cases hn:1000 < n
  ·exact Or.inr hn
  refine Or.inl ⟨hl.rt,hl.ph,fun _=>hl.tr hne,fun _=>hl.be hne,fun _=>rfl,fun _=>?_,fun _=>hmk',fun hh=>?_,hl.cb,by show n<=1000; omega,?_⟩
  ·show ((B.route k).mark pf).marked.length=_
   rw[hmk',hlen]
  ·exfalso
   have hh':(C.line k).ph=100:=hh;omega
  ·show ((B.route k).mark pf).marked.length<=_
   rw[hmk',hlen]; omega
 have hLI:∀n,n < (C.L.rt k).path.length->LI C.L k { C.mkd f k with gone:=n }:=by
  intro n hn;exact⟨fun hh=>absurd hp hh,fun _=>⟨hlen,hn⟩,hli.ct⟩
 have e0:({ (B.route k).mark pf with freed:=(B.route k).freed }:PRt)=(B.route k).mark pf:=rfl;have e0':({ C.mkd f k with gone:=(C.line k).gone }:RLn)=C.mkd f k:=rfl;have stay:Sim (B.putR k ((B.route k).mark pf)) (C.put k (C.mkd f k))/\Inv (C.put k (C.mkd f k)):=by
  have a:=(hLR (C.line k).gone).resolve_right (by omega);have b:=hLI (C.line k).gone hgl;rw[<-hfr,e0,hfr,e0'] at a;rw[e0'] at b;exact⟨h.put hi hk a,hi.put hk b (fun _=>⟨hne,rfl⟩)⟩
 rw[e1,e2];have hpl:(C.pth k).length=(C.L.rt k).path.length:=z0o _;have hrt:(B.route k).rt=C.L.rt k:=hl.rt;have erel:((B.route k).mark pf).relB pf=(if (C.mkd f k).marks.getD (C.line k).gone false then (if (C.line k).gone+1=(C.L.rt k).path.length then !f.occ.getD ((B.route k).secAt (((C.line k).gone:Int) - 1)) false else !f.occ.getD ((C.pth k).getD (C.line k).gone 0) false&&(C.mkd f k).marks.getD ((C.line k).gone+1) false) else false):=by
  unfold PRt.relB;rw[hmk'];show (if (C.mkd f k).marks.getD (B.route k).freed false then (if (B.route k).freed+1=(B.route k).rt.path.length then !pf.occ.getD ((B.route k).secAt (((B.route k).freed:Int) - 1)) false else !pf.occ.getD ((B.route k).secAt (B.route k).freed) false&&(C.mkd f k).marks.getD ((B.route k).freed+1) false) else false)=_;rw[hfr,hrt,hf.occ,secAt_nat _ (by rw[hrt]; exact hgl),hrt];rfl
 have eP:(B.route k).stepP pf=if ((B.route k).mark pf).relB pf then (if (C.line k).gone+1=(C.L.rt k).path.length then { (B.route k).mark pf with freed:=(C.line k).gone+1,ph:=46 } else { (B.route k).mark pf with freed:=(C.line k).gone+1 }) else (B.route k).mark pf:=by
  unfold PRt.stepP;rw[hfr,hrt]
 by_cases c1:(C.mkd f k).marks.getD (C.line k).gone false=false
 ·have a:C.passed f k=C.put k (C.mkd f k):=by unfold RBx.passed; rw[if_pos c1]
  rw[a,eP,erel,c1];simp only[Bool.false_eq_true,if_false];exact stay
 have c1':(C.mkd f k).marks.getD (C.line k).gone false=true:=by simpa using c1
 by_cases c2:(C.line k).gone+1=(C.L.rt k).path.length
 ·have ef:f.occ.getD ((B.route k).secAt (((C.line k).gone:Int) - 1)) false=f.occ.getD (if 0 < (C.line k).gone then (C.pth k).getD ((C.line k).gone - 1) 0 else (C.L.rt k).foot) false:=by
   by_cases c3:0 < (C.line k).gone
   ·rw[if_pos c3]
    have:((C.line k).gone:Int) - 1=(((C.line k).gone - 1:Nat):Int):=by omega
    rw[this,secAt_nat _ (by rw[hrt]; omega),hrt];rfl
   ·rw[if_neg c3]
    have:(C.line k).gone=0:=by omega
    rw[this,secAt_foot,hrt]
  have er2:((B.route k).mark pf).relB pf=!f.occ.getD (if 0 < (C.line k).gone then (C.pth k).getD ((C.line k).gone - 1) 0 else (C.L.rt k).foot) false:=by
   rw[erel,if_pos c1',if_pos c2,ef]
  have eC:C.passed f k=if f.occ.getD (if 0 < (C.line k).gone then (C.pth k).getD ((C.line k).gone - 1) 0 else (C.L.rt k).foot) false=true then C.put k (C.mkd f k) else C.put k RLn0:=by
   unfold RBx.passed;rw[if_neg c1,if_neg (by rw[hpl]; omega)]
  rw[eP,eC,er2,if_pos c2];generalize f.occ.getD (if 0 < (C.line k).gone then (C.pth k).getD ((C.line k).gone - 1) 0 else (C.L.rt k).foot) false=q;cases q with
  | true=>
   simp only[Bool.not_true,Bool.false_eq_true,if_false,if_true];exact stay
  | false=>
   simp only[Bool.not_false,Bool.false_eq_true,if_false,if_true];refine⟨h.put hi hk ⟨hl.rt,rfl,fun hh=>absurd rfl hh,fun hh=>absurd rfl hh,fun hh=>absurd rfl hh,fun hh=>absurd rfl hh,fun hh=>by simp[RLn0] at hh,fun hh=>by simp[RLn0] at hh,hl.cb,?_,?_⟩,hi.put hk ⟨fun _=>rfl,fun hh=>by simp[RLn0] at hh,Nat.zero_le _⟩ (fun hh=>absurd rfl hh)⟩
   ·show (C.line k).gone+1<=1000
    omega
   ·show ((B.route k).mark pf).marked.length<=1000
    rw[hmk',hlen]; omega
 ·have er2:((B.route k).mark pf).relB pf=(!f.occ.getD ((C.pth k).getD (C.line k).gone 0) false&&(C.mkd f k).marks.getD ((C.line k).gone+1) false):=by
   rw[erel,if_pos c1',if_neg c2]
  have eC:C.passed f k=if f.occ.getD ((C.pth k).getD (C.line k).gone 0) false=false/\(C.mkd f k).marks.getD ((C.line k).gone+1) false=true then C.put k { C.mkd f k with gone:=(C.line k).gone+1 } else C.put k (C.mkd f k):=by
   unfold RBx.passed;rw[if_neg c1,if_pos (by rw[hpl]; omega)]
  rw[eP,eC,er2,if_neg c2];have a:=(hLR ((C.line k).gone+1)).resolve_right (by omega);have b:=hLI ((C.line k).gone+1) (by omega);generalize f.occ.getD ((C.pth k).getD (C.line k).gone 0) false=q1;generalize (C.mkd f k).marks.getD ((C.line k).gone+1) false=q2;cases q1 <;> cases q2
  ·simp only[Bool.not_false,Bool.and_false,Bool.false_eq_true,and_false,if_false]
   exact stay
  ·simp only[Bool.not_false,Bool.and_true,and_self,if_true]
   exact⟨h.put hi hk a,hi.put hk b (fun _=>⟨hne,rfl⟩)⟩
  ·simp only[Bool.not_true,Bool.false_and,Bool.true_eq_false,Bool.false_eq_true,false_and,if_false]
   exact stay
  ·simp only[Bool.not_true,Bool.false_and,Bool.true_eq_false,Bool.false_eq_true,false_and,if_false]
   exact stay
theorem step_D {B:PBx} {C:RBx} {pf:PFr} {f:Fr} (h:Sim B C) (hi:Inv C) (hf:FrS pf f C.L) {k:Nat} (hk:k < C.L.rts.length) (hp:(C.line k).ph=100) :
  Sim (B.step1 pf k) (C.step f k)/\Inv (C.step f k):=by
 have hl:=h.lr k hk;have hli:=hi.li k hk;have ho:=hi.rt hk;have hne:(C.line k).ph≠46:=by omega
 have hph:(B.route k).ph=100:=hl.ph.trans hp;have g0:=hli.g0 (by omega);have hct:=hl.ct hp;have hlen:k < C.lines.length:=by rw[hi.ll]; exact hk
 have eg:(B.route k).gave pf=if C.inB f k then false else if 0 < (C.line k).count then false else !C.busy f k:=by
  unfold PRt.gave;rw[if_pos hph];unfold PRt.gaveD;rw[in_eq hf.occ hl.rt ho.ne,hct,hl.rt,busy_eq hf]
 have es:(B.route k).step pf (B.anyF (swsOf (B.route k).rt))=if C.inB f k then (B.route k).enter else if 0 < (C.line k).count then { B.route k with count:=(C.line k).count - 1 } else if !C.busy f k then { B.route k with ph:=46 } else B.route k:=by
  unfold PRt.step;rw[if_neg (by omega),if_neg (by omega),if_neg (by omega),if_pos hph];unfold PRt.stepD;rw[in_eq hf.occ hl.rt ho.ne,hct,hl.rt,busy_eq hf,<-hl.rt,<-hct]
 have e2:C.step f k=if C.inB f k then C.overtaken k
  else if 0 < (C.line k).count then C.put k ⟨(C.line k).ph,(C.line k).train,(C.line k).been,(C.line k).marks,(C.line k).gone,(C.line k).count - 1⟩
  else if !C.busy f k then { C.put k RLn0 with sta:=C.sta.set (C.line k).train (C.sta.getD (C.line k).train 0 - 1) } else C:=by
  unfold RBx.step;rw[if_neg (by omega),if_neg (by omega),if_neg (by omega),if_pos hp]
 rw[e2];unfold PBx.step1;rw[eg,es];by_cases hn:C.inB f k=true
 ·rw[if_pos hn,if_pos hn,if_pos hn]
  simp only[Bool.false_eq_true,if_false];obtain⟨a,b⟩:=enter_ok hl hli hne (by omega) ho;exact⟨h.put hi hk a,hi.put hk b (fun _=>⟨hne,rfl⟩)⟩
 rw[if_neg hn,if_neg hn,if_neg hn];by_cases hc:0 < (C.line k).count
 ·rw[if_pos hc,if_pos hc,if_pos hc]
  simp only[Bool.false_eq_true,if_false];have:=hli.ct;exact⟨h.put hi hk ⟨hl.rt,hl.ph,fun _=>hl.tr hne,fun _=>hl.be hne,fun _=>hl.fr hne,fun _=>hl.ml hne,fun hh=>absurd (hp.symm.trans hh) (by decide),fun _=>rfl,(by show (C.line k).count - 1<=1000; omega),hl.fb,hl.mb⟩,
   hi.put hk ⟨fun _=>g0,fun hh=>absurd (hp.symm.trans hh) (by decide),(by show (C.line k).count - 1<=1000; omega)⟩ (fun _=>⟨hne,rfl⟩)⟩
 rw[if_neg hc,if_neg hc,if_neg hc];cases hb:C.busy f k with
 | true=>
  simp only[Bool.not_true,Bool.false_eq_true,if_false];have e:=put_selfq C k hlen;exact⟨e ▸ h.put hi hk hl,hi⟩
 | false=>
  simp only[Bool.not_false,if_true];have hs:=h.put hi hk (y:={ B.route k with ph:=46 }) (x:=RLn0) ⟨hl.rt,rfl,fun hh=>absurd rfl hh,fun hh=>absurd rfl hh,fun hh=>absurd rfl hh,fun hh=>absurd rfl hh,fun hh=>by simp[RLn0] at hh,fun hh=>by simp[RLn0] at hh,hl.cb,hl.fb,hl.mb⟩;have hj:=hi.put hk (x:=RLn0) ⟨fun _=>rfl,fun hh=>by simp[RLn0] at hh,Nat.zero_le _⟩ (fun hh=>absurd rfl hh);obtain⟨ht1,ht2⟩:=hi.tr k hk hne;have hget:∀t,(C.sta.set (C.line k).train (C.sta.getD (C.line k).train 0 - 1)).getD t 0=if t=(C.line k).train then C.sta.getD t 0 - 1 else C.sta.getD t 0:=by
   intro t;rw[z0d _ _ _ _ _ (by rw[hi.st]; exact ht1)];by_cases e:t=(C.line k).train
   ·rw[if_pos e,if_pos e,e]
   ·rw[if_neg e,if_neg e]
  have hle:∀t,(C.sta.set (C.line k).train (C.sta.getD (C.line k).train 0 - 1)).getD t 0<=C.sta.getD t 0:=by
   intro t;rw[hget];split <;> omega
  refine⟨⟨hs.L,hs.rl,hs.lr,hs.sl,hs.sw,hs.lt,?_,hs.waits⟩,⟨hj.lay,hj.ll,hj.wl,hj.fl,hj.dl,?_,?_,hj.late,hj.li,?_,hj.one,hj.wq,hj.wn,?_⟩⟩
  ·show B.sta.set (B.route k).train (B.sta.getD (B.route k).train 0 - 1)=C.sta.set (C.line k).train (C.sta.getD (C.line k).train 0 - 1)
   rw[h.sta,hl.tr hne]
  ·show (C.sta.set _ _).length=_
   rw[List.length_set]; exact hi.st
  ·intro t
   exact Nat.le_trans (hle t) (hi.sj t)
  ·intro r hr hrp
   have hrp':((C.put k RLn0).line r).ph≠46:=hrp;have hrk:r≠k:=by
    intro e;subst e;rw[z13 C r r RLn0 hlen,if_pos rfl] at hrp';exact hrp' rfl
   have el:(C.put k RLn0).line r=C.line r:=by rw[z13 C k r RLn0 hlen,if_neg hrk]
   show ((C.put k RLn0).line r).train < _/\1<=(C.sta.set (C.line k).train (C.sta.getD (C.line k).train 0 - 1)).getD ((C.put k RLn0).line r).train 0;rw[el] at hrp' ⊢;obtain⟨a,b⟩:=hi.tr r hr hrp';refine⟨a,?_⟩;rw[hget,if_neg (fun e=>hrk (hi.one r k hr hk hrp' hne e))];exact b
  ·intro t ht
   obtain⟨a,b⟩:=hi.wt t ht;exact⟨a,Nat.lt_of_le_of_lt (hle t) b⟩
theorem Sim.step {B:PBx} {C:RBx} {pf:PFr} {f:Fr} (h:Sim B C) (hi:Inv C) (hf:FrS pf f C.L) {k:Nat} (hk:k < C.L.rts.length) :
  Sim (B.step1 pf k) (C.step f k)/\Inv (C.step f k):=by
 by_cases h1:(C.line k).ph=119
 ·exact step_W h hi hf hk h1
 by_cases h2:(C.line k).ph=103
 ·exact step_G h hi hf hk h2
 by_cases h3:(C.line k).ph=116
 ·exact step_P h hi hf hk h3
 by_cases h4:(C.line k).ph=100
 ·exact step_D h hi hf hk h4
 have hl:=h.lr k hk;have e2:C.step f k=C:=by
  unfold RBx.step;rw[if_neg h1,if_neg h2,if_neg h3,if_neg h4]
 have e1:B.step1 pf k=B.putR k (B.route k):=by
  have hg:(B.route k).gave pf=false:=by unfold PRt.gave; rw[if_neg (by rw[hl.ph]; exact h4)]
  unfold PBx.step1;rw[hg];simp only[Bool.false_eq_true,if_false];unfold PRt.step;rw[if_neg (by rw[hl.ph]; exact h1),if_neg (by rw[hl.ph]; exact h2),if_neg (by rw[hl.ph]; exact h3),if_neg (by rw[hl.ph]; exact h4)]
 rw[e1,e2];have e:=put_selfq C k (by rw[hi.ll]; exact hk);exact⟨e ▸ h.put hi hk hl,hi⟩
theorem step_L (C:RBx) (f:Fr) (k:Nat):(C.step f k).L=C.L:=by
 unfold RBx.step RBx.passed RBx.overtaken RBx.put
 repeat' split
 all_goals rfl
theorem Sim.stepN {B:PBx} {C:RBx} {pf:PFr} {f:Fr} (h:Sim B C) (hi:Inv C) (hf:FrS pf f C.L):∀k,k<=C.L.rts.length →
  Sim (B.stepN pf k) (C.stepN f k)/\Inv (C.stepN f k)/\(C.stepN f k).L=C.L
 | 0,_=>⟨h,hi,rfl⟩
 | k+1,hk=>by
  obtain⟨a,b,c⟩:=Sim.stepN h hi hf k (by omega);have:=a.step b (f:=f) (pf:=pf) (by rw[c]; exact hf) (k:=k) (by rw[c]; omega);exact⟨this.1,this.2,(step_L _ _ _).trans c⟩
theorem Sim.watch1 {B:PBx} {C:RBx} {pf:PFr} {f:Fr} (h:Sim B C) (hi:Inv C) (hf:FrS pf f C.L) {k:Nat} (hk:k < C.L.sw.length) :
  Sim (B.late1 pf k) (C.watch1 f k)/\Inv (C.watch1 f k):=by
 have hT:=hi.lay.T;have hdl:k < C.late.length:=by rw[hi.dl]; exact hk
 have hfl:k < C.failed.length:=by rw[hi.fl]; exact hk
 have hsl:k < B.sws.length:=by rw[h.sl]; exact hk
 -- setting a late alone
 have inv1:∀n,n < C.L.T->Inv { C with late:=C.late.set k n }:=by
  intro n hn;refine⟨hi.lay,hi.ll,hi.wl,hi.fl,(by show (C.late.set k n).length=_; rw[List.length_set]; exact hi.dl),hi.st,hi.sj,fun s=>?_,hi.li,hi.tr,hi.one,hi.wq,hi.wn,hi.wt⟩;show (C.late.set k n).getD s 0 < C.L.T;rw[z0d _ _ _ _ _ hdl];split
  ·exact hn
  ·exact hi.late s
 have inv2:Inv { C with late:=(C.late.set k (C.lateF f k)).set k 0,failed:=C.failed.set k true }:=by
  refine⟨hi.lay,hi.ll,hi.wl,(by show (C.failed.set k true).length=_; rw[List.length_set]; exact hi.fl),(by show ((C.late.set k _).set k 0).length=_; rw[List.length_set,List.length_set]; exact hi.dl),hi.st,hi.sj,fun s=>?_,hi.li,hi.tr,hi.one,hi.wq,hi.wn,hi.wt⟩;show ((C.late.set k _).set k 0).getD s 0 < C.L.T;rw[z0d _ _ _ _ _ (by rw[List.length_set]; exact hdl),z0d _ _ _ _ _ hdl];by_cases e:s=k
  ·rw[if_pos e]; omega
  ·rw[if_neg e,if_neg e]; exact hi.late s
 unfold PBx.late1 RBx.watch1;by_cases hsw:C.L.sw.getD k false=true
 ·rw[h.L,if_pos hsw]
  obtain⟨w1,w2,w3⟩:=h.sw k hk hsw;have elate:B.lateB pf k=(C.L.sw.getD k false&&C.heldB k&&!C.failed.getD k false&&f.rep.getD k 0 != C.wanted.getD k 0):=by
   unfold PBx.lateB PFr.repAs;rw[w1,w2,h.heldB hi,hf.rep,hsw];have:decide (k < f.rep.length)=true:=by rw[hf.pl]; simpa using hk
   rw[this,Bool.true_and,Bool.true_and];simp only[bne];generalize (f.rep.getD k 0==C.wanted.getD k 0)=q1;generalize C.heldB k=q2;generalize C.failed.getD k false=q3
   revert q1 q2 q3
   decide
  have simS:∀(x:PSw) (C':RBx),C'.L=C.L->C'.lines=C.lines->C'.sta=C.sta->C'.waits=C.waits->x.late<=1000->x.wanted=C'.wanted.getD k 0->x.failed=C'.failed.getD k false->x.late=C'.late.getD k 0 →
    (∀s,s≠k->C'.wanted.getD s 0=C.wanted.getD s 0/\C'.failed.getD s false=C.failed.getD s false/\C'.late.getD s 0=C.late.getD s 0)->Sim (B.putS k x) C':=by
   intro x C' c1 c2 c3 c4 c5 c6 c7 c8 c9;refine⟨h.L.trans c1.symm,h.rl.trans (by rw[c1]),?_,(by show (B.sws.set k x).length=_; rw[List.length_set,c1]; exact h.sl),?_,?_,h.sta.trans c3.symm,h.waits.trans c4.symm⟩
   ·intro r hr
    rw[c1] at hr ⊢;have:C'.line r=C.line r:=by unfold RBx.line; rw[c2]
    rw[this];exact h.lr r hr
   ·intro s hs hsw'
    rw[sw_putq B k s x hsl];by_cases e:s=k
    ·subst e
     rw[if_pos rfl];exact⟨c6,c7,c8⟩
    ·rw[if_neg e]
     obtain⟨d1,d2,d3⟩:=c9 s e;rw[d1,d2,d3];rw[c1] at hs hsw';exact h.sw s hs hsw'
   ·intro s
    rw[sw_putq B k s x hsl];split
    ·exact c5
    ·exact h.lt s
  unfold PSw.tick;have hlk:=hi.late k;have elF:C.lateF f k=if B.lateB pf k=true then C.late.getD k 0+1 else 0:=by
   unfold RBx.lateF;rw[elate]
  by_cases hb:B.lateB pf k=true
  ·rw[if_pos hb] at elF ⊢
   rw[w3];by_cases hT2:C.L.T<=C.late.getD k 0+1
   ·rw[if_pos hT2,if_pos (by omega)]
    refine⟨simS _ _ rfl rfl rfl rfl (Nat.zero_le _) w1 ?_ ?_ ?_,inv2⟩
    ·show true=(C.failed.set k true).getD k false
     rw[z0d _ _ _ _ _ hfl,if_pos rfl]
    ·show 0=((C.late.set k _).set k 0).getD k 0
     rw[z0d _ _ _ _ _ (by rw[List.length_set]; exact hdl),if_pos rfl]
    ·intro s e
     refine⟨rfl,?_,?_⟩
     ·show (C.failed.set k true).getD s false=_
      rw[z0h _ _ _ _ _ e]
     ·show ((C.late.set k _).set k 0).getD s 0=_
      rw[z0h _ _ _ _ _ e,z0h _ _ _ _ _ e]
   ·rw[if_neg hT2,if_neg (by omega)]
    refine⟨simS _ _ rfl rfl rfl rfl (by show C.late.getD k 0+1<=1000; omega) w1 w2 ?_ ?_,inv1 _ (by omega)⟩
    ·show C.late.getD k 0+1=(C.late.set k _).getD k 0
     rw[z0d _ _ _ _ _ hdl,if_pos rfl,elF]
    ·intro s e
     refine⟨rfl,rfl,?_⟩;show (C.late.set k _).getD s 0=_;rw[z0h _ _ _ _ _ e]
  ·rw[if_neg hb] at elF
   simp only[hb,Bool.false_eq_true,if_false];rw[if_neg (by omega)];refine⟨simS _ _ rfl rfl rfl rfl (Nat.zero_le _) w1 w2 ?_ ?_,inv1 _ (by omega)⟩
   ·show 0=(C.late.set k _).getD k 0
    rw[z0d _ _ _ _ _ hdl,if_pos rfl,elF]
   ·intro s e
    refine⟨rfl,rfl,?_⟩;show (C.late.set k _).getD s 0=_;rw[z0h _ _ _ _ _ e]
 ·have elF:C.lateF f k=0:=by
   unfold RBx.lateF;have:C.L.sw.getD k false=false:=by simpa using hsw
   rw[this]; rfl
  rw[h.L,if_neg hsw,if_neg (by omega)];refine⟨⟨h.L,h.rl,h.lr,h.sl,fun s hs hs2=>?_,h.lt,h.sta,h.waits⟩,inv1 _ (by omega)⟩;have e:s≠k:=by intro e; subst e; exact hsw hs2
  show _/\_/\(B.sw s).late=(C.late.set k _).getD s 0;rw[z0h _ _ _ _ _ e];exact h.sw s hs hs2
theorem watch1_L (C:RBx) (f:Fr) (k:Nat):(C.watch1 f k).L=C.L:=by
 unfold RBx.watch1;split <;> rfl
theorem Sim.watchN {B:PBx} {C:RBx} {pf:PFr} {f:Fr} (h:Sim B C) (hi:Inv C) (hf:FrS pf f C.L):∀k,k<=C.L.sw.length →
  Sim (B.lateN pf k) (C.watchN f k)/\Inv (C.watchN f k)/\(C.watchN f k).L=C.L
 | 0,_=>⟨h,hi,rfl⟩
 | k+1,hk=>by
  obtain⟨a,b,c⟩:=Sim.watchN h hi hf k (by omega);have:=a.watch1 b (f:=f) (pf:=pf) (by rw[c]; exact hf) (k:=k) (by rw[c]; omega);exact⟨this.1,this.2,(watch1_L _ _ _).trans c⟩
theorem z05 {α:Type} {l:List α} {i:Nat} {d:α} (h:i < l.length):l.getD i d=l[i]:=by
 rw[List.getD_eq_getElem?_getD,List.getElem?_eq_getElem h]; rfl
theorem z5r (l:List Nat) (t:Nat):0 < z26 l t↔l.contains t=true:=by
 unfold z26;rw[List.contains_iff_mem];constructor
 ·intro h
  have h':0 < (l.filter (fun y:Nat=>((y:Int)==(t:Int)))).length:=by omega
  obtain⟨x,hx⟩:=List.length_pos_iff_exists_mem.1 h';rw[List.mem_filter] at hx;have:x=t:=by
   have h2:=hx.2;rw[beq_iff_eq] at h2;omega
  exact this ▸ hx.1
 ·intro h
  have:t∈l.filter (fun y:Nat=>((y:Int)==(t:Int))):=by
   rw[List.mem_filter];exact⟨h,by simp⟩
  have:=List.length_pos_of_mem this;omega
theorem Sim.next {B:PBx} {C:RBx} (h:Sim B C) (hi:Inv C) {t:Nat} (ht:t < C.L.tns.length):B.nextR t=(C.L.tn t).jny[C.sta.getD t 0]?:=by
 unfold PBx.nextR;rw[h.L,h.sta,if_pos ⟨ht,by rw[hi.st]; exact ht⟩]
theorem Sim.askA {B:PBx} {C:RBx} (h:Sim B C) (hi:Inv C) {t:Nat} (ht:t < C.L.tns.length):B.askA t=C.askA t:=by
 unfold PBx.askA RBx.askA;rw[h.next hi ht,h.waits,h.L];have hsj:=hi.sj t;by_cases e:C.sta.getD t 0=(C.L.tn t).jny.length
 ·rw[if_pos e,List.getElem?_eq_none (by omega)]
  rfl
 ·rw[if_neg e,List.getElem?_eq_getElem (by omega)]
  simp only[Option.isSome_some,if_true];by_cases e1:C.waits.contains t=true
  ·rw[if_pos e1,if_pos ((z5r _ _).2 e1)]
  ·rw[if_neg e1,if_neg (fun hh=>e1 ((z5r _ _).1 hh))]
   have:=hi.wq;by_cases e2:C.waits.length=C.L.Q
   ·rw[if_pos e2,if_pos (by omega)]
   ·rw[if_neg e2,if_neg (by omega)]
theorem Sim.ask {B:PBx} {C:RBx} (h:Sim B C) (hi:Inv C) {t:Nat} (ht:t < C.L.tns.length):Sim (B.ask t) (C.ask t)/\Inv (C.ask t):=by
 unfold PBx.ask RBx.ask;rw[h.askA hi ht];by_cases e:C.askA t=113
 ·rw[if_pos e,if_pos e]
  have hsj:=hi.sj t;have h1:C.sta.getD t 0≠(C.L.tn t).jny.length/\C.waits.contains t=false/\C.waits.length≠C.L.Q:=by
   unfold RBx.askA at e;by_cases e1:C.sta.getD t 0=(C.L.tn t).jny.length
   ·rw[if_pos e1] at e; simp at e
   ·rw[if_neg e1] at e
    by_cases e2:0 < z26 C.waits t
    ·rw[if_pos e2] at e; simp at e
    ·rw[if_neg e2] at e
     by_cases e3:C.waits.length=C.L.Q
     ·rw[if_pos e3] at e; simp at e
     ·refine⟨e1,?_,e3⟩
      cases hc:C.waits.contains t with
      | false=>rfl
      | true=>exact absurd ((z5r _ _).2 hc) e2
  obtain⟨h1,h2,h3⟩:=h1;have hnm:t ∉ C.waits:=by
   intro hm;rw[List.contains_iff_mem.2 hm] at h2; simp at h2
  refine⟨⟨h.L,h.rl,h.lr,h.sl,h.sw,h.lt,h.sta,by show B.waits++[t]=C.waits++[t]; rw[h.waits]⟩,⟨hi.lay,hi.ll,hi.wl,hi.fl,hi.dl,hi.st,hi.sj,hi.late,hi.li,hi.tr,hi.one,?_,?_,?_⟩⟩
  ·show (C.waits++[t]).length<=C.L.Q
   have:=hi.wq;simp only[List.length_append,List.length_cons,List.length_nil];omega
  ·show (C.waits++[t]).Nodup
   rw[List.nodup_append];refine⟨hi.wn,by simp,?_⟩;intro a ha b hb;rw[List.mem_singleton] at hb;subst hb;intro e; subst e; exact hnm ha
  ·intro t' ht'
   have:t'∈C.waits++[t]:=ht';rcases List.mem_append.1 this with hm | hm
   ·exact hi.wt t' hm
   ·rw[List.mem_singleton] at hm
    subst hm;exact⟨ht,by show C.sta.getD t' 0 < (C.L.tn t').jny.length; omega⟩
 ·rw[if_neg e,if_neg e]
  exact⟨h,hi⟩
theorem Sim.canc {B:PBx} {C:RBx} (h:Sim B C) {r:Nat} (hr:r < C.L.rts.length):B.cancB r=C.canc r:=by
 unfold PBx.cancB RBx.canc PRt.mayB;have:decide (r < B.rts.length)=true:=by rw[h.rl]; simpa using hr
 rw[this,(h.lr r hr).ph,Bool.true_and]
theorem Sim.cancel {B:PBx} {C:RBx} {pf:PFr} {f:Fr} (h:Sim B C) (hi:Inv C) (hf:FrS pf f C.L) {r:Nat} (hr:r < C.L.rts.length):Sim (B.cancel pf r) (C.cancel f r)/\Inv (C.cancel f r):=by
 unfold PBx.cancel RBx.cancel;rw[h.canc hr];by_cases e:C.canc r=true
 ·rw[if_pos e,if_pos e]
  have hl:=h.lr r hr;have hli:=hi.li r hr;have hD:=hi.lay.D;have hph:(C.line r).ph=119\/(C.line r).ph=103\/(C.line r).ph=102:=by
   unfold RBx.canc at e;simp only[Bool.or_eq_true,beq_iff_eq] at e;omega
  have hne:(C.line r).ph≠46:=by omega
  have g0:=hli.g0 (by omega);have hcb:(if (C.line r).been&&f.occ.getD (C.L.rt r).foot false then C.L.D else 0)<=1000:=by split <;> omega
  have hct:(if (B.route r).been&&pf.occ.getD (B.route r).rt.foot false then B.L.D else 0)=(if (C.line r).been&&f.occ.getD (C.L.rt r).foot false then C.L.D else 0):=by
   rw[hl.be hne,hf.occ,hl.rt,h.L]
  refine⟨h.put hi hr ⟨hl.rt,rfl,fun _=>hl.tr hne,fun _=>hl.be hne,fun _=>hl.fr hne,fun _=>hl.ml hne,fun hh=>by simp at hh,fun _=>hct,?_,hl.fb,hl.mb⟩,hi.put hr ⟨fun _=>g0,fun hh=>by simp at hh,hcb⟩ (fun _=>⟨hne,rfl⟩)⟩;show (if (B.route r).been&&pf.occ.getD (B.route r).rt.foot false then B.L.D else 0)<=1000;rw[hct]; exact hcb
 ·rw[if_neg e,if_neg e]
  exact⟨h,hi⟩
theorem numF_ltq {x c n:Nat} (h:(numF x c n).isSome=true):c<=x/\x - c < n:=by
 unfold numF at h;by_cases e:c<=x/\x < c+n
 ·omega
 ·rw[if_neg e] at h; simp at h
theorem Sim.do1 {B:PBx} {C:RBx} {pf:PFr} {f:Fr} (h:Sim B C) (hi:Inv C) (hf:FrS pf f C.L) {c x:Nat} (hc:C.L.cmdB c x=true) :
  Sim (B.do1 pf (c,x - cbase c)) (C.doC f c x)/\Inv (C.doC f c x)/\B.doA (c,x - cbase c)=C.doA c x:=by
 unfold Lay.cmdB at hc;unfold PBx.do1 PBx.doA RBx.doC RBx.doA;simp only;by_cases h1:c=114
 ·subst h1
  rw[if_pos rfl] at hc;have ht:=(numF_ltq hc).2;have e0:cbase 114=49:=rfl;rw[e0,if_pos rfl,if_pos rfl,if_pos rfl,if_pos rfl];exact⟨(h.ask hi ht).1,(h.ask hi ht).2,h.askA hi ht⟩
 rw[if_neg h1] at hc;by_cases h2:c=99
 ·subst h2
  rw[if_pos rfl] at hc;have ht:=(numF_ltq hc).2;have e0:cbase 99=65:=rfl;rw[e0];simp only[if_neg h1,if_true];exact⟨(h.cancel hi hf ht).1,(h.cancel hi hf ht).2,by rw[h.canc ht]⟩
 rw[if_neg h2] at hc;by_cases h3:c=109
 ·subst h3
  rw[if_pos rfl] at hc;have e0:cbase 109=97:=rfl;rw[e0];simp only[if_neg h1,if_neg h2,if_true];have hs:x - 97 < C.L.sw.length/\C.L.sw.getD (x - 97) false=true:=by
   unfold numF at hc;by_cases e:97<=x/\x < 97+C.L.sw.length
   ·rw[if_pos e] at hc
    exact⟨by omega,hc⟩
   ·rw[if_neg e] at hc; simp at hc
  obtain⟨w1,w2,w3⟩:=h.sw _ hs.1 hs.2;have hfl:x - 97 < C.failed.length:=by rw[hi.fl]; exact hs.1
  have hsl:x - 97 < B.sws.length:=by rw[h.sl]; exact hs.1
  unfold PBx.mend;rw[w2];by_cases e:C.failed.getD (x - 97) false=true
  ·rw[if_pos e,if_pos e,if_pos e]
   refine⟨⟨h.L,h.rl,h.lr,(by show (B.sws.set _ _).length=_; rw[List.length_set]; exact h.sl),?_,?_,h.sta,h.waits⟩,⟨hi.lay,hi.ll,hi.wl,(by show (C.failed.set _ _).length=_; rw[List.length_set]; exact hi.fl),hi.dl,hi.st,hi.sj,hi.late,hi.li,hi.tr,hi.one,hi.wq,hi.wn,hi.wt⟩,rfl⟩
   ·intro s hs1 hs2
    show _/\_=(C.failed.set (x - 97) false).getD s false/\_;rw[sw_putq B _ _ _ hsl,z0d _ _ _ _ _ hfl];by_cases e2:s=x - 97
    ·rw[if_pos e2,if_pos e2,e2]
     exact⟨w1,rfl,w3⟩
    ·rw[if_neg e2,if_neg e2]
     exact h.sw s hs1 hs2
   ·intro s
    rw[sw_putq B _ _ _ hsl];split
    ·show (B.sw (x - 97)).late<=1000
     exact h.lt _
    ·exact h.lt s
  ·rw[if_neg e,if_neg e,if_neg e]
   exact⟨h,hi,rfl⟩
 ·rw[if_neg h3] at hc; simp at hc
theorem doC_L (C:RBx) (f:Fr) (c x:Nat):(C.doC f c x).L=C.L:=by
 unfold RBx.doC RBx.ask RBx.cancel RBx.put
 repeat' split
 all_goals rfl
theorem Sim.doN {B:PBx} {C:RBx} {pf:PFr} {f:Fr} (h:Sim B C) (hi:Inv C) (hf:FrS pf f C.L) (n:Nat)
  (hc:∀j,j < n->C.L.cmdB (pk f.cmds (2*j)) (pk f.cmds (2*j+1))=true/\pf.cmds.getD j (0,0)=(pk f.cmds (2*j),pk f.cmds (2*j+1) - cbase (pk f.cmds (2*j)))):∀k,k<=n →
  Sim (B.doN pf k) (C.doN f k)/\Inv (C.doN f k)/\(C.doN f k).L=C.L/\B.doAs pf k=C.doAs f k
 | 0,_=>⟨h,hi,rfl,rfl⟩
 | k+1,hk=>by
  obtain⟨a,b,c,d⟩:=Sim.doN h hi hf n hc k (by omega);obtain⟨e1,e2⟩:=hc k (by omega);obtain⟨x,y,z⟩:=a.do1 b (f:=f) (pf:=pf) (by rw[c]; exact hf) (c:=pk f.cmds (2*k)) (x:=pk f.cmds (2*k+1)) (by rw[c]; exact e1);refine⟨?_,y,(doC_L _ _ _ _).trans c,?_⟩
  ·show Sim ((B.doN pf k).do1 pf (pf.cmds.getD k (0,0))) _
   rw[e2];exact x
  ·unfold PBx.doAs RBx.doAs at d ⊢
   rw[List.range_succ,List.map_append,List.map_append,d]
   congr 1
   show [(B.doN pf k).doA (pf.cmds.getD k (0,0))]=[C.doAt f k];rw[e2,z];rfl
theorem rwant_get (C:RBx) (r:Nat):∀k,k<=C.wanted.length->(C.wantN r k).wanted.length=C.wanted.length/\(∀s,(C.wantN r k).wanted.getD s 0=if s < k/\C.L.wantsF r s≠0 then C.L.wantsF r s else C.wanted.getD s 0) ∧
  (C.wantN r k).L=C.L/\(C.wantN r k).lines=C.lines/\(C.wantN r k).failed=C.failed/\(C.wantN r k).late=C.late/\(C.wantN r k).sta=C.sta/\(C.wantN r k).waits=C.waits
 | 0,_=>⟨rfl,fun s=>by rw[if_neg (by omega)]; rfl,rfl,rfl,rfl,rfl,rfl,rfl⟩
 | k+1,hk=>by
  obtain⟨a,b,c,d,e,g,i,j⟩:=rwant_get C r k (by omega);show ((C.wantN r k).wantK r k).wanted.length=_/\(∀s,((C.wantN r k).wantK r k).wanted.getD s 0=_)/\((C.wantN r k).wantK r k).L=_/\((C.wantN r k).wantK r k).lines=_/\((C.wantN r k).wantK r k).failed=_/\((C.wantN r k).wantK r k).late=_/\((C.wantN r k).wantK r k).sta=_/\((C.wantN r k).wantK r k).waits=_;unfold RBx.wantK;rw[c];by_cases hw:C.L.wantsF r k=0
  ·rw[if_pos hw]
   refine⟨a,fun s=>?_,c,d,e,g,i,j⟩;rw[b];by_cases e1:s < k/\C.L.wantsF r s≠0
   ·rw[if_pos e1,if_pos ⟨by omega,e1.2⟩]
   ·rw[if_neg e1,if_neg]
    rintro⟨e2,e3⟩;by_cases e4:s=k
    ·subst e4; exact e3 hw
    ·exact e1 ⟨by omega,e3⟩
  ·rw[if_neg hw]
   refine⟨(by show ((C.wantN r k).wanted.set k _).length=_; rw[List.length_set]; exact a),fun s=>?_,rfl,d,e,g,i,j⟩;show ((C.wantN r k).wanted.set k _).getD s 0=_;rw[z0d _ _ _ _ _ (by rw[a]; omega)];by_cases e1:s=k
   ·subst e1
    rw[if_pos rfl,if_pos ⟨by omega,hw⟩]
   ·rw[if_neg e1,b]
    by_cases e2:s < k/\C.L.wantsF r s≠0
    ·rw[if_pos e2,if_pos ⟨by omega,e2.2⟩]
    ·rw[if_neg e2,if_neg]
     rintro⟨e3,e4⟩;exact e2 ⟨by omega,e4⟩
theorem pwant_get (B:PBx) (l:List (Nat×Nat)) (W:Nat->Nat) (hl:∀x,x∈l->x.1 < B.sws.length/\x.2=W x.1):∀k,k<=l.length->(B.wantN l k).sws.length=B.sws.length ∧
  (∀s,((B.wantN l k).sw s).late=(B.sw s).late/\((B.wantN l k).sw s).failed=(B.sw s).failed/\((B.wantN l k).sw s).wanted=if has (l.take k) s then W s else (B.sw s).wanted) ∧
  (B.wantN l k).L=B.L/\(B.wantN l k).rts=B.rts/\(B.wantN l k).sta=B.sta/\(B.wantN l k).waits=B.waits
 | 0,_=>⟨rfl,fun s=>⟨rfl,rfl,rfl⟩,rfl,rfl,rfl,rfl⟩
 | k+1,hk=>by
  obtain⟨a,b,c,d,e,g⟩:=pwant_get B l W hl k (by omega);have hk':k < l.length:=by omega
  have ek:l.getD k (0,0)=l[k]:=by rw[List.getD_eq_getElem?_getD,List.getElem?_eq_getElem hk']; rfl
  obtain⟨h1,h2⟩:=hl l[k] (List.getElem_mem hk');have eN:B.wantN l (k+1)=(B.wantN l k).putS l[k].1 { (B.wantN l k).sw l[k].1 with wanted:=l[k].2 }:=by
   show (B.wantN l k).want1 (l.getD k (0,0))=_;unfold PBx.want1;rw[ek,if_pos (by rw[a]; exact h1)]
  rw[eN];refine⟨(by show ((B.wantN l k).sws.set _ _).length=_; rw[List.length_set]; exact a),fun s=>?_,c,d,e,g⟩;rw[sw_putq _ _ _ _ (by rw[a]; exact h1)];have eh:has (l.take (k+1)) s=(has (l.take k) s||l[k].1==s):=by
   rw[Bool.eq_iff_iff,Bool.or_eq_true,has_iff,has_iff,List.take_succ_eq_append_getElem hk'];simp only[List.mem_append,List.mem_singleton,beq_iff_eq];constructor
   ·rintro⟨x,hx | hx,rfl⟩
    ·exact Or.inl ⟨x,hx,rfl⟩
    ·subst hx; exact Or.inr rfl
   ·rintro(⟨x,hx,rfl⟩ | hx)
    ·exact⟨x,Or.inl hx,rfl⟩
    ·exact⟨l[k],Or.inr rfl,hx⟩
  obtain⟨b1,b2,b3⟩:=b s;by_cases e1:s=l[k].1
  ·rw[if_pos e1,eh]
   have:(l[k].1==s)=true:=by simpa using e1.symm
   rw[this,Bool.or_true,if_pos rfl,e1];rw[e1] at b1 b2;exact⟨b1,b2,h2⟩
  ·rw[if_neg e1,eh]
   have:(l[k].1==s)=false:=by
    rw[beq_eq_false_iff_ne];exact fun hh=>e1 hh.symm
   rw[this,Bool.or_false];exact⟨b1,b2,b3⟩
theorem Sim.grantB {B:PBx} {C:RBx} {pf:PFr} {f:Fr} (h:Sim B C) (hi:Inv C) (hf:FrS pf f C.L) {t:Nat} (ht:t < C.L.tns.length) (hj:C.sta.getD t 0 < (C.L.tn t).jny.length) :
  C.nxt t < C.L.rts.length/\B.nextR t=some (C.nxt t)/\B.grantB pf t=C.grantB f t:=by
 have en:B.nextR t=some (C.nxt t):=by
  rw[h.next hi ht,List.getElem?_eq_getElem hj];unfold RBx.nxt;rw[z05 hj]
 have hr:C.nxt t < C.L.rts.length:=by
  refine hi.lay.good.jnys (C.L.tn t) ?_ _ ?_
  ·unfold Lay.tn
   rw[List.getD_eq_getElem?_getD,List.getElem?_eq_getElem ht];exact List.getElem_mem ht
  ·unfold RBx.nxt
   rw[z05 hj];exact List.getElem_mem hj
 refine⟨hr,en,?_⟩;unfold PBx.grantB RBx.grantB;rw[en];simp only;have:decide (C.nxt t < B.rts.length)=true:=by rw[h.rl]; simpa using hr
 rw[this,Bool.true_and];unfold PBx.grantR;rw[h.setFor hi,(h.lr _ hr).rt,Bool.and_assoc (!C.isSet t),h.free hi hf hr,h.L]
 congr 1
 have:oneM B.sta t=C.more t:=by unfold oneM RBx.more; rw[h.sta]
 rw[this];exact ok_sound C.L _ (by unfold RBx.more; rw[List.length_set]; exact hi.st)
theorem Sim.given {B:PBx} {C:RBx} {pf:PFr} {f:Fr} (h:Sim B C) (hi:Inv C) (hf:FrS pf f C.L) {t:Nat} {a l:List Nat} (hw:C.waits=a++t :: l) (hg:C.grantB f t=true) :
  Sim { B.given (C.nxt t) t with waits:=a++l } { C.given (C.nxt t) t with waits:=a++l }/\Inv { C.given (C.nxt t) t with waits:=a++l }:=by
 obtain⟨ht,hj⟩:=hi.wt t (by rw[hw]; simp);obtain⟨hr,-,-⟩:=h.grantB hi hf ht hj;have hns:C.isSet t=false:=by
  unfold RBx.grantB at hg;simp only[Bool.and_eq_true,Bool.not_eq_true'] at hg;exact hg.1.1
 obtain⟨r,hrr⟩:∃r,r=C.nxt t:=⟨_,rfl⟩
 rw[<-hrr] at hr ⊢;have ho:=hi.rt hr;have hl:=h.lr r hr;have hgets:∀t',(C.more t).getD t' 0=if t'=t then C.sta.getD t 0+1 else C.sta.getD t' 0:=fun t'=>z0d _ _ _ _ _ (by rw[hi.st]; exact ht);obtain⟨r1,r2,r3,r4,r5,r6,r7,r8⟩:=rwant_get { C with sta:=C.more t } r C.L.sw.length (by show C.L.sw.length<=C.wanted.length; rw[hi.wl]; exact Nat.le_refl _);have hsw:∀x,x∈swsOf (C.L.rt r)->x.1 < B.sws.length/\x.2=C.L.wantsF r x.1:=by
  intro x hx;obtain⟨p,q⟩:=(sws_iff ho x).1 hx;refine⟨by rw[h.sl]; exact(wants_sw ho (by rw[q]; exact p)).1,q.symm⟩
 obtain⟨p1,p2,p3,p4,p5,p6⟩:=pwant_get ({ B with sta:=oneM B.sta t }.putR r ((B.route r).set t)) (swsOf (C.L.rt r)) (C.L.wantsF r) hsw (swsOf (C.L.rt r)).length (Nat.le_refl _);rw[List.take_length] at p2;have eB:B.given r t=({ B with sta:=oneM B.sta t }.putR r ((B.route r).set t)).wantN (swsOf (C.L.rt r)) (swsOf (C.L.rt r)).length:=by
  show ({ B with sta:=oneM B.sta t }.putR r ((B.route r).set t)).wantN (swsOf (B.route r).rt) (swsOf (B.route r).rt).length=_;rw[hl.rt]
 have eC:C.given r t=(({ C with sta:=C.more t }:RBx).wantN r C.L.sw.length).put r (RLnW t):=rfl;have hlen:r < (({ C with sta:=C.more t }:RBx).wantN r C.L.sw.length).lines.length:=by
  rw[r4]; show r < C.lines.length; rw[hi.ll]; exact hr
 have hline:∀r',(C.given r t).line r'=if r'=r then RLnW t else C.line r':=by
  intro r';rw[eC,z13 _ r r' _ hlen];by_cases e:r'=r
  ·rw[if_pos e,if_pos e]
  ·rw[if_neg e,if_neg e]
   unfold RBx.line;rw[r4]
 have hrte:∀r',(B.given r t).route r'=if r'=r then (B.route r).set t else B.route r':=by
  intro r';rw[eB];have:∀(X:PBx),X.rts=({ B with sta:=oneM B.sta t }.putR r ((B.route r).set t)).rts->X.route r'=({ B with sta:=oneM B.sta t }.putR r ((B.route r).set t)).route r':=by
   intro X hX;show X.rts.getD r' _=_;rw[hX];rfl
  rw[this _ p4,route_putq _ r r' _ (by show r < B.rts.length; rw[h.rl]; exact hr)];rfl
 have cL:(C.given r t).L=C.L:=r3;have hp6:=ho.pl;have hnot:∀r',r' < C.L.rts.length->(C.line r').ph≠46->(C.line r').train≠t:=by
  intro r' hr' hp e;unfold RBx.isSet at hns;rw[List.any_eq_false] at hns;have:=hns r' (List.mem_range.2 (by rw[hi.ll]; exact hr'));unfold RBx.setB at this;simp[hp,e] at this
 have hnd:=hi.wn;rw[hw,List.nodup_append] at hnd;obtain⟨n1,n2,n3⟩:=hnd;rw[List.nodup_cons] at n2;have hnt:t ∉ a++l:=by
  intro hm;rcases List.mem_append.1 hm with hm | hm
  ·exact n3 t hm t (by simp) rfl
  ·exact n2.1 hm
 refine⟨⟨?_,?_,?_,?_,?_,?_,?_,rfl⟩,⟨?_,?_,?_,?_,?_,?_,?_,?_,?_,?_,?_,?_,?_,?_⟩⟩
 ·show (B.given r t).L=(C.given r t).L
  rw[eB,p3,cL]; exact h.L
 ·show (B.given r t).rts.length=(C.given r t).L.rts.length
  rw[eB,p4,cL];show (B.rts.set r _).length=_;rw[List.length_set]; exact h.rl
 ·intro r' hr'
  have hr'':r' < C.L.rts.length:=by rw[<-cL]; exact hr'
  show LR (C.given r t).L r' ((B.given r t).route r') ((C.given r t).line r');rw[cL,hline,hrte];by_cases e:r'=r
  ·subst e
   rw[if_pos rfl,if_pos rfl];refine⟨hl.rt,rfl,fun _=>rfl,fun _=>rfl,fun _=>rfl,fun _=>?_,fun hh=>by simp[RLnW] at hh,fun hh=>by simp[RLnW] at hh,hl.cb,Nat.zero_le _,?_⟩
   ·show (List.replicate (B.route r').rt.path.length false).length=_
    rw[List.length_replicate,hl.rt]
   ·show (List.replicate (B.route r').rt.path.length false).length<=_
    rw[List.length_replicate,hl.rt]; omega
  ·rw[if_neg e,if_neg e]
   exact h.lr r' hr''
 ·show (B.given r t).sws.length=(C.given r t).L.sw.length
  rw[eB,p1,cL]; exact h.sl
 ·intro s hs hs2
  have hs':s < C.L.sw.length:=by rw[<-cL]; exact hs
  have hs2':C.L.sw.getD s false=true:=by rw[<-cL]; exact hs2
  show ((B.given r t).sw s).wanted=(C.given r t).wanted.getD s 0/\((B.given r t).sw s).failed=(C.given r t).failed.getD s false/\((B.given r t).sw s).late=(C.given r t).late.getD s 0;obtain⟨q1,q2,q3⟩:=p2 s;rw[eB,q1,q2,q3,eC];show (if has (swsOf (C.L.rt r)) s=true then C.L.wantsF r s else (B.sw s).wanted)=(({ C with sta:=C.more t }:RBx).wantN r C.L.sw.length).wanted.getD s 0/\(B.sw s).failed=(({ C with sta:=C.more t }:RBx).wantN r C.L.sw.length).failed.getD s false/\(B.sw s).late=(({ C with sta:=C.more t }:RBx).wantN r C.L.sw.length).late.getD s 0;rw[r2,r5,r6,has_sws ho];obtain⟨w1,w2,w3⟩:=h.sw s hs' hs2';refine⟨?_,w2,w3⟩;show _=if s < C.L.sw.length/\C.L.wantsF r s≠0 then C.L.wantsF r s else C.wanted.getD s 0;by_cases e:C.L.wantsF r s=0
  ·rw[if_neg (by simp[e]),if_neg (by rintro⟨-,hh⟩; exact hh e)]
   exact w1
  ·rw[if_pos (by simpa using e),if_pos ⟨hs',e⟩]
 ·intro s
  show ((B.given r t).sw s).late<=1000;rw[eB,(p2 s).1];exact h.lt s
 ·show (B.given r t).sta=(C.given r t).sta
  rw[eB,p5,eC];show oneM B.sta t=(({ C with sta:=C.more t }:RBx).wantN r C.L.sw.length).sta;rw[r7];show oneM B.sta t=C.more t;unfold oneM RBx.more; rw[h.sta]
 ·show LayOK (C.given r t).L
  rw[cL]; exact hi.lay
 ·show (C.given r t).lines.length=(C.given r t).L.rts.length
  rw[cL,eC];show ((({ C with sta:=C.more t }:RBx).wantN r C.L.sw.length).lines.set r _).length=_;rw[List.length_set,r4]; exact hi.ll
 ·show (({ C with sta:=C.more t }:RBx).wantN r C.L.sw.length).wanted.length=(C.given r t).L.sw.length
  rw[cL,r1]; exact hi.wl
 ·show (({ C with sta:=C.more t }:RBx).wantN r C.L.sw.length).failed.length=(C.given r t).L.sw.length
  rw[cL,r5]; exact hi.fl
 ·show (({ C with sta:=C.more t }:RBx).wantN r C.L.sw.length).late.length=(C.given r t).L.sw.length
  rw[cL,r6]; exact hi.dl
 ·show (({ C with sta:=C.more t }:RBx).wantN r C.L.sw.length).sta.length=(C.given r t).L.tns.length
  rw[cL,r7];show (C.sta.set _ _).length=_;rw[List.length_set]; exact hi.st
 ·intro t'
  show (({ C with sta:=C.more t }:RBx).wantN r C.L.sw.length).sta.getD t' 0<=((C.given r t).L.tn t').jny.length;rw[cL,r7];show (C.more t).getD t' 0<=_;rw[hgets];by_cases e:t'=t
  ·rw[if_pos e,e]; omega
  ·rw[if_neg e]; exact hi.sj t'
 ·intro s
  show (({ C with sta:=C.more t }:RBx).wantN r C.L.sw.length).late.getD s 0 < (C.given r t).L.T;rw[cL,r6]; exact hi.late s
 ·intro r' hr'
  have hr'':r' < C.L.rts.length:=by rw[<-cL]; exact hr'
  show LI (C.given r t).L r' ((C.given r t).line r');rw[cL,hline];by_cases e:r'=r
  ·rw[if_pos e]
   exact⟨fun _=>rfl,fun hh=>by simp[RLnW] at hh,Nat.zero_le _⟩
  ·rw[if_neg e]; exact hi.li r' hr''
 ·intro r' hr' hp
  have hr'':r' < C.L.rts.length:=by rw[<-cL]; exact hr'
  have hp':((C.given r t).line r').ph≠46:=hp;show ((C.given r t).line r').train < (C.given r t).L.tns.length/\1<=(({ C with sta:=C.more t }:RBx).wantN r C.L.sw.length).sta.getD ((C.given r t).line r').train 0;rw[cL,r7];show _/\1<=(C.more t).getD ((C.given r t).line r').train 0;rw[hgets];rw[hline] at hp' ⊢;by_cases e:r'=r
  ·rw[if_pos e]
   refine⟨ht,?_⟩;show 1<=if t=t then _ else _;rw[if_pos rfl]; omega
  ·rw[if_neg e] at hp' ⊢
   obtain⟨x,y⟩:=hi.tr r' hr'' hp';refine⟨x,?_⟩;rw[if_neg (hnot r' hr'' hp')];exact y
 ·intro x y hx hy hpx hpy hxy
  have hx':x < C.L.rts.length:=by rw[<-cL]; exact hx
  have hy':y < C.L.rts.length:=by rw[<-cL]; exact hy
  have hpx':((C.given r t).line x).ph≠46:=hpx;have hpy':((C.given r t).line y).ph≠46:=hpy;have hxy':((C.given r t).line x).train=((C.given r t).line y).train:=hxy;rw[hline] at hpx' hpy' hxy';rw[hline] at hxy';by_cases ex:x=r <;> by_cases ey:y=r
  ·omega
  ·rw[if_pos ex,if_neg ey] at hxy'
   rw[if_neg ey] at hpy';exact absurd hxy'.symm (hnot y hy' hpy')
  ·rw[if_neg ex,if_pos ey] at hxy'
   rw[if_neg ex] at hpx';exact absurd hxy' (hnot x hx' hpx')
  ·rw[if_neg ex,if_neg ey] at hxy'
   rw[if_neg ex] at hpx';rw[if_neg ey] at hpy';exact hi.one x y hx' hy' hpx' hpy' hxy'
 ·show (a++l).length<=(C.given r t).L.Q
  rw[cL];have:=hi.wq;rw[hw] at this;simp only[List.length_append,List.length_cons] at this ⊢;omega
 ·show (a++l).Nodup
  rw[List.nodup_append];exact⟨n1,n2.2,fun x hx y hy=>n3 x hx y (List.mem_cons_of_mem _ hy)⟩
 ·intro t' ht'
  have ht'':t'∈a++l:=ht';have hne:t'≠t:=by intro e; subst e; exact hnt ht''
  have hm:t'∈C.waits:=by
   rw[hw];rcases List.mem_append.1 ht'' with hm | hm
   ·exact List.mem_append_left _ hm
   ·exact List.mem_append_right _ (List.mem_cons_of_mem _ hm)
  show t' < (C.given r t).L.tns.length/\(({ C with sta:=C.more t }:RBx).wantN r C.L.sw.length).sta.getD t' 0 < ((C.given r t).L.tn t').jny.length;rw[cL,r7];show _/\(C.more t).getD t' 0 < _;rw[hgets,if_neg hne];exact hi.wt t' hm
end Go.Proofs.YtkbpocecbcaiiabGreatDoor
