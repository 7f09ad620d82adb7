import Derived.Test.YtkbpocecbcaiiabGreatDoorO54
namespace Go.Proofs.YtkbpocecbcaiiabGreatDoor
open Go.RowKit
def Settled (C:RBx) (W:Wd) (x:Nat):Prop:=W.aim.getD x 0=0/\W.lie.getD x 0=C.wanted.getD x 0/\C.late.getD x 0=0
def Moving (L:Lay) (C:RBx) (W:Wd) (x:Nat):Prop:=W.aim.getD x 0=C.wanted.getD x 0/\C.late.getD x 0+W.left.getD x 0+1<=L.T/\∃r,(C.line r).ph=119/\L.wantsF r x≠0
def Pend (L:Lay) (C:RBx) (W:Wd) (x:Nat):Prop:=W.aim.getD x 0=0/\C.late.getD x 0=0/\(∃r,(C.line r).ph=119/\L.wantsF r x≠0)/\W.takenB L x=false
def Lies (L:Lay) (C:RBx) (W:Wd):Prop:=∀r x,L.wantsF r x≠0->((C.line r).ph=103\/((C.line r).ph=116/\C.lockB x r=true))->W.aim.getD x 0=0/\W.lie.getD x 0=L.wantsF r x/\C.wanted.getD x 0=L.wantsF r x
def Behind (L:Lay) (C:RBx) (W:Wd):Prop:=∀r,PastIt L W (C.sta.getD (C.line r).train 0) (C.line r).train r (C.line r)->(C.line r).gone+1=plen L r →
 W.takenB L (bef L r (C.line r).gone)=false/\∀q,((C.line q).ph=103\/(C.line q).ph=116)->C.lockB (bef L r (C.line r).gone) q=false
structure WLen (L:Lay) (W:Wd):Prop where
 d:W.done.length=L.tns.length
 h:W.head.length=L.tns.length
 t:W.tail.length=L.tns.length
 g:W.gone.length=L.tns.length
structure Play (L:Lay) (C:RBx) (W:Wd):Prop where
 sim:∃B,Sim B C
 inv:Inv C
 eL:C.L=L
 wo:WantOK C
 kj:KJ C
 wt:WtOK C
 snd:L.sound C.sta=true
 tr:Trs L C W (fun _=>true)
 sl:SwLen L W
 sv:SwVal L W
 nf:∀x,C.failed.getD x false=false
 sw:∀x,L.sw.getD x false=true->Settled C W x\/Moving L C W x
 li:Lies L C W
 be:Behind L C W
 wl:WLen L W
 lb:∀x,W.left.getD x 0<=9
theorem rp_aim (W:Wd) (x:Nat):(tkA (W.aim.getD x 0) (W.left.getD x 0)=0/\rp (W.aim.getD x 0) (W.lie.getD x 0) (W.left.getD x 0)=tkL (W.aim.getD x 0) (W.lie.getD x 0) (W.left.getD x 0)) ∨
  (tkA (W.aim.getD x 0) (W.left.getD x 0)=W.aim.getD x 0/\W.aim.getD x 0≠0/\0 < W.left.getD x 0/\rp (W.aim.getD x 0) (W.lie.getD x 0) (W.left.getD x 0)=63):=by
 unfold tkA tkL rp;by_cases h:W.aim.getD x 0≠0/\0 < W.left.getD x 0
 ·right; rw[if_pos h,if_pos h]; exact⟨rfl,h.1,h.2,rfl⟩
 ·left; rw[if_neg h,if_neg h,if_neg h]; exact⟨rfl,rfl⟩
theorem broken_no {C:RBx} (h:∀x,C.failed.getD x false=false) (r:Nat):C.broken r=false:=by
 unfold RBx.broken;rw[List.any_eq_false];intro x _;unfold RBx.brokenB;rw[h x];simp
theorem step_idle {C:RBx} (f:Fr) {r:Nat} (h:(C.line r).ph=46):C.step f r=C:=by
 unfold RBx.step;rw[if_neg (by omega),if_neg (by omega),if_neg (by omega),if_neg (by omega)]
theorem want_sw {L:Lay} (hT:LayT L) {r x:Nat} (hr:r < L.rts.length) (h:L.wantsF r x≠0):L.sw.getD x false=true:=by
 unfold Lay.wantsF at h;have hR:=hT.ok r hr;split at h
 ·rename_i v e
  obtain⟨y,hy,e1,e2⟩:=z41 e;have:=(hR.ps y hy).2;rw[e1,e2] at this;rw[this]
  simpa using h
 ·rename_i e
  cases e2:z1l (L.rt r).flank x with
  | none=>rw[e2] at h; exact absurd rfl h
  | some v=>
   obtain⟨y,hy,e3,e4⟩:=z41 e2;have:=(hR.fs y hy).2.1;rw[e3] at this;exact this
structure Cyc (L:Lay) (C:RBx) (W:Wd) (f:Fr) (V:Wd):Prop where
 T:LayT L
 P:Play L C W
 S:Stgs C f
 oc:∀x,x < L.sw.length->f.occ.getD x false=W.takenB L x
 rp:∀x,L.sw.getD x false=true->f.rep.getD x 0=rp (W.aim.getD x 0) (W.lie.getD x 0) (W.left.getD x 0)
 cm:∀j,j < f.cmds.size / 2->pk f.cmds (2*j)=114
 tk:∀x,L.sw.getD x false=true->TickAt W V x
 st:SameT W V
theorem Cyc.rt {L:Lay} {C:RBx} {W V:Wd} {f:Fr} (h:Cyc L C W f V) {r:Nat} (hp:(C.line r).ph≠46):r < L.rts.length:=by
 rw[<-h.P.eL,<-h.P.inv.ll]; exact z14 hp
theorem Cyc.late {L:Lay} {C:RBx} {W V:Wd} {f:Fr} (h:Cyc L C W f V) (x:Nat) (hx:x < L.sw.length):(C.s1 f).late.getD x 0=(if C.lateF f x=L.T then 0 else C.lateF f x)/\(C.s1 f).failed.getD x false=decide (C.lateF f x=L.T):=by
 have eL:=h.P.eL;have:=watchN_at C f (s:=x) (by rw[h.P.inv.fl,eL]; exact hx) (by rw[h.P.inv.dl,eL]; exact hx) C.L.sw.length (by rw[eL]; exact hx);rw[h.P.nf x,Bool.false_or,eL] at this;have e:C.s1 f=C.watchN f L.sw.length:=by unfold RBx.s1 RBx.watch; rw[eL]
 rw[e];exact this
theorem Cyc.sw1 {L:Lay} {C:RBx} {W V:Wd} {f:Fr} (h:Cyc L C W f V) {x:Nat} (hx:L.sw.getD x false=true):C.lateF f x < L.T/\((V.aim.getD x 0=0/\V.lie.getD x 0=C.wanted.getD x 0/\C.lateF f x=0)\/(V.aim.getD x 0=C.wanted.getD x 0/\C.lateF f x+V.left.getD x 0+1<=L.T/\f.rep.getD x 0=63/\∃r,(C.line r).ph=119/\L.wantsF r x≠0)):=by
 obtain⟨t1,t2,t3⟩:=h.tk x hx;have hr:=h.rp x hx;have hw:=h.P.wo x (by rw[h.P.eL]; exact hx);have hT1:=h.T.T1;have eL:=h.P.eL;rcases h.P.sw x hx with ⟨a1,a2,a3⟩ | ⟨a1,a2,r,a3,a4⟩
 ·have e1:tkA (W.aim.getD x 0) (W.left.getD x 0)=0:=by unfold tkA; rw[if_neg (by omega)]
  have e2:tkL (W.aim.getD x 0) (W.lie.getD x 0) (W.left.getD x 0)=W.lie.getD x 0:=by unfold tkL; rw[if_neg (by omega),if_neg (by omega)]
  have e3:Go.Proofs.YtkbpocecbcaiiabGreatDoor.rp (W.aim.getD x 0) (W.lie.getD x 0) (W.left.getD x 0)=W.lie.getD x 0:=by unfold Go.Proofs.YtkbpocecbcaiiabGreatDoor.rp; rw[if_neg (by omega),if_neg (by omega)]
  have hl:C.lateF f x=0:=by
   unfold RBx.lateF;rw[hr,e3,a2];simp
  exact⟨by omega,.inl ⟨by rw[t1,e1],by rw[t2,e2,a2],hl⟩⟩
 ·have ha:W.aim.getD x 0≠0:=by omega
  by_cases h0:0 < W.left.getD x 0
  ·have e1:tkA (W.aim.getD x 0) (W.left.getD x 0)=W.aim.getD x 0:=by unfold tkA; rw[if_pos ⟨ha,h0⟩]
   have e3:Go.Proofs.YtkbpocecbcaiiabGreatDoor.rp (W.aim.getD x 0) (W.lie.getD x 0) (W.left.getD x 0)=63:=by unfold Go.Proofs.YtkbpocecbcaiiabGreatDoor.rp; rw[if_pos ⟨ha,h0⟩]
   have e4:tkF (W.aim.getD x 0) (W.left.getD x 0)=W.left.getD x 0 - 1:=by unfold tkF; rw[if_pos ⟨ha,h0⟩]
   have hl:C.lateF f x<=C.late.getD x 0+1:=by
    unfold RBx.lateF;split <;> omega
   exact⟨by omega,.inr ⟨by rw[t1,e1,a1],by rw[t3,e4]; omega,by rw[hr,e3],r,a3,a4⟩⟩
  ·have e1:tkA (W.aim.getD x 0) (W.left.getD x 0)=0:=by unfold tkA; rw[if_neg (by omega)]
   have e2:tkL (W.aim.getD x 0) (W.lie.getD x 0) (W.left.getD x 0)=W.aim.getD x 0:=by unfold tkL; rw[if_neg (by omega),if_pos ha]
   have e3:Go.Proofs.YtkbpocecbcaiiabGreatDoor.rp (W.aim.getD x 0) (W.lie.getD x 0) (W.left.getD x 0)=W.aim.getD x 0:=by unfold Go.Proofs.YtkbpocecbcaiiabGreatDoor.rp; rw[if_neg (by omega),if_pos ha]
   have hl:C.lateF f x=0:=by
    unfold RBx.lateF;rw[hr,e3,a1];simp
   exact⟨by omega,.inl ⟨by rw[t1,e1],by rw[t2,e2,a1],hl⟩⟩
theorem Cyc.nf1 {L:Lay} {C:RBx} {W V:Wd} {f:Fr} (h:Cyc L C W f V) (x:Nat):(C.s1 f).failed.getD x false=false:=by
 have hlen:(C.s1 f).failed.length=L.sw.length:=by rw[h.S.i1.fl,h.S.l1,h.P.eL]
 rcases Nat.lt_or_ge x L.sw.length with hx | hx
 ·rw[(h.late x hx).2]
  by_cases hs:L.sw.getD x false=true
  ·have:=(h.sw1 hs).1
   simp; omega
  ·have hs':L.sw.getD x false=false:=by simpa using hs
   have:C.lateF f x=0:=by
    unfold RBx.lateF;rw[h.P.eL,hs'];simp
   have:=h.T.T1;simp; omega
 ·rw[List.getD_eq_getElem?_getD,List.getElem?_eq_none (by omega)]; rfl
theorem Cyc.s2 {L:Lay} {C:RBx} {W V:Wd} {f:Fr} (h:Cyc L C W f V) (r:Nat):((C.line r).ph=46/\(C.s2 f).line r=C.line r)\/((C.line r).ph≠46/\StepT L W f C (C.sta.getD (C.line r).train 0) (C.line r).train r (C.line r) ((C.s2 f).line r)):=by
 have eL:=h.P.eL;rcases Nat.lt_or_ge r C.L.rts.length with hr | hr
 ·obtain⟨e1,e2,e3,e4⟩:=s2_line h.S hr
  by_cases hp:(C.line r).ph=46
  ·left
   refine⟨hp,?_⟩;rw[e1,step_idle f (by rw[e2]; exact hp),e2]
  ·right
   refine⟨hp,?_⟩;have hfl:((C.s1 f).stepN f r).failed=(C.s1 f).failed:=(z27 (C.s1 f) f r).2.2.1;have:=step_tr (C':=(C.s1 f).stepN f r) h.T h.P.inv eL h.P.tr h.oc e2 (e3.trans eL) e4 (broken_no (fun x=>by rw[hfl]; exact h.nf1 x) r) hp;rw[<-e1] at this;unfold StepT at this ⊢;rw[right_L e3,busy_L e3] at this;exact this
 ·left
  have hz:∀D:RBx,D.lines.length<=r->D.line r=RLn0:=fun D hD=>by
   unfold RBx.line;rw[List.getD_eq_getElem?_getD,List.getElem?_eq_none hD]; rfl
  have h1:=hz C (by rw[h.P.inv.ll]; exact hr);have h2:=hz (C.s2 f) (by rw[h.S.i2.ll,h.S.l2]; exact hr);rw[h1,h2];exact⟨rfl,rfl⟩
theorem StepT.tr {L:Lay} {W:Wd} {f:Fr} {C:RBx} {s t r:Nat} {x y:RLn} (h:StepT L W f C s t r x y) (hy:y.ph≠46):y.train=t/\TrL L W s t r y false:=by
 rcases h with h | h | h | h
 ·exact⟨h.2.2.1,.inl h.2.1⟩
 ·exact⟨h.2.2,.inr (.inr (.inl h.2.1))⟩
 ·rw[h.2] at hy; exact absurd rfl hy
 ·exact⟨h.2.2.1,.inr (.inr (.inr h.2.1))⟩
theorem TrL.ph {L:Lay} {W:Wd} {s t r:Nat} {x:RLn} {e:Bool} (h:TrL L W s t r x e):x.ph=119\/x.ph=103\/x.ph=116:=by
 rcases h with h | h | h | h
 ·omega
 ·omega
 ·exact .inr (.inr h.2.ph)
 ·exact .inr (.inr h.ph)
theorem Cyc.sta2 {L:Lay} {C:RBx} {W V:Wd} {f:Fr} (h:Cyc L C W f V) (t:Nat):(C.s2 f).sta.getD t 0=C.sta.getD t 0:=by
 have h1s:(C.s1 f).sta=C.sta:=(z0l C f C.L.sw.length).2.2.2.1;have h1l:∀r,(C.s1 f).line r=C.line r:=fun r=>by unfold RBx.line; exact congrArg (fun l=>l.getD r RLn0) (z0l C f C.L.sw.length).2.2.1
 have hs:=stepN_sta h.S.i1 f t C.L.rts.length (by rw[h.S.l1]; exact Nat.le_refl _);rw[<-h.S.n2,h1s] at hs;rcases hs with hs | ⟨r,-,p,-⟩
 ·exact hs
 ·rw[h1l] at p
  have:=(h.P.tr.ln r (by omega)).ph;omega
theorem Cyc.sub2 {L:Lay} {C:RBx} {W V:Wd} {f:Fr} (h:Cyc L C W f V) {s r:Nat} (hl:(C.s2 f).lockB s r=true):C.lockB s r=true:=by
 have h1l:(C.s1 f).line r=C.line r:=by unfold RBx.line; exact congrArg (fun l=>l.getD r RLn0) (z0l C f C.L.sw.length).2.2.1
 have hrl:r < C.L.rts.length:=by
  have:=lock_lt hl;rw[h.S.i2.ll,h.S.l2] at this;exact this
 obtain⟨e1,e2,e3,e4⟩:=s2_line h.S hrl;refine lock_sub (C:=C) (C':=C.s2 f) h.S.l2 ?_ hl;have:=step_sub (C:=(C.s1 f).stepN f r) f r r;rw[<-e1,e2] at this;exact this
theorem Cyc.tr2 {L:Lay} {C:RBx} {W V:Wd} {f:Fr} (h:Cyc L C W f V):Trs L (C.s2 f) W (fun _=>false):=by
 have hT:=h.P.tr;refine⟨fun r hr=>?_,fun t ht hn=>?_,hT.gn,hT.dl,hT.hb,fun r s t hl ht ho=>?_,hT.po⟩
 ·rcases h.s2 r with ⟨a,b⟩ | ⟨a,b⟩
  ·rw[b] at hr; exact absurd a hr
  ·obtain⟨c1,c2⟩:=b.tr hr
   rw[h.sta2,c1];exact c2
 ·by_cases hx:∀r,(C.line r).ph≠46->(C.line r).train≠t
  ·rw[h.sta2]; exact hT.no t ht hx
  ·have:∃r,(C.line r).ph≠46/\(C.line r).train=t:=by
    apply Classical.byContradiction;intro hc;exact hx (fun r hr e=>hc ⟨r,hr,e⟩)
   obtain⟨r,hr,e⟩:=this;rcases h.s2 r with ⟨a,b⟩ | ⟨a,b⟩
   ·exact absurd a hr
   ·by_cases hy:((C.s2 f).line r).ph=46
    ·rw[h.sta2]
     rw[e] at b;rcases b with b | b | b | b
     ·have:=b.2.1.1; omega
     ·have:=b.2.1.2.ph; omega
     ·exact⟨b.1.es,b.1.h⟩
     ·have:=b.2.1.ph; omega
    ·exact absurd ((b.tr hy).1.trans e) (hn r hy)
 ·have hc:=h.sub2 hl
  have:=hT.A r s t hc ht ho;rw[this];have hp:=(lock_ix h.P.eL hc).1;have hp2:((C.s2 f).line r).ph≠46:=(lock_ix (h.S.l2.trans h.P.eL) hl).1;rcases h.s2 r with ⟨a,b⟩ | ⟨a,b⟩
  ·exact absurd a hp
  ·exact(b.tr hp2).1.symm
theorem ask_keep (C:RBx) (t:Nat):(C.ask t).lines=C.lines/\(C.ask t).failed=C.failed/\(C.ask t).wanted=C.wanted/\(C.ask t).late=C.late/\(C.ask t).sta=C.sta/\(C.ask t).L=C.L:=by
 unfold RBx.ask;split <;> exact⟨rfl,rfl,rfl,rfl,rfl,rfl⟩
theorem doN_ask (C:RBx) (f:Fr):∀k,(∀j,j < k->pk f.cmds (2*j)=114)->(C.doN f k).lines=C.lines/\(C.doN f k).failed=C.failed/\(C.doN f k).wanted=C.wanted/\(C.doN f k).late=C.late/\(C.doN f k).sta=C.sta/\(C.doN f k).L=C.L
 | 0,_=>⟨rfl,rfl,rfl,rfl,rfl,rfl⟩
 | k+1,h=>by
  obtain⟨a1,a2,a3,a4,a5,a6⟩:=doN_ask C f k (fun j hj=>h j (by omega));have e:C.doN f (k+1)=(C.doN f k).ask (pk f.cmds (2*k+1) - 49):=by
   show (C.doN f k).doC f (pk f.cmds (2*k)) (pk f.cmds (2*k+1))=_;unfold RBx.doC;rw[if_pos (h k (by omega))]
  obtain⟨b1,b2,b3,b4,b5,b6⟩:=ask_keep (C.doN f k) (pk f.cmds (2*k+1) - 49);rw[e];exact⟨b1.trans a1,b2.trans a2,b3.trans a3,b4.trans a4,b5.trans a5,b6.trans a6⟩
theorem Trs.box {L:Lay} {C C':RBx} {W:Wd} {e:Nat->Bool} (h:Trs L C W e) (h1:C'.lines=C.lines) (h2:C'.sta=C.sta) (h3:C'.L=C.L):Trs L C' W e:=by
 have hl:∀r,C'.line r=C.line r:=fun r=>by unfold RBx.line; rw[h1]
 have hk:∀s r,C'.lockB s r=C.lockB s r:=fun s r=>by unfold RBx.lockB; rw[hl,h3]
 refine⟨fun r hr=>?_,fun t ht hn=>?_,h.gn,h.dl,h.hb,fun r s t hx ht ho=>?_,h.po⟩
 ·rw[hl] at hr ⊢
  rw[h2];exact h.ln r hr
 ·rw[h2]
  exact h.no t ht (fun r hr=>by have:=hn r; rw[hl] at this; exact this hr)
 ·rw[hl]
  exact h.A r s t (by rw[<-hk]; exact hx) ht ho
structure GI (L:Lay) (G:RBx) (W V:Wd):Prop where
 tr:Trs L G W (fun _=>false)
 sw:∀x,L.sw.getD x false=true->Settled G V x\/Moving L G V x\/Pend L G V x
 li:Lies L G V
 eL:G.L=L
theorem Cyc.s3k {L:Lay} {C:RBx} {W V:Wd} {f:Fr} (h:Cyc L C W f V):(C.s3 f).lines=(C.s2 f).lines/\(C.s3 f).failed=(C.s1 f).failed/\(C.s3 f).wanted=C.wanted/\(C.s3 f).late=(C.s1 f).late/\(C.s3 f).sta=(C.s2 f).sta/\(C.s3 f).L=L:=by
 obtain⟨a1,a2,a3,a4,a5,a6⟩:=doN_ask (C.s2 f) f (f.cmds.size / 2) h.cm;obtain⟨b1,b2,b3,b4,b5⟩:=z27 (C.s1 f) f (C.s1 f).lines.length;have w1:(C.s1 f).wanted=C.wanted:=(z0l C f C.L.sw.length).1;exact⟨a1,a2.trans b3,a3.trans (b1.trans w1),a4.trans b4,a5,h.S.l3.trans h.P.eL⟩
theorem Cyc.line3 {L:Lay} {C:RBx} {W V:Wd} {f:Fr} (h:Cyc L C W f V) (r:Nat):(C.s3 f).line r=(C.s2 f).line r:=by unfold RBx.line; rw[h.s3k.1]
theorem right_rep {C:RBx} {f:Fr} {r x:Nat} (h:C.right f r=true) (hx:x < C.L.sw.length) (hw:C.L.wantsF r x≠0):f.rep.getD x 0=C.L.wantsF r x:=by
 unfold RBx.right at h;rw[List.all_eq_true] at h;have:=h x (List.mem_range.2 hx);unfold RBx.rightB at this;simp only[Bool.or_eq_true,beq_iff_eq] at this;omega
theorem Cyc.green {L:Lay} {C:RBx} {W V:Wd} {f:Fr} (h:Cyc L C W f V) {r x:Nat} (hg:((C.s2 f).line r).ph=103) (hw:L.wantsF r x≠0):f.rep.getD x 0=L.wantsF r x/\L.sw.getD x false=true:=by
 have eL:=h.P.eL;have hrl:r < C.L.rts.length:=by
  have:=z14 (C:=C.s2 f) (r:=r) (by omega);rw[h.S.i2.ll,h.S.l2] at this;exact this
 obtain⟨e1,e2,e3,e4⟩:=s2_line h.S hrl;rw[e1] at hg;have hr:=(step_green f e4 hg).1;rw[right_L e3] at hr;have hs:=want_sw h.T (by rw[<-eL]; exact hrl) hw;refine⟨?_,hs⟩;have:=right_rep hr (x:=x) (by rw[eL]; exact sw_lt hs) (by rw[eL]; exact hw);rw[eL] at this;exact this
theorem Cyc.gi0 {L:Lay} {C:RBx} {W V:Wd} {f:Fr} (h:Cyc L C W f V):GI L (C.s3 f) W V:=by
 obtain⟨k1,k2,k3,k4,k5,k6⟩:=h.s3k;have eL:=h.P.eL;have hsg:=wantsF_ok h.T.sg;refine⟨h.tr2.box k1 k5 (k6.trans (h.S.l2.trans eL).symm),fun x hx=>?_,fun r x hw hp=>?_,k6⟩
 ·obtain⟨a1,a2⟩:=h.sw1 hx
  have hl:=(h.late x (sw_lt hx)).1;rw[if_neg (by omega)] at hl;rcases a2 with ⟨b1,b2,b3⟩ | ⟨b1,b2,b3,r,b4,b5⟩
  ·exact .inl ⟨b1,by rw[k3]; exact b2,by rw[k4,hl]; exact b3⟩
  ·refine .inr (.inl ⟨by rw[k3]; exact b1,by rw[k4,hl]; exact b2,r,?_,b5⟩)
   rw[h.line3];rcases h.s2 r with ⟨c1,-⟩ | ⟨-,c2⟩
   ·omega
   ·rcases c2 with c2 | c2 | c2 | c2
    ·rcases c2.2.1.1 with e | e
     ·exact e
     ·exfalso
      have:=(h.green e b5).1;have:=hsg r x;omega
    ·rcases c2.1 with c3 | c3
     ·have:=c3.1; omega
     ·have:=c3.2.ph; omega
    ·have:=c2.1.ph; omega
    ·have:=c2.1.ph; omega
 ·rw[h.line3] at hp
  have hwt:WtOK (C.s2 f):=by
   unfold RBx.s2;refine WtOK.stepN ?_ f _;have w1:=z0l C f C.L.sw.length;have hl1:∀r,(C.s1 f).line r=C.line r:=fun r=>by unfold RBx.line; exact congrArg (fun l=>l.getD r RLn0) w1.2.2.1
   exact h.P.wt.sub w1.1 w1.2.1 (fun r hr=>by rw[hl1] at hr; exact hr)
  have hw2:(C.s2 f).wanted=C.wanted:=(z27 (C.s1 f) f (C.s1 f).lines.length).1.trans (z0l C f C.L.sw.length).1;rcases hp with hp | ⟨hp,hlk⟩
  ·obtain⟨g1,g2⟩:=h.green hp hw
   obtain⟨t1,t2,t3⟩:=h.tk x g2;have hr:=h.rp x g2;have hwt2:=hwt r (.inr hp) x (by rw[h.S.l2,eL]; exact hw);rw[h.S.l2,eL,hw2] at hwt2;rcases rp_aim W x with ⟨p1,p2⟩ | ⟨-,-,-,p4⟩
   ·exact⟨by rw[t1,p1],by rw[t2,<-p2,<-hr,g1],by rw[k3]; exact hwt2⟩
   ·exfalso
    have:=hsg r x;omega
  ·have hlk2:(C.s2 f).lockB x r=true:=by
    unfold RBx.lockB at hlk ⊢;rw[h.line3,k6] at hlk;rw[h.S.l2,eL];exact hlk
   have hlC:=h.sub2 hlk2;have hCp:(C.line r).ph=103\/(C.line r).ph=116:=by
    rcases h.s2 r with ⟨c1,c2⟩ | ⟨-,c2⟩
    ·rw[c2] at hp; omega
    ·rcases c2 with c2 | c2 | c2 | c2
     ·have:=c2.2.1.1; omega
     ·rcases c2.1 with c3 | c3
      ·exact .inl c3.1
      ·exact .inr c3.2.ph
     ·exact .inr c2.1.ph
     ·exact .inr c2.1.ph
   have hL:=h.P.li r x hw (by
    rcases hCp with e | e
    ·exact .inl e
    ·exact .inr ⟨e,hlC⟩)
   have hs:=want_sw h.T (h.rt (by omega)) hw;obtain⟨t1,t2,t3⟩:=h.tk x hs;refine⟨?_,?_,by rw[k3]; exact hL.2.2⟩
   ·rw[t1]; unfold tkA; rw[if_neg (by omega)]
   ·rw[t2]; unfold tkL; rw[if_neg (by omega),if_neg (by omega)]; exact hL.2.1
theorem grant_at {G:RBx} {f:Fr} {t:Nat} (hg:G.grantB f t=true) (hn:G.nxt t < G.lines.length) (r:Nat):(G.grant f t).line r=if r=G.nxt t then RLnW t else G.line r:=by
 unfold RBx.grant;rw[if_pos hg];unfold RBx.line;rw[z3h,z0d _ _ _ _ _ hn]
theorem set_no {G:RBx} {t:Nat} (h:G.isSet t=false) (r:Nat) (hp:(G.line r).ph≠46):(G.line r).train≠t:=by
 unfold RBx.isSet at h;rw[List.any_eq_false] at h;have:=h r (List.mem_range.2 (z14 hp));unfold RBx.setB at this;simp only[Bool.and_eq_true,bne_iff_ne,beq_iff_eq,not_and] at this;exact this hp
theorem GI.grant {L:Lay} {G:RBx} {W V:Wd} {f:Fr} {t:Nat} {q:List Nat} (hT:LayT L) (h:GI L G W V) (hi:Inv { G with waits:=q }) (hoc:∀x,x < L.sw.length->f.occ.getD x false=W.takenB L x) (hs:SameT W V) (ht:t < L.tns.length) (hj:G.sta.getD t 0 < (L.tn t).jny.length):GI L (G.grant f t) W V:=by
 have eL:=h.eL;by_cases hg:G.grantB f t=true
 case neg=>
  have e:G.grant f t=G:=by unfold RBx.grant; rw[if_neg hg]
  rw[e]; exact h
 have hll:G.lines.length=L.rts.length:=by have:=hi.ll; rw[<-eL]; exact this
 have hst:G.sta.length=L.tns.length:=by have:=hi.st; rw[<-eL]; exact this
 have hne:G.nxt t=(L.tn t).jny.getD (G.sta.getD t 0) 0:=by unfold RBx.nxt; rw[eL]
 have hnl:G.nxt t < L.rts.length:=by rw[hne]; exact hT.jr t ht _ hj
 have hln:=grant_at hg (by rw[hll]; exact hnl);have hfree:=z4g hg;have hse:G.isSet t=false:=by
  unfold RBx.grantB at hg;simp only[Bool.and_eq_true,Bool.not_eq_true'] at hg;exact hg.1.1
 have hidle:(G.line (G.nxt t)).ph=46:=by
  apply Classical.byContradiction;intro hp;obtain⟨x,hx1,hx2,hx3⟩:=set_lock hi (r:=G.nxt t) (by show G.nxt t < G.L.rts.length; rw[eL]; exact hnl) hp;have hno:=z3j (z4v hfree hx1 hx2).1 (G.nxt t);have hyes:G.lockB x (G.nxt t)=true:=hx3;rw[hyes] at hno;cases hno
 have hsta:∀u,(G.grant f t).sta.getD u 0=if u=t then G.sta.getD t 0+1 else G.sta.getD u 0:=fun u=>by
  rw[z4w hg];unfold RBx.more;rw[z0d _ _ _ _ _ (by rw[hst]; exact ht)]
 have hwan:=fun x=>z59 (by have:=hi.wl; exact this) hg x;have hfl:=grant_fl G f t;have eL':(G.grant f t).L=L:=(grant_L G f t).trans eL;obtain⟨n1,n2⟩:=h.tr.no t ht (set_no hse);have hlo:∀s r,r≠G.nxt t->(G.grant f t).lockB s r=G.lockB s r:=fun s r hr=>by
  unfold RBx.lockB;rw[hln,if_neg hr,eL',eL]
 have h119:∀r,(G.line r).ph≠46->(G.grant f t).line r=G.line r:=fun r hr=>by
  rw[hln,if_neg (fun e=>hr (by rw[e]; exact hidle))]
 have hgo:∀r,r < G.L.rts.length->(G.line r).ph≠116->(G.line r).gone=0:=fun r hr hp=>(hi.li r hr).g0 hp;have hheld:∀{r x},WtP (G.line r).ph->L.wantsF r x≠0->G.heldB x=true:=fun {r x} hp hw=>held_of hgo hi.ll hp (by rw[eL]; exact hw)
 have hwc:∀x,(G.grant f t).wanted.getD x 0=G.wanted.getD x 0\/(G.heldB x=false/\f.occ.getD x false=false/\x < L.sw.length/\L.wantsF (G.nxt t) x≠0):=fun x=>by
  rw[hwan x];by_cases hc:x < G.L.sw.length/\G.L.wantsF (G.nxt t) x≠0
  ·rw[if_pos hc]
   rcases free_want hfree hc.1 hc.2 with e | ⟨e1,e2⟩
   ·exact .inl e.symm
   ·exact .inr ⟨e1,e2,by rw[<-eL]; exact hc.1,by rw[<-eL]; exact hc.2⟩
  ·rw[if_neg hc]; exact .inl rfl
 refine⟨⟨fun r hr=>?_,fun u hu hn=>?_,h.tr.gn,h.tr.dl,h.tr.hb,fun r s u hl hu ho=>?_,h.tr.po⟩,fun x hx=>?_,fun r x hw hp=>?_,eL'⟩
 ·by_cases e:r=G.nxt t
  ·rw[hln r,if_pos e]
   show TrL L W ((G.grant f t).sta.getD t 0) t r (RLnW t) _;rw[hsta,if_pos rfl];refine .inl ⟨.inl rfl,⟨by omega,by omega,?_⟩,n2⟩;unfold Wd.rt;rw[<-n1,e,hne]
  ·rw[hln r,if_neg e] at hr ⊢
   rw[hsta,if_neg (set_no hse r hr)];exact h.tr.ln r hr
 ·have hut:u≠t:=fun e=>by
   have:=hn (G.nxt t) (by rw[hln,if_pos rfl]; show (119:Nat)≠46; decide);rw[hln,if_pos rfl] at this;exact this e.symm
  rw[hsta,if_neg hut];exact h.tr.no u hu (fun r hr=>by
   have:=hn r;rw[h119 r hr] at this;exact this hr)
 ·by_cases e:r=G.nxt t
  ·exfalso
   obtain⟨-,i,h1,h2,h3⟩:=lock_ix eL' hl;rw[e] at h2 h3;have hm:s∈secs (G.L.rt (G.nxt t)).path:=by rw[<-h3,eL]; exact psec_mem h2
   have hsl:s < L.sw.length:=by rw[<-h3]; exact psec_lt hT hnl h2
   have:=(z4v hfree (s:=s) (by rw[eL]; exact hsl) hm).2;rw[hoc s hsl] at this;have h5:W.takenB L s=true:=z28.2 ⟨u,hu,ho⟩;rw[h5] at this;cases this
  ·rw[hlo s r e] at hl
   rw[hln,if_neg e];exact h.tr.A r s u hl hu ho
 ·have hla:(G.grant f t).late.getD x 0=G.late.getD x 0:=by rw[hfl.2]
  have mv:∀r,(G.line r).ph=119->((G.grant f t).line r).ph=119:=fun r hr=>by rw[h119 r (by omega)]; exact hr
  rcases hwc x with hsame | ⟨c1,c2,c3,c4⟩
  ·rcases h.sw x hx with ⟨a1,a2,a3⟩ | ⟨a1,a2,r,a3,a4⟩ | ⟨a1,a2,⟨r,a3,a4⟩,a5⟩
   ·exact .inl ⟨a1,by rw[hsame]; exact a2,by rw[hla]; exact a3⟩
   ·exact .inr (.inl ⟨by rw[hsame]; exact a1,by rw[hla]; exact a2,r,mv r a3,a4⟩)
   ·exact .inr (.inr ⟨a1,by rw[hla]; exact a2,⟨r,mv r a3,a4⟩,a5⟩)
  ·right; right
   rcases h.sw x hx with ⟨a1,a2,a3⟩ | ⟨a1,a2,r,a3,a4⟩ | ⟨a1,a2,⟨r,a3,a4⟩,a5⟩
   ·refine⟨a1,by rw[hla]; exact a3,⟨G.nxt t,by rw[hln,if_pos rfl]; rfl,c4⟩,?_⟩
    rw[hs.taken,<-hoc x c3]; exact c2
   ·rw[hheld (.inl a3) a4] at c1; cases c1
   ·rw[hheld (.inl a3) a4] at c1; cases c1
 ·have hrn:r≠G.nxt t:=fun e=>by
   rw[hln,if_pos e] at hp;rcases hp with hp | ⟨hp,-⟩ <;> cases hp
  rw[hln,if_neg hrn,hlo x r hrn] at hp;obtain⟨a1,a2,a3⟩:=h.li r x hw hp;refine⟨a1,a2,?_⟩;rcases hwc x with hsame | ⟨c1,-⟩
  ·rw[hsame]; exact a3
  ·exfalso
   rcases hp with hp | ⟨-,hp⟩
   ·rw[hheld (.inr hp) hw] at c1; cases c1
   ·have hls:(G.lockedBy x).isSome=true:=by
     cases hc:G.lockedBy x with
     | some _=>rfl
     | none=>have:=z3j hc r; rw[hp] at this; cases this
    unfold RBx.heldB at c1;rw[hls,Bool.true_or] at c1;cases c1
theorem Cyc.giN {L:Lay} {C:RBx} {W V:Wd} {f:Fr} (h:Cyc L C W f V):∀k,k<=(C.s3 f).waits.length->GI L ((C.s3 f).grantN f k) W V
 | 0,_=>h.gi0
 | k+1,hk=>by
  have ih:=h.giN k (by omega);have hi:=h.S.g k (by omega);have hm:(C.s3 f).waits.getD k 0∈(C.s3 f).leftN f k++(C.s3 f).waits.drop k:=by
   rw[z05 (by omega)];exact List.mem_append_right _ (by rw[List.mem_iff_getElem]; exact⟨0,by rw[List.length_drop]; omega,by rw[List.getElem_drop]; simp⟩)
  obtain⟨w1,w2⟩:=hi.wt _ hm;have eLk:((C.s3 f).grantN f k).L=L:=ih.eL;show GI L (((C.s3 f).grantN f k).grant f ((C.s3 f).waits.getD k 0)) W V;refine ih.grant h.T hi h.oc h.st ?_ ?_
  ·have w1':(C.s3 f).waits.getD k 0 < ((C.s3 f).grantN f k).L.tns.length:=w1
   rw[eLk] at w1'; exact w1'
  ·have w2':((C.s3 f).grantN f k).sta.getD ((C.s3 f).waits.getD k 0) 0 < (((C.s3 f).grantN f k).L.tn ((C.s3 f).waits.getD k 0)).jny.length:=w2
   rw[eLk] at w2'; exact w2'
theorem Cyc.gi4 {L:Lay} {C:RBx} {W V:Wd} {f:Fr} (h:Cyc L C W f V):GI L (C.s4 f) W V:=by
 have g:=h.giN _ (Nat.le_refl _);exact⟨g.tr.box rfl rfl rfl,g.sw,g.li,g.eL⟩
theorem turn1_len {L:Lay} {W:Wd} (h:SwLen L W) (x m slow:Nat):SwLen L (W.turn1 x m slow):=by
 unfold Wd.turn1;split
 ·exact h
 ·exact⟨h.l,by simp[h.a],by simp[h.f]⟩
theorem turnN_len {L:Lay} {W:Wd} (h:SwLen L W) (mv:ByteArray) (slow:Nat):∀k,SwLen L (W.turnN L mv slow k)
 | 0=>h
 | k+1=>turn1_len (turnN_len h mv slow k) _ _ _
def TurnAt (W V:Wd) (x m slow:Nat):Prop:=V.lie.getD x 0=W.lie.getD x 0/\(((m=46\/m=W.aim.getD x 0)/\V.aim.getD x 0=W.aim.getD x 0/\V.left.getD x 0=W.left.getD x 0)\/(¬(m=46\/m=W.aim.getD x 0)/\V.aim.getD x 0=m/\V.left.getD x 0=slow))
theorem turn1_at {L:Lay} {W:Wd} (h:SwLen L W) {x:Nat} (hx:x < L.sw.length) (m slow:Nat):TurnAt W (W.turn1 x m slow) x m slow:=by
 unfold Wd.turn1 TurnAt;by_cases c:m=46\/m=W.aim.getD x 0
 ·rw[if_pos c]
  exact⟨rfl,.inl ⟨c,rfl,rfl⟩⟩
 ·rw[if_neg c]
  refine⟨rfl,.inr ⟨c,?_,?_⟩⟩
  ·show (W.aim.set x m).getD x 0=_
   rw[z0d _ _ _ _ _ (by rw[h.a]; exact hx),if_pos rfl]
  ·show (W.left.set x slow).getD x 0=_
   rw[z0d _ _ _ _ _ (by rw[h.f]; exact hx),if_pos rfl]
theorem turn1_oth (W:Wd) {x y:Nat} (m slow:Nat) (hx:x≠y):SameAt W (W.turn1 y m slow) x:=by
 unfold Wd.turn1 SameAt;split
 ·exact⟨rfl,rfl,rfl⟩
 ·exact⟨z0h _ _ _ _ _ hx,rfl,z0h _ _ _ _ _ hx⟩
theorem turnN_at {L:Lay} {W:Wd} (h:SwLen L W) (mv:ByteArray) (slow x:Nat):∀k,k<=(z03 0 L.sw).length->((∀j (hj:j < (z03 0 L.sw).length),j < k->(z03 0 L.sw)[j]≠x)->SameAt W (W.turnN L mv slow k) x)/\∀j (hj:j < (z03 0 L.sw).length),j < k->(z03 0 L.sw)[j]=x->TurnAt W (W.turnN L mv slow k) x (pk mv j) slow
 | 0,_=>⟨fun _=>⟨rfl,rfl,rfl⟩,fun j _ hj=>absurd hj (Nat.not_lt_zero _)⟩
 | k+1,hk=>by
  obtain⟨i1,i2⟩:=turnN_at h mv slow x k (by omega);have hkl:k < (z03 0 L.sw).length:=hk;have e:W.turnN L mv slow (k+1)=(W.turnN L mv slow k).turn1 (z03 0 L.sw)[k] (pk mv k) slow:=by
   show (W.turnN L mv slow k).turn1 ((z03 0 L.sw).getD k 0) (pk mv k) slow=_;rw[z05 hkl]
  rw[e];refine⟨fun hn=>?_,fun j hj hjk ej=>?_⟩
  ·obtain⟨a1,a2,a3⟩:=i1 (fun j hj hjk=>hn j hj (by omega))
   obtain⟨b1,b2,b3⟩:=turn1_oth (W.turnN L mv slow k) (x:=x) (pk mv k) slow (fun ee=>hn k hkl (by omega) ee.symm);exact⟨b1.trans a1,b2.trans a2,b3.trans a3⟩
  ·by_cases hjk2:j=k
   ·subst hjk2
    subst ej;obtain⟨a1,a2,a3⟩:=i1 (fun i hi hik ee=>by have:=pts_inj hi hj ee; omega);have hb:=turn1_at (turnN_len h mv slow j) (x:=(z03 0 L.sw)[j]) (by have:=(pts_get L.sw 0 j hj).2.1; omega) (pk mv j) slow;unfold TurnAt at hb ⊢;rw[a1,a2,a3] at hb;exact hb
   ·have hi:=i2 j hj (by omega) ej
    obtain⟨b1,b2,b3⟩:=turn1_oth (W.turnN L mv slow k) (x:=x) (y:=(z03 0 L.sw)[k]) (pk mv k) slow (fun ee=>hjk2 (pts_inj hj hkl (ej.trans ee)));unfold TurnAt at hi ⊢;rw[b1,b2,b3];exact hi
structure Mid (L:Lay) (C4:RBx) (Wt:Wd):Prop where
 tr:Trs L C4 Wt (fun _=>false)
 sl:SwLen L Wt
 sv:SwVal L Wt
 sw:∀x,L.sw.getD x false=true->Settled C4 Wt x\/Moving L C4 Wt x
 li:Lies L C4 Wt
 lb:∀x,Wt.left.getD x 0<=9
theorem move_no {C:RBx} {f:Fr} {x:Nat} (h:f.rep.getD x 0=C.wanted.getD x 0):C.moveF f x=46:=by
 unfold RBx.moveF;rw[if_neg];intro hc;obtain⟨r,-,hr⟩:=List.any_eq_true.1 hc;unfold RBx.moveB at hr;rw[h] at hr;simp at hr
theorem move_or (C:RBx) (f:Fr) (x:Nat):C.moveF f x=46\/(C.moveF f x=C.wanted.getD x 0/\f.occ.getD x false=false):=by
 unfold RBx.moveF;by_cases h:(List.range C.lines.length).any (C.moveB f x)=true
 ·rw[if_pos h]
  obtain⟨r,-,hr⟩:=List.any_eq_true.1 h;unfold RBx.moveB at hr;simp only[Bool.and_eq_true,Bool.not_eq_true'] at hr;exact .inr ⟨rfl,hr.1.1.2⟩
 ·rw[if_neg h]; exact .inl rfl
theorem move_yes {C:RBx} {f:Fr} {x r:Nat} (h1:(C.line r).ph=119) (h2:C.L.wantsF r x≠0) (h3:f.occ.getD x false=false) (h4:C.failed.getD x false=false) (h5:f.rep.getD x 0≠C.wanted.getD x 0):C.moveF f x=C.wanted.getD x 0:=by
 unfold RBx.moveF;rw[if_pos];rw[List.any_eq_true];refine⟨r,List.mem_range.2 (z14 (by omega)),?_⟩;unfold RBx.moveB;rw[h1,h3,h4]
 simpa using ⟨h2,h5⟩
theorem Cyc.mid {L:Lay} {C:RBx} {W V Wt:Wd} {f:Fr} {slow:Nat} (h:Cyc L C W f V) (hsl:slow < L.T) (hT9:L.T<=9) (hlb:∀x,V.left.getD x 0<=9) (hs:SameT V Wt) (hlW:SwLen L Wt) (hwo:WantOK (C.s4 f))
  (htu:∀x,L.sw.getD x false=true->TurnAt V Wt x ((C.s4 f).moveF f x) slow) (hno:∀x,L.sw.getD x false=false->Wt.left.getD x 0=V.left.getD x 0):Mid L (C.s4 f) Wt:=by
 have g:=h.gi4;have eL:=g.eL;have hnf:∀x,(C.s4 f).failed.getD x false=false:=fun x=>by
  rw[(s4_late C f).2.1,h.s3k.2.1]; exact h.nf1 x
 have hwoL:∀x,L.sw.getD x false=true->(C.s4 f).wanted.getD x 0=43\/(C.s4 f).wanted.getD x 0=45:=fun x hx=>hwo x (by rw[eL]; exact hx);have hrep:∀x,L.sw.getD x false=true->(V.aim.getD x 0=0->f.rep.getD x 0=V.lie.getD x 0):=fun x hx h0=>by
  obtain⟨t1,t2,t3⟩:=h.tk x hx;rw[h.rp x hx];rcases rp_aim W x with ⟨p1,p2⟩ | ⟨p1,p2,-,-⟩
  ·rw[p2,t2]
  ·exfalso; rw[t1,p1] at h0; exact p2 h0
 have hsv:SwVal L V:=by
  refine⟨fun x hx=>?_,fun x hx=>?_⟩
  ·rw[(h.tk x hx).2.1]
   have h1:=h.P.sv.lie x hx;have h2:=h.P.sv.aim x hx;unfold tkL;split
   ·exact h1
   ·split
    ·omega
    ·exact h1
  ·rw[(h.tk x hx).1]
   have h2:=h.P.sv.aim x hx;unfold tkA;split
   ·exact h2
   ·exact .inl rfl
 have hkeep:∀x,L.sw.getD x false=true->V.aim.getD x 0=0->V.lie.getD x 0=(C.s4 f).wanted.getD x 0->Wt.aim.getD x 0=0/\Wt.lie.getD x 0=V.lie.getD x 0:=fun x hx h0 h1=>by
  have hm:=move_no (C:=C.s4 f) (f:=f) (x:=x) (by rw[hrep x hx h0,h1]);obtain⟨a,b⟩:=htu x hx;rw[hm] at b;rcases b with ⟨-,b1,-⟩ | ⟨b0,-⟩
  ·exact⟨by rw[b1]; exact h0,a⟩
  ·exact absurd (.inl rfl) b0
 have hsw:∀x,L.sw.getD x false=true->Settled (C.s4 f) Wt x\/Moving L (C.s4 f) Wt x:=fun x hx=>by
  obtain⟨a,b⟩:=htu x hx;have hw:=hwoL x hx;rcases g.sw x hx with ⟨a1,a2,a3⟩ | ⟨a1,a2,r,a3,a4⟩ | ⟨a1,a2,⟨r,a3,a4⟩,a5⟩
  ·obtain⟨k1,k2⟩:=hkeep x hx a1 a2
   exact .inl ⟨k1,by rw[k2]; exact a2,a3⟩
  ·right
   rcases b with ⟨-,b1,b2⟩ | ⟨b0,-⟩
   ·exact⟨by rw[b1]; exact a1,by rw[b2]; exact a2,r,a3,a4⟩
   ·exfalso
    rcases move_or (C.s4 f) f x with e | ⟨e,-⟩
    ·exact b0 (.inl e)
    ·exact b0 (.inr (by rw[e,a1]))
  ·by_cases hl:V.lie.getD x 0=(C.s4 f).wanted.getD x 0
   ·obtain⟨k1,k2⟩:=hkeep x hx a1 hl
    exact .inl ⟨k1,by rw[k2]; exact hl,a2⟩
   ·right
    have hm:=move_yes (C:=C.s4 f) (f:=f) (x:=x) (r:=r) a3 (by rw[eL]; exact a4) (by rw[h.oc x (sw_lt hx),<-h.st.taken]; exact a5) (hnf x) (by rw[hrep x hx a1]; exact hl);rw[hm] at b;rcases b with ⟨b0,-⟩ | ⟨-,b1,b2⟩
    ·omega
    ·exact⟨b1,by rw[b2,a2]; omega,r,a3,a4⟩
 refine⟨(g.tr.sameT h.st).sameT hs,hlW,⟨fun x hx=>?_,fun x hx=>?_⟩,hsw,fun r x hw hp=>?_,fun x=>?_⟩
 ·rw[(htu x hx).1]; exact hsv.lie x hx
 ·have:=hwoL x hx
  rcases hsw x hx with e | e
  ·exact .inl e.1
  ·have:=e.1; omega
 ·obtain⟨a1,a2,a3⟩:=g.li r x hw hp
  have hr:r < L.rts.length:=by
   have hp':((C.s4 f).line r).ph≠46:=by rcases hp with hp | ⟨hp,-⟩ <;> omega
   have:=z14 hp';rw[h.S.i4.ll,eL] at this;exact this
  have hx:=want_sw h.T hr hw;obtain⟨k1,k2⟩:=hkeep x hx a1 (by rw[a2,a3]);exact⟨k1,by rw[k2]; exact a2,a3⟩
 ·by_cases hx:L.sw.getD x false=true
  ·rcases (htu x hx).2 with ⟨-,-,b⟩ | ⟨-,-,b⟩
   ·rw[b]; exact hlb x
   ·rw[b]; omega
  ·rw[hno x (by simpa using hx)]; exact hlb x
def SameU (W V:Wd) (u:Nat):Prop:=V.done.getD u 0=W.done.getD u 0/\V.head.getD u 0=W.head.getD u 0/\V.tail.getD u 0=W.tail.getD u 0/\V.gone.getD u false=W.gone.getD u false
theorem SameU.on {W V:Wd} {u:Nat} (h:SameU W V u) (L:Lay) (s:Nat):V.onB L u s=W.onB L u s:=by
 obtain⟨a,b,c,d⟩:=h;unfold Wd.onB Wd.place Wd.stand Wd.rt;rw[a,b,c,d]
theorem Trs.upd {L:Lay} {C:RBx} {W V:Wd} {e:Nat->Bool} {t:Nat} (h:Trs L C W e) (hU:LockU C) (ho:∀u,u≠t->SameU W V u)
  (hln:∀r,(C.line r).ph≠46->(C.line r).train=t->TrL L V (C.sta.getD t 0) t r (C.line r) true) (hno:(∀r,(C.line r).ph≠46->(C.line r).train≠t)->C.sta.getD t 0=V.done.getD t 0/\V.head.getD t 0 < 0)
  (hgn:V.gone.getD t false=true->(L.tn t).jny.length<=V.done.getD t 0) (hdl:V.done.getD t 0<=(L.tn t).jny.length) (hhb:-1<=V.head.getD t 0) (hgr:∀s,V.onB L t s=true->W.onB L t s=true\/∃r,C.lockB s r=true/\(C.line r).train=t) (ht:t < L.tns.length) :
  Trs L C V (fun u=>if u=t then true else e u):=by
 have key:∀u s,u < L.tns.length->V.onB L u s=true->W.onB L u s=true\/(u=t/\∃r,C.lockB s r=true/\(C.line r).train=t):=fun u s _ hs=>by
  by_cases hu:u=t
  ·subst hu
   rcases hgr s hs with a | a
   ·exact .inl a
   ·exact .inr ⟨rfl,a⟩
  ·rw[(ho u hu).on] at hs; exact .inl hs
 refine⟨fun r hr=>?_,fun u hu hn=>?_,fun u hu hg=>?_,fun u hu=>?_,fun u hu=>?_,fun r s u hl hu hs=>?_,fun u v s hu hv h1 h2=>?_⟩
 ·by_cases hrt:(C.line r).train=t
  ·rw[hrt]
   rw[if_pos rfl];exact hln r hr hrt
  ·simp only[if_neg hrt]
   obtain⟨a,b,c,-⟩:=ho _ hrt;exact(h.ln r hr).congr a b c
 ·by_cases hut:u=t
  ·subst hut; exact hno hn
  ·obtain⟨a,b,-⟩:=ho u hut
   rw[a,b]; exact h.no u hu hn
 ·by_cases hut:u=t
  ·subst hut; exact hgn hg
  ·obtain⟨a,-,-,d⟩:=ho u hut
   rw[a]; exact h.gn u hu (by rw[<-d]; exact hg)
 ·by_cases hut:u=t
  ·subst hut; exact hdl
  ·rw[(ho u hut).1]; exact h.dl u hu
 ·by_cases hut:u=t
  ·subst hut; exact hhb
  ·rw[(ho u hut).2.1]; exact h.hb u hu
 ·rcases key u s hu hs with a | ⟨a,q,b,c⟩
  ·exact h.A r s u hl hu a
  ·have:=hU r q s hl b
   subst this;rw[a,c]
 ·rcases key u s hu h1 with a | ⟨a,q,b,c⟩
  ·rcases key v s hv h2 with a' | ⟨a',q',b',c'⟩
   ·exact h.po u v s hu hv a a'
   ·rw[a',<-c']; exact h.A q' s u b' hu a
  ·rcases key v s hv h2 with a' | ⟨a',q',b',c'⟩
   ·rw[a,<-c]; exact(h.A q s v b hv a').symm
   ·rw[a,a']
theorem Trs.has {L:Lay} {C:RBx} {W:Wd} {e:Nat->Bool} (h:Trs L C W e) {t:Nat} (ht:t < L.tns.length) (h0:0<=W.head.getD t 0):∃r,(C.line r).ph≠46/\(C.line r).train=t:=by
 apply Classical.byContradiction;intro hc;have:=(h.no t ht (fun r hr e=>hc ⟨r,hr,e⟩)).2;omega
theorem Trs.wok {L:Lay} {C:RBx} {W:Wd} {e:Nat->Bool} (hT:LayT L) (h:Trs L C W e) {t:Nat} (ht:t < L.tns.length):WOK L W t:=by
 refine⟨h.dl t ht,h.hb t ht,fun h0=>?_⟩;obtain⟨r,hr,e1⟩:=h.has ht h0;have:=h.ln r hr;rw[e1] at this;rcases this with a | ⟨-,-,a,b,c⟩ | ⟨a,b⟩ | a
 ·have:=a.2.2; omega
 ·have hrl:r < L.rts.length:=by rw[<-a.2.2]; exact hT.jr t ht _ a.2.1
  have:=plen_pos hT hrl;refine⟨a.2.1,?_,by omega,by omega⟩;rw[a.2.2,b]; exact this
 ·have h1:=b.hl
  have h2:=b.h0;have h3:=b.tt;refine⟨a.2.1,?_,by omega,by omega⟩;rw[a.2.2];show (W.head.getD t 0).toNat < plen L r;omega
 ·have:=a.h; omega
theorem want_path {L:Lay} (hT:LayT L) {r i:Nat} (hr:r < L.rts.length) (hi:i < plen L r) (hs:L.sw.getD (psec L r i) false=true):L.wantsF r (psec L r i)≠0:=by
 have hm:=psec_mem hi;unfold secs at hm;obtain⟨y,hy,e⟩:=List.mem_map.1 hm;unfold Lay.wantsF;cases hsg:z1l (L.rt r).path (psec L r i) with
 | none=>
  exfalso;unfold z1l at hsg;rw[Option.map_eq_none_iff,List.find?_eq_none] at hsg;exact hsg y hy (by simpa using e)
 | some v=>
  obtain⟨z,hz,e1,e2⟩:=z41 hsg;have:=((hT.ok r hr).ps z hz).2;rw[e1,hs,e2] at this
  simpa using this.symm
theorem entry_ok {L:Lay} {C:RBx} {W:Wd} {e:Nat->Bool} (hT:LayT L) (eL:C.L=L) (h:Trs L C W e) (hli:Lies L C W) {t r i:Nat} (hp:(C.line r).ph=103\/(C.line r).ph=116) (htr:(C.line r).train=t) (hi:i < plen L r) (hg:(C.line r).gone<=i) (hr:r < L.rts.length) (hrt:W.rt L t=r) (hno:W.onB L t (psec L r i)=false):W.entOK L t i:=by
 have hlk:=lock_iff eL hi (show (C.line r).ph≠46 by omega) hg;unfold Wd.entOK;rw[hrt];refine⟨?_,fun hs=>?_⟩
 ·cases hc:W.takenB L ((secs (L.rt r).path).getD i 0) with
  | false=>rfl
  | true=>
   exfalso;obtain⟨u,hu,ho⟩:=z28.1 hc;have:=h.A r _ u hlk hu ho;rw[htr] at this;subst this;have ho':W.onB L u (psec L r i)=true:=ho;rw[hno] at ho';cases ho'
 ·have:=hli r (psec L r i) (want_path hT hr hi hs) (by
   rcases hp with e | e
   ·exact .inl e
   ·exact .inr ⟨e,hlk⟩)
  exact⟨this.1,this.2.1⟩
structure MoveOK (L:Lay) (C:RBx) (W:Wd) (lm:ByteArray) (t:Nat) (e:Nat->Bool):Prop where
 wk:∀u,u < L.tns.length->WOK L W u
 e1:W.done.getD t 0 < (L.tn t).jny.length->W.head.getD t 0 < 0->pk lm (W.rt L t)=103->({ W with tail:=W.tail.set t (-1) }:Wd).entOK L t 0
 e2:W.done.getD t 0 < (L.tn t).jny.length->0<=W.head.getD t 0->W.tail.getD t 0=W.head.getD t 0->(W.head.getD t 0).toNat+1 < W.plen L t/\W.entOK L t ((W.head.getD t 0).toNat+1)
 tr:Trs L C (W.move L t lm) (fun u=>if u=t then true else e u)
 ot:∀u,u≠t->SameU W (W.move L t lm) u
 gr:∀s,(W.move L t lm).onB L t s=true->W.onB L t s=true\/∃r,C.lockB s r=true/\(C.line r).train=t/\((C.line r).ph=103\/(C.line r).ph=116)
theorem own_lamp {L:Lay} {C:RBx} {W:Wd} {e:Nat->Bool} (hT:LayT L) (hi:Inv C) (eL:C.L=L) (h:Trs L C W e) {t:Nat} (ht:t < L.tns.length) (hd:W.done.getD t 0 < (L.tn t).jny.length) (hh:W.head.getD t 0 < 0) (hl:(C.line (W.rt L t)).ph=103):(C.line (W.rt L t)).train=t:=by
 have hr:W.rt L t < L.rts.length:=hT.jr t ht _ hd;have hp:(C.line (W.rt L t)).ph≠46:=by omega
 have htr:=(hi.tr _ (by rw[eL]; exact hr) hp).1;rw[eL] at htr;have hln:=h.ln _ hp;have hng:W.gone.getD t false=false:=by
  cases hg:W.gone.getD t false with
  | false=>rfl
  | true=>have:=h.gn t ht hg; omega
 have ho:W.onB L t (L.rt (W.rt L t)).foot=true:=by
  rw[z4a];exact⟨hng,.inl ⟨hh,z3k hT ht hd⟩⟩
 have hu:W.onB L (C.line (W.rt L t)).train (L.rt (W.rt L t)).foot=true:=by
  rcases hln with a | ⟨-,-,a,b,c⟩ | ⟨-,a⟩ | a
  ·exact on_stand hT htr (h.notGone htr a.2.1) a.2.1 a.2.2
  ·exact on_foot (h.notGone htr a) a (by omega) c
  ·have:=a.ph; omega
  ·have:=a.ph; omega
 exact h.po _ _ _ htr ht hu ho
theorem move_ok {L:Lay} {C:RBx} {W:Wd} {e:Nat->Bool} {lm:ByteArray} (hT:LayT L) (hi:Inv C) (eL:C.L=L) (hU:LockU C) (h:Trs L C W e) (hli:Lies L C W) (hwl:WLen L W) (hla:∀r,r < L.rts.length->pk lm r=if (C.line r).ph=103 then 103 else 114) {t:Nat} (ht:t < L.tns.length) (het:e t=false):MoveOK L C W lm t e:=by
 have hwk:∀u,u < L.tns.length->WOK L W u:=fun u hu=>h.wok hT hu;have uniq:∀{r q},(C.line r).ph≠46->(C.line q).ph≠46->(C.line r).train=t->(C.line q).train=t->r=q:=fun {r q} h1 h2 h3 h4=>by
  refine hi.one r q ?_ ?_ h1 h2 (h3.trans h4.symm)
  ·rw[<-hi.ll]; exact z14 h1
  ·rw[<-hi.ll]; exact z14 h2
 by_cases c1:(L.tn t).jny.length<=W.done.getD t 0
 ·have em:W.move L t lm={ W with gone:=W.gone.set t true }:=by unfold Wd.move; rw[if_pos c1]
  have hot:∀u,u≠t->SameU W { W with gone:=W.gone.set t true } u:=fun u hu=>⟨rfl,rfl,rfl,z0h _ _ _ _ _ hu⟩
  have hno:∀s,({ W with gone:=W.gone.set t true }:Wd).onB L t s=true->False:=fun s hs=>by
   have:=(z4a.1 hs).1;have e:(W.gone.set t true).getD t false=true:=by rw[z0d _ _ _ _ _ (by rw[hwl.g]; exact ht),if_pos rfl]
   have this':(W.gone.set t true).getD t false=false:=this;rw[e] at this';cases this'
  refine⟨hwk,fun hd=>by omega,fun hd=>by omega,?_,?_,?_⟩
  ·rw[em]
   exact h.upd hU hot (fun r hr hrt=>by
    have:=h.ln r hr;rw[hrt,het] at this;exact(TrL.congr (W:=W) (V:={ W with gone:=W.gone.set t true }) rfl rfl rfl this).up true) (fun hn=>h.no t ht hn) (fun _=>c1) (h.dl t ht) (h.hb t ht) (fun s hs=>absurd (hno s hs) id) ht
  ·rw[em]; exact hot
  ·rw[em]; exact fun s hs=>absurd (hno s hs) id
 have hd:W.done.getD t 0 < (L.tn t).jny.length:=by omega
 have hrl:W.rt L t < L.rts.length:=hT.jr t ht _ hd;have hng:W.gone.getD t false=false:=by
  cases hg:W.gone.getD t false with
  | false=>rfl
  | true=>have:=h.gn t ht hg; omega
 by_cases c2:W.head.getD t 0 < 0
 ·by_cases c3:pk lm (W.rt L t)=103
  ·have hph:(C.line (W.rt L t)).ph=103:=by
    rw[hla _ hrl] at c3;by_cases e:(C.line (W.rt L t)).ph=103
    ·exact e
    ·rw[if_neg e] at c3; cases c3
   have hown:=own_lamp hT hi eL h ht hd c2 hph;have hp:(C.line (W.rt L t)).ph≠46:=by omega
   have hln:=h.ln _ hp;rw[hown,het] at hln;have hA:Ahead L W (C.sta.getD t 0) t (W.rt L t):=by
    rcases hln with a | ⟨a,-⟩ | ⟨-,a⟩ | a
    ·exact a.2.1
    ·cases a
    ·have:=a.ph; omega
    ·have:=a.ph; omega
   have hg0:(C.line (W.rt L t)).gone=0:=(hi.li _ (by rw[eL]; exact hrl)).g0 (by omega);have hpp:=plen_pos hT hrl;have hlk:=lock_iff eL hpp hp (by omega);have em:W.move L t lm={ W with tail:=W.tail.set t (-1),head:=W.head.set t 0 }:=by unfold Wd.move; rw[if_neg c1,if_pos c2,if_pos c3]
   obtain⟨V,hV⟩:∃V,V=W.move L t lm:=⟨_,rfl⟩
   have v1:V.done=W.done:=by rw[hV,em]
   have v2:V.head.getD t 0=0:=by
    rw[hV,em];show (W.head.set t 0).getD t 0=0;rw[z0d _ _ _ _ _ (by rw[hwl.h]; exact ht),if_pos rfl]
   have v3:V.tail.getD t 0=-1:=by
    rw[hV,em];show (W.tail.set t (-1)).getD t 0=-1;rw[z0d _ _ _ _ _ (by rw[hwl.t]; exact ht),if_pos rfl]
   have v4:V.gone=W.gone:=by rw[hV,em]
   have hot:∀u,u≠t->SameU W V u:=fun u hu=>by
    rw[hV,em];exact⟨rfl,z0h _ _ _ _ _ hu,z0h _ _ _ _ _ hu,rfl⟩
   have hrtV:V.rt L t=W.rt L t:=by unfold Wd.rt; rw[v1]
   have hAV:Ahead L V (C.sta.getD t 0) t (W.rt L t):=⟨by rw[v1]; exact hA.1,by rw[v1]; exact hA.2.1,hrtV⟩
   have hgr:∀s,V.onB L t s=true->W.onB L t s=true\/s=psec L (W.rt L t) 0:=fun s hs=>by
    rcases (z4a.1 hs).2 with ⟨a,-⟩ | ⟨-,i,i1,i2,i3⟩
    ·omega
    ·rw[v2] at i2
     rw[v3] at i1;rcases Int.lt_or_le i 0 with hi0 | hi0
     ·left
      have e:i=-1:=by omega
      rw[e,place_neg,hrtV] at i3;rw[<-i3];exact on_stand hT ht hng hA c2
     ·right
      have e:i=((0:Nat):Int):=by omega
      rw[e,place_at,hrtV] at i3;exact i3.symm
   refine⟨hwk,fun _ _ _=>?_,fun _ h0=>by omega,?_,?_,?_⟩
   ·have hsm:∀u s,({ W with tail:=W.tail.set t (-1) }:Wd).onB L u s=W.onB L u s:=fun u s=>by
     by_cases hut:u=t
     ·subst hut
      unfold Wd.onB;rw[if_pos c2,if_pos (show ({ W with tail:=W.tail.set u (-1) }:Wd).head.getD u 0 < 0 from c2)];rfl
     ·exact SameU.on (W:=W) (V:={ W with tail:=W.tail.set t (-1) }) ⟨rfl,rfl,z0h _ _ _ _ _ hut,rfl⟩ L s
    have:=entry_ok hT eL h hli (i:=0) (.inl hph) hown hpp (by omega) hrl rfl (by
     cases hc:W.onB L t (psec L (W.rt L t) 0) with
     | false=>rfl
     | true=>
      exfalso;rcases (z4a.1 hc).2 with ⟨-,a⟩ | ⟨a,-⟩
      ·rw[z3k hT ht hd] at a
       exact z4x hT hrl hpp a.symm
      ·omega)
    unfold Wd.entOK at this ⊢;refine⟨?_,this.2⟩;rw[<-this.1];unfold Wd.takenB
    congr 1
    funext u
    exact hsm u _
   ·rw[<-hV]
    refine h.upd hU hot (fun r hr hrt=>?_) (fun hn=>absurd hown (hn _ hp)) (fun hg=>?_) (by rw[v1]; exact h.dl t ht) (by omega) (fun s hs=>?_) ht
    ·have e:=uniq hr hp hrt hown
     subst e;exact .inr (.inl ⟨rfl,hph,hAV,v2,v3⟩)
    ·rw[v4,hng] at hg; cases hg
    ·rcases hgr s hs with a | a
     ·exact .inl a
     ·exact .inr ⟨_,by rw[a]; exact hlk,hown⟩
   ·rw[<-hV]; exact hot
   ·rw[<-hV]
    intro s hs;rcases hgr s hs with a | a
    ·exact .inl a
    ·exact .inr ⟨_,by rw[a]; exact hlk,hown,.inl hph⟩
  ·have em:W.move L t lm=W:=by unfold Wd.move; rw[if_neg c1,if_pos c2,if_neg c3]
   refine⟨hwk,fun _ _ a=>absurd a c3,fun _ h0=>by omega,?_,?_,?_⟩
   ·rw[em]
    exact h.upd hU (fun u _=>⟨rfl,rfl,rfl,rfl⟩) (fun r hr hrt=>by
     have:=h.ln r hr;rw[hrt,het] at this;exact this.up true) (fun hn=>h.no t ht hn) (fun hg=>h.gn t ht hg) (h.dl t ht) (h.hb t ht) (fun s hs=>.inl hs) ht
   ·rw[em]; exact fun u _=>⟨rfl,rfl,rfl,rfl⟩
   ·rw[em]; exact fun s hs=>.inl hs
 ·obtain⟨r,hr,hrt⟩:=h.has ht (by omega)
  have hln:=h.ln r hr;rw[hrt,het] at hln;obtain⟨hA,hO⟩:Ahead L W (C.sta.getD t 0) t r/\OnIt (C.line r) (W.head.getD t 0) (W.tail.getD t 0) (plen L r) false:=by
   rcases hln with a | ⟨a,-⟩ | a | a
   ·exact absurd a.2.2 c2
   ·cases a
   ·exact a
   ·exact absurd a.h c2
  have hrr:W.rt L t=r:=hA.2.2;have hrl':r < L.rts.length:=by rw[<-hrr]; exact hrl
  have hpl:W.plen L t=plen L r:=by unfold Wd.plen plen; rw[hrr]
  have hh0:=hO.h0;have hhl:=hO.hl;have htt:=hO.tt;have hgg:=hO.g;have key:∀V:Wd,V=W.move L t lm->(∀u,u≠t->SameU W V u)->V.gone=W.gone->V.done.getD t 0<=(L.tn t).jny.length->-1<=V.head.getD t 0->TrL L V (C.sta.getD t 0) t r (C.line r) true →
    (∀s,V.onB L t s=true->W.onB L t s=true\/∃r,C.lockB s r=true/\(C.line r).train=t/\((C.line r).ph=103\/(C.line r).ph=116)) →
    (W.tail.getD t 0=W.head.getD t 0->(W.head.getD t 0).toNat+1 < W.plen L t/\W.entOK L t ((W.head.getD t 0).toNat+1))->MoveOK L C W lm t e:=fun V hV hot hgo hdl hhb htl hgr he2=>by
   refine⟨hwk,fun _ a _=>absurd a c2,fun _ _ a=>he2 a,?_,?_,?_⟩
   ·rw[<-hV]
    refine h.upd hU hot (fun q hq hqt=>?_) (fun hn=>absurd hrt (hn _ hr)) (fun hg=>?_) hdl hhb (fun s hs=>?_) ht
    ·have e:=uniq hq hr hqt hrt
     subst e;exact htl
    ·rw[hgo,hng] at hg; cases hg
    ·rcases hgr s hs with a | ⟨q,a,b,-⟩
     ·exact .inl a
     ·exact .inr ⟨q,a,b⟩
   ·rw[<-hV]; exact hot
   ·rw[<-hV]; exact hgr
  by_cases c4:W.tail.getD t 0=W.head.getD t 0
  ·have hn1:=hO.tn c4
   obtain⟨k,hk⟩:∃k:Nat,W.head.getD t 0=k:=⟨(W.head.getD t 0).toNat,by omega⟩
   have hk1:k+1 < plen L r:=by omega
   have hgk:(C.line r).gone<=k+1:=by omega
   have hnk:W.onB L t (psec L r (k+1))=false:=by
    cases hc:W.onB L t (psec L r (k+1)) with
    | false=>rfl
    | true=>
     have:=(on_path hT hrl' hng hA hh0 hhl (by omega) hk1).1 hc;omega
   have em:W.move L t lm={ W with head:=W.head.set t (W.head.getD t 0+1) }:=by unfold Wd.move; rw[if_neg c1,if_neg c2,if_pos c4]
   have v2:(W.head.set t (W.head.getD t 0+1)).getD t 0=W.head.getD t 0+1:=by rw[z0d _ _ _ _ _ (by rw[hwl.h]; exact ht),if_pos rfl]
   refine key { W with head:=W.head.set t (W.head.getD t 0+1) } em.symm (fun u hu=>⟨rfl,z0h _ _ _ _ _ hu,rfl,rfl⟩) rfl (h.dl t ht) (by show -1<=(W.head.set t (W.head.getD t 0+1)).getD t 0; omega) ?_ ?_ ?_
   ·refine .inr (.inr (.inl ⟨hA,?_⟩))
    show OnIt (C.line r) ((W.head.set t (W.head.getD t 0+1)).getD t 0) (W.tail.getD t 0) (plen L r) true;rw[v2];exact⟨hO.ph,by omega,by omega,by omega,fun e=>by omega,by omega,fun i h1 h2=>hO.m1 i h1 (by rw[if_pos rfl] at h2; rw[if_neg (by decide)]; omega),fun i h1 h2=>by have:=hO.m2 i h1 h2; omega⟩
   ·intro s hs
    rcases (z4a.1 hs).2 with ⟨a,-⟩ | ⟨-,i,i1,i2,i3⟩
    ·have a':(W.head.set t (W.head.getD t 0+1)).getD t 0 < 0:=a
     omega
    ·have i1':W.tail.getD t 0<=i:=i1
     have i2':i<=(W.head.set t (W.head.getD t 0+1)).getD t 0:=i2;have i3':W.place L t i=s:=i3;rcases Int.lt_or_le (W.head.getD t 0) i with hi1 | hi1
     ·right
      have e:i=((k+1:Nat):Int):=by omega
      rw[e,place_at,hrr] at i3';refine⟨r,?_,hrt,.inr hO.ph⟩;rw[<-i3'];exact lock_iff eL hk1 hr hgk
     ·left
      rw[z4a];exact⟨hng,.inr ⟨hh0,i,i1',hi1,i3'⟩⟩
   ·intro _
    rw[hk,Int.toNat_natCast,hpl];exact⟨hk1,entry_ok hT eL h hli (.inr hO.ph) hrt hk1 hgk hrl' hrr hnk⟩
  ·have htl:W.tail.getD t 0=W.head.getD t 0 - 1:=by omega
   by_cases c5:W.head.getD t 0=(plen L r:Int) - 1
   ·obtain⟨V,hV⟩:∃V,V=W.move L t lm:=⟨_,rfl⟩
    have hmv:=hV;unfold Wd.move at hmv;rw[if_neg c1,if_neg c2,if_neg c4,hpl,if_pos c5] at hmv;have v1:V.done.getD t 0=W.done.getD t 0+1:=by
     rw[hmv];show (W.done.set t _).getD t 0=_;rw[z0d _ _ _ _ _ (by rw[hwl.d]; exact ht),if_pos rfl]
    have v2:V.head.getD t 0=-1:=by
     rw[hmv];show (W.head.set t _).getD t 0=_;rw[z0d _ _ _ _ _ (by rw[hwl.h]; exact ht),if_pos rfl]
    have v4:V.gone=W.gone:=by rw[hmv]
    refine key V hV (fun u hu=>by rw[hmv]; exact⟨z0h _ _ _ _ _ hu,z0h _ _ _ _ _ hu,z0h _ _ _ _ _ hu,rfl⟩) v4 (by omega) (by omega) ?_ ?_ (fun a=>absurd a c4)
    ·refine .inr (.inr (.inr ⟨hO.ph,by rw[v1]; exact hA.1,by omega,?_,by omega,fun i h1 h2=>hO.m1 i h1 (by rw[if_neg (by decide)]; omega)⟩))
     rw[v1,Nat.add_sub_cancel];exact hrr
    ·intro s hs
     left;rcases (z4a.1 hs).2 with ⟨-,a⟩ | ⟨a,-⟩
     ·unfold Wd.stand at a
      rw[if_neg (by omega),v1,Nat.add_sub_cancel] at a;have hrr':(L.tn t).jny.getD (W.done.getD t 0) 0=r:=hrr;rw[hrr',psec_end hT hrl'] at a;rw[<-a];exact(on_path hT hrl' hng hA hh0 hhl (by omega) (by omega)).2 ⟨by omega,by omega⟩
     ·omega
   ·obtain⟨V,hV⟩:∃V,V=W.move L t lm:=⟨_,rfl⟩
    have hmv:=hV;unfold Wd.move at hmv;rw[if_neg c1,if_neg c2,if_neg c4,hpl,if_neg c5] at hmv;have v3:V.tail.getD t 0=W.head.getD t 0:=by
     rw[hmv];show (W.tail.set t _).getD t 0=_;rw[z0d _ _ _ _ _ (by rw[hwl.t]; exact ht),if_pos rfl]
    have v1:V.done=W.done:=by rw[hmv]
    have v2:V.head=W.head:=by rw[hmv]
    have v4:V.gone=W.gone:=by rw[hmv]
    have hrtV:V.rt L t=W.rt L t:=by unfold Wd.rt; rw[v1]
    refine key V hV (fun u hu=>by rw[hmv]; exact⟨rfl,rfl,z0h _ _ _ _ _ hu,rfl⟩) v4 (by rw[v1]; exact h.dl t ht) (by rw[v2]; omega) ?_ ?_ (fun a=>absurd a c4)
    ·refine .inr (.inr (.inl ⟨⟨by rw[v1]; exact hA.1,by rw[v1]; exact hA.2.1,hrtV.trans hrr⟩,?_⟩))
     rw[v2,v3];exact⟨hO.ph,by omega,by omega,.inl rfl,fun _=>by omega,by omega,fun i h1 h2=>hO.m1 i h1 (by rw[if_pos rfl] at h2; rw[if_neg (by decide)]; exact h2),hO.m2⟩
    ·intro s hs
     left;rcases (z4a.1 hs).2 with ⟨a,-⟩ | ⟨-,i,i1,i2,i3⟩
     ·rw[v2] at a; omega
     ·rw[v3] at i1
      rw[v2] at i2;rw[z4a];refine⟨hng,.inr ⟨hh0,i,by omega,i2,?_⟩⟩;rw[<-i3];unfold Wd.place;rw[hrtV]
theorem move_len {L:Lay} {W:Wd} (h:WLen L W) (t:Nat) (lm:ByteArray):WLen L (W.move L t lm):=by
 obtain⟨a,b,c,d⟩:=h;unfold Wd.move
 repeat' split
 all_goals exact⟨by simp[a],by simp[b],by simp[c],by simp[d]⟩
theorem move_sw (L:Lay) (W:Wd) (t:Nat) (lm:ByteArray):(W.move L t lm).aim=W.aim/\(W.move L t lm).lie=W.lie/\(W.move L t lm).left=W.left:=by
 unfold Wd.move
 repeat' split
 all_goals exact⟨rfl,rfl,rfl⟩
theorem SameU.refl (W:Wd) (u:Nat):SameU W W u:=⟨rfl,rfl,rfl,rfl⟩
theorem SameU.trans {A B C:Wd} {u:Nat} (h:SameU A B u) (k:SameU B C u):SameU A C u:=⟨k.1.trans h.1,k.2.1.trans h.2.1,k.2.2.1.trans h.2.2.1,k.2.2.2.trans h.2.2.2⟩
theorem z38 {α:Type} {l m:List α} {u:Nat} {x d:α} (h1:u < l.length) (h2:u < m.length):(l.set u x).getD u d=(m.set u x).getD u d:=by
 rw[z0d _ _ _ _ _ h1,z0d _ _ _ _ _ h2,if_pos rfl,if_pos rfl]
theorem move_cong {L:Lay} {W V:Wd} {u:Nat} (h:SameU W V u) (hW:WLen L W) (hV:WLen L V) (hu:u < L.tns.length) (lm:ByteArray):SameU (W.move L u lm) (V.move L u lm) u:=by
 obtain⟨a,b,c,d⟩:=h;have hr:V.rt L u=W.rt L u:=by unfold Wd.rt; rw[a]
 have hp:V.plen L u=W.plen L u:=by unfold Wd.plen; rw[hr]
 have l1:u < W.done.length:=by rw[hW.d]; exact hu
 have l2:u < V.done.length:=by rw[hV.d]; exact hu
 have l3:u < W.head.length:=by rw[hW.h]; exact hu
 have l4:u < V.head.length:=by rw[hV.h]; exact hu
 have l5:u < W.tail.length:=by rw[hW.t]; exact hu
 have l6:u < V.tail.length:=by rw[hV.t]; exact hu
 have l7:u < W.gone.length:=by rw[hW.g]; exact hu
 have l8:u < V.gone.length:=by rw[hV.g]; exact hu
 unfold Wd.move;rw[a,b,c,hr,hp]
 repeat' split
 ·exact⟨a,b,c,z38 l8 l7⟩
 ·exact⟨a,z38 l4 l3,z38 l6 l5,d⟩
 ·exact⟨a,b,c,d⟩
 ·exact⟨a,z38 l4 l3,c,d⟩
 ·exact⟨z38 l2 l1,z38 l4 l3,z38 l6 l5,d⟩
 ·exact⟨a,b,z38 l6 l5,d⟩
structure MI (L:Lay) (C:RBx) (W V:Wd) (lm:ByteArray) (go:Nat->Bool) (k:Nat):Prop where
 tr:Trs L C V (fun u=>decide (u < k))
 sw:V.aim=W.aim/\V.lie=W.lie/\V.left=W.left
 wl:WLen L V
 ot:∀u,k<=u->SameU W V u
 mv:∀u,u < k->SameU (if go u then W.move L u lm else W) V u
 gr:∀u s,u < L.tns.length->V.onB L u s=true->W.onB L u s=true\/∃r,C.lockB s r=true/\(C.line r).train=u/\((C.line r).ph=103\/(C.line r).ph=116)
theorem Trs.flag {L:Lay} {C:RBx} {W:Wd} {e e':Nat->Bool} (h:Trs L C W e) (hi:Inv C) (eL:C.L=L) (he:∀u,u < L.tns.length->e u=true->e' u=true):Trs L C W e':=by
 refine⟨fun r hr=>?_,h.no,h.gn,h.dl,h.hb,h.A,h.po⟩;have hr':r < C.L.rts.length:=by rw[<-hi.ll]; exact z14 hr
 have ht:=(hi.tr r hr' hr).1;rw[eL] at ht;have:=h.ln r hr;cases hc:e (C.line r).train with
 | true=>rw[hc] at this; rw[he _ ht hc]; exact this
 | false=>rw[hc] at this; exact this.up _
theorem lies_sw {L:Lay} {C:RBx} {W V:Wd} (h:Lies L C W) (e1:V.aim=W.aim) (e2:V.lie=W.lie):Lies L C V:=by
 intro r x hw hp;rw[e1,e2];exact h r x hw hp
theorem moves_ok {L:Lay} {C:RBx} {W:Wd} {lm:ByteArray} (go:Nat->Bool) (hT:LayT L) (hi:Inv C) (eL:C.L=L) (hU:LockU C) (h:Trs L C W (fun _=>false)) (hli:Lies L C W) (hwl:WLen L W) (hla:∀r,r < L.rts.length->pk lm r=if (C.line r).ph=103 then 103 else 114):∀k,k<=L.tns.length->MI L C W (W.moveN L lm go k) lm go k
 | 0,_=>⟨h.flag hi eL (fun _ _ a=>absurd a (by decide)),⟨rfl,rfl,rfl⟩,hwl,fun u _=>SameU.refl _ _,fun u hu=>absurd hu (Nat.not_lt_zero _),fun u s _ a=>.inl a⟩
 | k+1,hk=>by
  have ih:=moves_ok go hT hi eL hU h hli hwl hla k (by omega);show MI L C W (if go k then (W.moveN L lm go k).move L k lm else W.moveN L lm go k) lm go (k+1);cases hg:go k with
  | false=>
   rw[if_neg (by decide)];refine⟨ih.tr.flag hi eL (fun u _ a=>by simp at a ⊢; omega),ih.sw,ih.wl,fun u hu=>ih.ot u (by omega),fun u hu=>?_,ih.gr⟩;by_cases e:u=k
   ·subst e
    rw[hg,if_neg (by decide)];exact ih.ot u (Nat.le_refl _)
   ·exact ih.mv u (by omega)
  | true=>
   rw[if_pos rfl];have M:=move_ok hT hi eL hU ih.tr (lies_sw hli ih.sw.1 ih.sw.2.1) ih.wl hla (t:=k) (by omega) (by simp);obtain⟨s1,s2,s3⟩:=move_sw L (W.moveN L lm go k) k lm;refine⟨M.tr.flag hi eL (fun u _ a=>?_),⟨s1.trans ih.sw.1,s2.trans ih.sw.2.1,s3.trans ih.sw.2.2⟩,move_len ih.wl k lm,fun u hu=>(ih.ot u (by omega)).trans (M.ot u (by omega)),fun u hu=>?_,fun u s hu ho=>?_⟩
   ·by_cases e:u=k
    ·simp; omega
    ·simp only[if_neg e] at a
     simp at a ⊢; omega
   ·by_cases e:u=k
    ·subst e
     rw[hg,if_pos rfl];exact move_cong (ih.ot u (Nat.le_refl _)) hwl ih.wl (by omega) lm
    ·exact(ih.mv u (by omega)).trans (M.ot u e)
   ·by_cases e:u=k
    ·subst e
     rcases M.gr s ho with a | a
     ·exact ih.gr u s hu a
     ·exact .inr a
    ·rw[(M.ot u e).on] at ho
     exact ih.gr u s hu ho
theorem Cyc.line4 {L:Lay} {C:RBx} {W V:Wd} {f:Fr} (h:Cyc L C W f V) {r:Nat} (hp:((C.s4 f).line r).ph=103\/((C.s4 f).line r).ph=116):(C.s4 f).line r=(C.s2 f).line r:=by
 rw[<-h.line3];rcases z2r (C.s3 f) f r (C.s3 f).waits.length with e | e
 ·exact e
 ·have:((C.s4 f).line r).ph=119:=e
  omega
theorem Cyc.lock4 {L:Lay} {C:RBx} {W V:Wd} {f:Fr} (h:Cyc L C W f V) {r s:Nat} (hp:((C.s4 f).line r).ph=103\/((C.s4 f).line r).ph=116) (hl:(C.s4 f).lockB s r=true):C.lockB s r=true:=by
 refine h.sub2 (s:=s) (r:=r) ?_;unfold RBx.lockB at hl ⊢;rw[h.line4 hp,h.S.l4] at hl;rw[h.S.l2];exact hl
theorem past_stand {L:Lay} (hT:LayT L) {W:Wd} {s t r:Nat} {x:RLn} (hr:r < L.rts.length) (h:PastIt L W s t r x) {y:Nat} (ho:W.onB L t y=true):y=psec L r (plen L r - 1):=by
 rcases (z4a.1 ho).2 with ⟨-,e⟩ | ⟨e,-⟩
 ·unfold Wd.stand at e
  rw[if_neg (by have:=h.d; omega),h.er,psec_end hT hr] at e;exact e.symm
 ·have:=h.h; omega
theorem Cyc.behind {L:Lay} {C:RBx} {W V:Wd} {f:Fr} (h:Cyc L C W f V) {r s:Nat} (hp:PastIt L W s ((C.s4 f).line r).train r ((C.s4 f).line r)) (hg:((C.s4 f).line r).gone+1=plen L r) :
  W.takenB L (bef L r ((C.s4 f).line r).gone)=false/\∀q,(((C.s4 f).line q).ph=103\/((C.s4 f).line q).ph=116)->(C.s4 f).lockB (bef L r ((C.s4 f).line r).gone) q=false:=by
 have e4:=h.line4 (.inr hp.ph);rw[e4] at hp hg ⊢;have eL:=h.P.eL;rcases h.s2 r with ⟨c1,c2⟩ | ⟨c1,c2⟩
 ·have:=hp.ph; rw[c2] at this; omega
 have hr:=h.rt c1;rcases c2 with c2 | c2 | c2 | c2
 ·have:=c2.2.1.1; have:=hp.ph; omega
 ·have h1:=c2.2.1.2.h0
  have h2:=hp.h;rw[c2.2.2] at h2;omega
 ·have:=hp.ph; rw[c2.2] at this; cases this
 ·obtain⟨hx,hy,htr,k1,k2⟩:=c2
  have hgl:=(h.P.inv.li r (by rw[eL]; exact hr)).ps hx.ph;rw[eL] at hgl;have hpl:plen L r=(L.rt r).path.length:=by unfold plen; rw[z0o]
  rcases Nat.lt_or_ge ((C.line r).gone+1) (plen L r) with hlt | hge
  ·have hyg:=k1 hlt
   have hb:bef L r ((C.s2 f).line r).gone=psec L r (C.line r).gone:=by unfold bef; rw[hyg,if_pos (by omega),Nat.add_sub_cancel]
   rw[hb];have hlk:=lock_iff (C:=C) eL (i:=(C.line r).gone) (by omega) c1 (Nat.le_refl _);refine⟨?_,fun q hq=>?_⟩
   ·cases hc:W.takenB L (psec L r (C.line r).gone) with
    | false=>rfl
    | true=>
     exfalso;obtain⟨u,hu,ho⟩:=z28.1 hc;have:=h.P.tr.A r _ u hlk hu ho;subst this;have:=psec_inj h.T hr (by omega) (by omega) (past_stand h.T hr hx ho);omega
   ·cases hc:(C.s4 f).lockB (psec L r (C.line r).gone) q with
    | false=>rfl
    | true=>
     exfalso;have hcq:=h.lock4 hq hc;have:=h.P.kj.ki.1 q r _ hcq hlk;subst this;obtain⟨-,i,i1,i2,i3⟩:=lock_ix (h.S.l4.trans eL) hc;rw[e4,hyg] at i1;have:=psec_inj h.T hr i2 (by omega) i3;omega
  ·have hge':(C.line r).gone+1=plen L r:=by omega
   exfalso;have:=(h.P.be r hx hge').1;rw[(k2 hge').1] at this;cases this
theorem behind_moved {L:Lay} {C:RBx} {W V:Wd} {lm:ByteArray} {go:Nat->Bool} (hT:LayT L) (hi:Inv C) (eL:C.L=L) (h:Trs L C W (fun _=>false)) (hM:MI L C W V lm go L.tns.length) (hwl:WLen L W)
  (hb:∀r s,PastIt L W s (C.line r).train r (C.line r)->(C.line r).gone+1=plen L r->W.takenB L (bef L r (C.line r).gone)=false/\∀q,((C.line q).ph=103\/(C.line q).ph=116)->C.lockB (bef L r (C.line r).gone) q=false):Behind L C V:=by
 intro r hp hg;have hph:=hp.ph;have hr0:(C.line r).ph≠46:=by omega
 have hrC:r < C.L.rts.length:=by rw[<-hi.ll]; exact z14 hr0
 have hr:r < L.rts.length:=by rw[<-eL]; exact hrC
 have ht:=(hi.tr r hrC hr0).1;rw[eL] at ht;have fin:W.takenB L (bef L r (C.line r).gone)=false->(∀q,((C.line q).ph=103\/(C.line q).ph=116)->C.lockB (bef L r (C.line r).gone) q=false)->V.takenB L (bef L r (C.line r).gone)=false:=fun h1 h2=>by
  cases hc:V.takenB L (bef L r (C.line r).gone) with
  | false=>rfl
  | true=>
   exfalso;obtain⟨u,hu,ho⟩:=z28.1 hc;rcases hM.gr u _ hu ho with a | ⟨q,a,-,b⟩
   ·have:=z28.2 ⟨u,hu,a⟩
    rw[h1] at this;cases this
   ·rw[h2 q b] at a
    cases a
 rcases h.ln r hr0 with a | a | ⟨hA,hO⟩ | a
 ·have:=a.1; omega
 ·cases a.1
 ·generalize htt:(C.line r).train=t at *
  have hmv:=hM.mv t ht;have hh0:=hO.h0;have hng:=h.notGone ht hA;have hc5:W.head.getD t 0=(plen L r:Int) - 1/\W.tail.getD t 0≠W.head.getD t 0:=by
   have hvh:=hp.h;have hpl:W.plen L t=plen L r:=by unfold Wd.plen plen; rw[hA.2.2]
   cases hgo:go t with
   | false=>
    rw[hgo,if_neg (by decide)] at hmv;have:=hmv.2.1;omega
   | true=>
    rw[hgo,if_pos rfl] at hmv;have e2:=hmv.2.1;unfold Wd.move at e2;rw[if_neg (by have:=hA.2.1; omega),if_neg (by omega)] at e2;by_cases c4:W.tail.getD t 0=W.head.getD t 0
    ·rw[if_pos c4] at e2
     have e3:(W.head.set t (W.head.getD t 0+1)).getD t 0=W.head.getD t 0+1:=by rw[z0d _ _ _ _ _ (by rw[hwl.h]; exact ht),if_pos rfl]
     have e2':V.head.getD t 0=(W.head.set t (W.head.getD t 0+1)).getD t 0:=e2;omega
    ·rw[if_neg c4,hpl] at e2
     by_cases c5:W.head.getD t 0=(plen L r:Int) - 1
     ·exact⟨c5,c4⟩
     ·rw[if_neg c5] at e2
      have e2':V.head.getD t 0=W.head.getD t 0:=e2;omega
  have htl:W.tail.getD t 0=W.head.getD t 0 - 1:=by have:=hO.tt; omega
  have hgg:=hO.g;have hg0:(C.line r).gone=0:=by omega
  have hp1:plen L r=1:=by omega
  have hbf:bef L r (C.line r).gone=(L.rt r).foot:=by unfold bef; rw[hg0,if_neg (by omega)]
  rw[hbf];have hon:=on_foot hng hA hh0 (by omega);have hno:∀q,C.lockB (L.rt r).foot q=false:=fun q=>by
   cases hc:C.lockB (L.rt r).foot q with
   | false=>rfl
   | true=>
    exfalso;have h1:=h.A q _ t hc ht hon;obtain⟨hq0,i,i1,i2,i3⟩:=lock_ix eL hc;have hqr:=hi.one q r (by rw[<-hi.ll]; exact z14 hq0) hrC hq0 hr0 (by rw[htt]; exact h1.symm);subst hqr;exact z4x hT hr i2 i3
  refine⟨?_,fun q _=>hno q⟩;cases hc:V.takenB L (L.rt r).foot with
  | false=>rfl
  | true=>
   exfalso;obtain⟨u,hu,ho⟩:=z28.1 hc;rcases hM.gr u _ hu ho with a | ⟨q,a,-,-⟩
   ·have:=h.po u t _ hu ht a hon
    subst this;exact z4x hT hr (by omega) (past_stand hT hr hp ho).symm
   ·rw[hno q] at a
    cases a
 ·obtain⟨b1,b2⟩:=hb r _ a hg
  exact⟨fin b1 b2,b2⟩
end Go.Proofs.YtkbpocecbcaiiabGreatDoor
